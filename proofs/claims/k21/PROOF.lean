import PyProof.Rows.All
import Wide.All
import OpenK.AllK
import Wide.FinOn
import HandS.ForMost
import HandS.OwnEq
import HandS.Wide
import HandS.DictComp
import HandS.IsInst
import HandS.Codes
import HandS.Flow
import PyProof.ListStr
import PyProof.InstNe
import KE.KCallOwn
import KE.KOwnIter
import KE.KFmtOwn
import HandS.Style
import HandS.IterNext
import HandS.StrMore
import HandS.MakeKw
import HandS.IterVal
import HandS.More
import PyProof.DictUpdate
import HandS.RaiseMore
import HandS.Walk
import HandS.FStr
import HandS.ClsMeth
import HandS.MakeKwOnly
import HandS.ExcInit
import KE.GoesMore
import KE.KOpsOwn
import HandS.Star
import HandS.TryOnly
import HandS.ExcValue
import HandS.ExcIs
import HandS.Lambda
import KE.KExcIs
import HandS.Zip
import KE.GoesZip
import PyProof.Rows.StrMul
import KE.KEqDict
import PyProof.P3Eq
import KE.GoesEnum
import PyProof.CallFns
import PyProof.InstEq
import PyProof.ReprRoads
import HandS.WordsExc
import HandS.RaiseFrom
import PySem.Challenge.RW_blindrepair_k21_whole_one_to_one_kept
import HandS.Defaults
import KE.KxText
import PyProof.Rows.StrReprJoin
import PyProof.DictTable
import PyProof.DictRoadsH
import KE.KeyNested
import PyProof.DictKind
import PyProof.DictFindH
import HandS.Dict
import HandS.Small
import HandS.Iter
import HandS.TupLen
import PyProof.StrLawsAffix
import PyProof.Rows.SortStr
import PyProof.Rows.StrMeet
import PyProof.Rows.Range3
import OpenK.KOps
import HandS.Strs
import HandS.Text
import KE.KRevSl
import KE.RegKIsAll
set_option Elab.async false
set_option linter.all false
set_option maxRecDepth 100000
set_option maxHeartbeats 4000000
/-! Rules of our own: the methods with two underscores of a text's own class, called by Python's signs; list(text). -/
namespace L2
open PySem PySem.Spec PyProof.Rows
section
variable {X : Cx} {n : Nat} {CX : CXT} {C f : Addr} {fd : FuncData} {ps : List Str} {sp : Sp} {E : XK}
/-- a def that is called from within a built-in -/
theorem run_own {A : Around} {pins : List (Addr × Obj)} {σ : St} {H : Hp} {s : Shared} {Q : VK} {us : List Value} {vs : List V} (sb : Sub X n A) (F : FnOk X.prog X.w X.K X.mg X.base CX n f fd ps sp) (hb : Binds X.K fd ps []) (hx : Passes CX X E)
    (I : Inv X pins σ H s) (r : Vals vs us) (h : sp vs H Q E) : wpAny (model X.prog X.w) A (call (.ref f) us) (EP X pins σ Q) X.xe s := by
  have e0 : Env0 X.prog X.w X.K X.mg X.base A X.stack s H := by
    have e := I.env0
    exact ⟨by rw [sb.fr]; exact e.frames, e.mod, e.bs, e.bsz, e.funs, e.frf, e.hok, e.bare⟩
  have hl := F.len _ _ _ _ h
  have hl2 : us.length = ps.length := by rw [← r.length]; exact hl
  refine wpAny_call (codeAny_mono (F.run A X.stack s H ⟨us, []⟩ us vs Q E sb.room e0 (by
    have := hb s us I.kIn (by simpa using hl2)
    simpa using this) r h) fun r s' hq => ?_)
  cases r with
  | error e => exact hx pins σ H s e s' I hq
  | ok fl =>
    cases fl with
    | ret w => exact I.after hq
    | next => exact False.elim hq
    | brk => exact False.elim hq
    | cont => exact False.elim hq
/-- the instance that H tells, for the library's rules -/
theorem inst_at {pins : List (Addr × Obj)} {σ : St} {H : Hp} {s : Shared} {a dx : Addr} {fs : List (Str × V)} (I : Inv X pins σ H s) (ha : H a = some (.ins C dx fs)) : ∃ od, PySem.W.InstAt s.heap a (PySem.W.instObj C dx) C od := by
  obtain ⟨mA, J, _⟩ := ins_get I.hok ha
  obtain ⟨od, J, _⟩ := J.look
  exact ⟨od, J⟩
/-- where one stands in a built-in, once or twice deeper -/
theorem Sub.here (hr : Room n X.A) : Sub X n X.A := ⟨hr, rfl⟩
/-- the facts of a method that a sign calls -/
structure Own (K : PySem.W.Frag) (C : Addr) (m : Str) (f : Addr) : Prop where
  find : PySem.W.findIn K (.ref C) m = some (some (.ref f))
  fn : PySem.W.isFn K (.ref f) = true
/-- list(text) -/
theorem call_listS (hc : X.calm = true) : CallR X (.type "list") (fun xs H Q => ∃ z, xs = [.str z] ∧ z.length ≤ sizeLine ∧ ∀ l, H l = none → Q (.ref l) (upd H l (.lst (z.cps.toList.map fun c => V.str ⟨#[c]⟩)))) := by
  intro pins s σ H xs us Q I r h
  obtain ⟨z, rfl, hz, q⟩ := h
  obtain ⟨u, rfl, t, rfl⟩ := vals1 r
  refine call_list_str (I.ok.hd hc) z t (fun h' tk acc c' kp e it => ?_) hz
  have rv : ∀ (xs : List Nat) (acc : List Value), acc.length = xs.length → (∀ (j : Nat) (v : Value), acc[j]? = some v → ∃ (c : Nat) (u : Tok), xs[j]? = some c ∧ v = Value.str ⟨#[c]⟩ u) → Vals (xs.map fun c => V.str ⟨#[c]⟩) acc := by
    intro xs
    induction xs with
    | nil =>
      intro acc hl _
      cases acc with
      | nil => exact .nil
      | cons a r => cases hl
    | cons x xs ih =>
      intro acc hl hi
      cases acc with
      | nil => cases hl
      | cons a r =>
        obtain ⟨c, u, e1, e2⟩ := hi 0 a rfl
        have e1' : x = c := by simpa using e1
        subst e1'
        exact .cons ⟨u, e2⟩ (ih r (by simpa using hl) fun j v hj => by
          obtain ⟨c, u, e1, e2⟩ := hi (j + 1) v (by simpa using hj)
          exact ⟨c, u, by simpa using e1, e2⟩)
  have R : Vals (z.cps.toList.map fun c => V.str ⟨#[c]⟩) acc.toList := rv _ _ (by rw [Array.length_toList, it.1, Array.length_toList]) fun j v hj => by
    obtain ⟨c, u, e1, e2⟩ := it.2 j v (by rw [← Array.getElem?_toList]; exact hj)
    exact ⟨c, u, by rw [Array.getElem?_toList]; exact e1, e2⟩
  refine ⟨.ref s.heap.objs.size, _, I.laid (t' := tk) kp (Nat.le_refl _) (show ObjOk X.prog X.w _ h' _ (.lst _) from ⟨?_, acc.toList, c', R, by rw [Array.toArray_toList]; exact e⟩), rfl, q _ (I.hok.fresh (Nat.le_refl _))⟩
  rw [List.length_map, Array.length_toList]
  exact hz
/-- v in o, v not in o by an own __contains__ that gives True or False -/
theorem op_inOwn (F : FnOk X.prog X.w X.K X.mg X.base CX n f fd ps sp) (hb : Binds X.K fd ps []) (hx : Passes CX X E) (o : Own X.K C "__contains__" f) (hr : Room n X.A) :
    OpR X (compareOp .In) (fun x y H Q => ∃ a dx fs, y = .ref a ∧ H a = some (.ins C dx fs) ∧ sp [.ref a, x] H (fun v H' => ∃ b, v = .bl b ∧ Q (.bl b) H') E) := by
  intro pins s σ H x y v u Q I rx ry h
  obtain ⟨a, dx, fs, rfl, ha, hs⟩ := h
  cases ry
  obtain ⟨od, J⟩ := inst_at I ha
  obtain ⟨m, hF⟩ := I.fr
  refine PySem.W.in_K hF I.ok.mod.kin J o.find o.fn (thn (run_own (Sub.here hr) F hb hx I (show Vals [V.ref a, x] [Value.ref a, v] from .cons rfl (.cons rx .nil)) hs) fun v s' q => ?_)
  obtain ⟨y, H', I', ry, b, rfl, q⟩ := q
  cases ry
  exact wpAny_truthy_bool ⟨.bl b, H', I', rfl, q⟩
/-- o[k] by an own __getitem__ -/
theorem pe_ixOwn {a b : Expr} {ta tb : TE} {pos : Pos} (F : FnOk X.prog X.w X.K X.mg X.base CX n f fd ps sp) (hb : Binds X.K fd ps []) (hx : Passes CX X E) (o : Own X.K C "__getitem__" f) (hf : PySem.W.fnIn X.K f = true) (hr : Room (n + 1) X.A) (hA : PE X a ta) (hB : PE X b tb)
    (hsl : ∀ v u, subscripted b true v u = runValue (.builtin "lifetime.subscript" ⟨[v, u], []⟩) := by intro _ _; rfl) :
    PE X (.Subscript a b pos) (tOp (fun x y H Q => ∃ a dx fs, x = .ref a ∧ H a = some (.ins C dx fs) ∧ sp [.ref a, y] H Q E) ta tb) := by
  refine ⟨fun pins s σ H Q I h => ?_⟩
  refine Subscript_ (binT hA hB I h fun v u s2 x y H2 I2 rx ry q => ?_)
  obtain ⟨a, dx, fs, rfl, ha, hs⟩ := q
  cases rx
  obtain ⟨od, J⟩ := inst_at I2 ha
  obtain ⟨m, hF⟩ := I2.fr
  exact PySem.W.sub_K hF I2.ok.mod.kin J o.find hf o.fn (run_own (Sub.here hr).in1 F hb hx I2 (show Vals [V.ref a, y] [Value.ref a, u] from .cons rfl (.cons ry .nil)) hs) (hsl _ _)
end
end L2
set_option Elab.async false
set_option linter.all false
set_option maxRecDepth 100000
set_option maxHeartbeats 4000000
/-! == and != by an own __eq__ that gives True or False. -/
namespace PySem.W
open PySem PySem.Calls PyProof.Rows Builtin
end PySem.W
namespace L2
open PySem PySem.Spec PyProof.Rows
end L2
set_option Elab.async false
set_option linter.all false
set_option maxRecDepth 100000
set_option maxHeartbeats 4000000
/-! for x in o, by an own __iter__ that gives iter(a tuple). -/
namespace L2
open PySem PySem.Spec PyProof.Rows ItX
abbrev itTObj (l : Addr) : Obj := { cls := .type "tuple_iterator", data := .fields #[.ref l, .int 0 0] }
/-- at it a fresh iterator of the tuple at l -/
def ItT (l it : Addr) : HO := .ext fun h => h.get? it = some (itTObj l)
theorem itT_ok {P : Program} {w : World} {H : Hp} {h : Heap} {l it : Addr} (e : h.get? it = some (itTObj l)) : ObjOk P w H h it (ItT l it) := ⟨e, ⟨_, e⟩, fun h1 h2 q k => k _ q⟩
theorem call_iterTup {prog : Program} {w : World} {A : Around} {E : Value → Shared → Prop} {s : Shared} {l : Addr} {items : Array Value} {Q : Value → Shared → Prop} (hl : s.heap.IsTuple l items) (h : Q (.ref s.heap.objs.size) { s with heap := s.heap.push (itTObj l) }) : wpAny (model prog w) A (call (.builtin "iter") [.ref l]) Q E s := by
  refine Calls.call_function_entry (by decide +kernel) (by decide +kernel) PySem.W.kdk_entry_iter (PySem.W.kdk_args_iter _) ?_
  unfold Builtin.«iter»
  refine wpAny_bind (m := someArgs "iter" 1 2 _) (wpAny_of_eq (a := [Value.ref l]) (by first | rfl | kernel_rfl!) ?_)
  show wpAny _ _ (pyIter (.ref l) >>= _) _ _ _
  refine wpAny_bind (wpAny_pyIter_tuple hl ?_)
  exact wpAny_pure ⟨_, rfl, h⟩
section
variable {X : Cx}
theorem call_iterT : CallR X (.builtin "iter") (fun xs H Q => ∃ (l : Addr) (zs : List V), xs = [.ref l] ∧ SqT X.K H l zs ∧ ∀ it, H it = none → X.s_0.heap.objs.size ≤ it → Q (.ref it) (upd H it (ItT l it))) := by
  intro pins s σ H xs us Q I r h
  obtain ⟨l, zs, rfl, hq, q⟩ := h
  obtain rfl := Vals.ref1 r
  obtain ⟨its, rv, pl, hz⟩ := I.tuple hq
  refine call_iterTup (show s.heap.IsTuple l its.toArray from pl) ?_
  exact ⟨.ref s.heap.objs.size, _, I.laid (t' := s.toks) (fun b u e => Heap.get?_push_of_some _ e) (Nat.le_refl _) (itT_ok (Heap.get?_push_size _ rfl)), rfl, q _ (I.hok.fresh (Nat.le_refl _)) I.sz⟩
variable {n : Nat} {CX : CXT} {C f : Addr} {fd : FuncData} {ps : List Str} {sp : Sp} {E : XK}
/-- a def whose promise may speak of how many objects stand at its entry -/
structure FnN (P : Program) (w : World) (K : PySem.W.Frag) (mg : Str → Option Value) (base : Heap) (CX : CXT) (k : Nat) (f : Addr) (fd : FuncData) (ps : List Str) (sn : Nat → Sp) : Prop where
  many : ∀ m vs H Q E, sn m vs H Q E → vs.length = ps.length
  goes : ∀ (A : Around) (outer : List Env) (s : Shared) (H : Hp) (args : Args) (us : List Value) (vs : List V) (Q : VK) (E : XK), Room k A → Env0 P w K mg base A outer s H → BindsTo s fd args (ps.zip us) → Vals vs us →
    sn s.heap.objs.size vs H Q E → codeAny (model P w) A (.call (.ref f) args) (CR CX outer P w H s Q E) s
theorem fnN_mk {CX : CXT} {P : Program} {w : World} {K : PySem.W.Frag} {mg : Str → Option Value} {base : Heap} {k : Nat} {f : Addr} {x qual : Str} {st : Stmt} {fd : FuncData} {N ps : List Str} {sn : Nat → Sp}
    (F : Fun K x qual st f fd) (S : FnScope N ps (defScope st)) (many : ∀ m vs H Q E, sn m vs H Q E → vs.length = ps.length)
    (body : ∀ (cdv : Value) (A : Around) (outer : List Env) (s : Shared) (H : Hp) (vs : List V) (Q : VK) (E : XK), Room k (A.deeper (envOfC qual (defScope st) s.heap.objs.size f cdv)) → sn s.heap.objs.size vs H Q E →
      ∃ t, PSs (cxOf CX P w K mg base N qual (defScope st) f cdv A outer s H E) (defBody st) t ∧ t { nx := fun _ H' => Q .non H', rt := Q } (start N vs) H) : FnN P w K mg base CX (k + 1) f fd ps sn := by
  obtain ⟨oc, od, kV, doc, pm, an, cdv, ct, osl, rfl, lk, hcd⟩ := F.ex
  refine ⟨many, fun A₁ out s₁ H₁ ar us₁ vs₁ Q₁ E₁ room ev bd rel prom => ?_⟩
  have len₁ := many _ _ _ _ _ prom
  have kin₁ : K.In s₁.heap := ev.mod.kin.keeps (fun a o z => (ev.bs a o z).left)
  have kinds : ∀ y ∈ ps.zip us₁, (defScope st).names.lookup y.1 = some .local ∨ ((defScope st).names.lookup y.1 = some .cell ∧ ((cellsFrom (s₁.heap.objs.size + 1) (defScope st).names []).lookup y.1).isSome = true) := by
    rintro ⟨nm, vl⟩ mem
    rcases S.par nm (List.of_mem_zip mem).1 with z | z
    · exact Or.inl z
    · exact Or.inr ⟨z, PySem.W.cellsFrom_some _ _ _ (Or.inl z)⟩
  refine codeAny_call_function room.depth (kin₁ _ _ lk) rfl S.co S.gen rfl (PySem.W.codeRec_of kin₁ hcd) (bd _ _ _ _ ?_)
  refine wpAny_newFunctionEnv_cells S.kind kinds (fun e₁ is₁ s₂ made => ?_)
  subst is₁
  refine ⟨Heap.NoLimit.keeps (ev.mod.nolimit.keeps fun a o z => (ev.bs a o z).left) made.toInCall.keep, codeAny_func ?_⟩
  obtain ⟨t₁, term, reads⟩ := body cdv A₁ out s₁ H₁ vs₁ Q₁ E₁ (room.deeper _) prom
  have inv₁ := inv_start (CX := CX) (P := P) (w := w) (mg := mg) (base := base) (E := E₁) S room.hd ev len₁ rel made
  refine wpAny_mono (term.run [] s₂ (start N vs₁) H₁ _ inv₁ reads) (fun flow s₃ done => ?_) (fun _ _ z => z)
  cases flow with
  | ret u₁ =>
    obtain ⟨v₁, _, H₂, J, rv, q⟩ := done
    exact ⟨v₁, H₂, J.os, J.bare, J.base, J.hok, rv, q⟩
  | next =>
    obtain ⟨_, H₂, J, q⟩ := done
    exact ⟨V.non, H₂, J.os, J.bare, J.base, J.hok, rfl, q⟩
  | brk => exact (done.elim fun _ z => z.elim fun _ z => z.2).elim
  | cont => exact (done.elim fun _ z => z.elim fun _ z => z.2).elim
variable {sn : Nat → Sp}
theorem run_N {A : Around} {pins : List (Addr × Obj)} {σ : St} {H : Hp} {s : Shared} {Q : VK} {us : List Value} {vs : List V} (sb : Sub X n A) (F : FnN X.prog X.w X.K X.mg X.base CX n f fd ps sn) (hb : Binds X.K fd ps []) (hx : Passes CX X E)
    (I : Inv X pins σ H s) (r : Vals vs us) (h : sn s.heap.objs.size vs H Q E) : wpAny (model X.prog X.w) A (call (.ref f) us) (EP X pins σ Q) X.xe s := by
  have e0 : Env0 X.prog X.w X.K X.mg X.base A X.stack s H := by
    have e := I.env0
    exact ⟨by rw [sb.fr]; exact e.frames, e.mod, e.bs, e.bsz, e.funs, e.frf, e.hok, e.bare⟩
  have hl := F.many _ _ _ _ _ h
  have hl2 : us.length = ps.length := by rw [← r.length]; exact hl
  refine wpAny_call (codeAny_mono (F.goes A X.stack s H ⟨us, []⟩ us vs Q E sb.room e0 (by
    have := hb s us I.kIn (by simpa using hl2)
    simpa using this) r h) fun r s' hq => ?_)
  cases r with
  | error e => exact hx pins σ H s e s' I hq
  | ok fl =>
    cases fl with
    | ret w => exact I.after hq
    | next => exact False.elim hq
    | brk => exact False.elim hq
    | cont => exact False.elim hq
def iOwn (K : PySem.W.Frag) (C : Addr) (m : Nat) (sn : Nat → Sp) (E : XK) (tl : TE) : TI := fun σ H R => tl σ H fun x H1 => ∃ a dx fs, x = .ref a ∧ H1 a = some (.ins C dx fs) ∧
  ∀ k, m ≤ k → sn k [.ref a] H1 (fun v H' => ∃ it t, v = .ref it ∧ k ≤ it ∧ H' it = some (ItT t it) ∧ R (Itt K t) (dropH H' it)) E
theorem pi_own {tg l : Expr} {tl : TE} (F : FnN X.prog X.w X.K X.mg X.base CX n f fd ps sn) (hb : Binds X.K fd ps []) (hx : Passes CX X E) (o : Own X.K C "__iter__" f) (hr : Room n X.A) (hl : PE X l tl) : PI X tg l (iOwn X.K C X.s_0.heap.objs.size sn E tl) := by
  refine ⟨fun pins s σ H R I h => ?_⟩
  refine thn (hl.run pins s σ H _ I h) fun v s1 ⟨x, H1, I1, r1, q1⟩ => ?_
  obtain ⟨a, dx, fs, rfl, ha, hs⟩ := q1
  cases r1
  obtain ⟨od, J⟩ := inst_at I1 ha
  obtain ⟨m, hF⟩ := I1.fr
  refine PySem.W.owit_iter hF I1.ok.mod.kin J o.find o.fn (thn (run_N (Sub.here hr) F hb hx I1 (show Vals [V.ref a] [Value.ref a] from .cons rfl .nil) (hs s1.heap.objs.size I1.sz)) fun v s' q => ?_)
  obtain ⟨y, H', I', ry, ⟨it, t, rfl, hn, hi, q⟩⟩ := q
  cases ry
  have hy := Nat.le_trans I1.sz hn
  have hit : s'.heap.get? it = some (itTObj t) := (I'.hok it _ hi).1
  unfold PySem.W.OwitIt
  refine wpAny_specialOf (T := "tuple_iterator") (v := .ref it) ⟨_, hit, rfl⟩ PySem.F.slot_tuple_iterator_next.lookup ?_
  refine ⟨it, [it], _, _, dropH H' it, rfl, inv_drop I' hi, turn_tuple t _, ⟨_, hit, rfl, rfl⟩, fun b hb => ?_, q⟩
  have e : b = it := by simpa using hb
  subst e
  exact inv_fp I' hi hy
end
end L2
set_option Elab.async false
set_option linter.all false
set_option maxRecDepth 100000
set_option maxHeartbeats 4000000
/-! {**a, **b}: two dicts of ints and texts, one behind the other, into a new one. -/
namespace PySem
open PyProof.Rows
section
variable {prog : Program} {w : World} {A : Around} {E : Value → Shared → Prop} {s : Shared} {K : Type} [DecidableEq K] {knd : KeyKind prog w K}
theorem put_pairs {a : Addr} {old : List (K × Value)} {c : K} {u v : Value} {R : Unit → Shared → Prop} (isC : knd.is c u = true) (D : s.heap.DictOf knd a old)
    (next : ∀ hp, hp.DictOf knd a (stored old c v) → Heap.SameBut a s.heap hp → R () { s with heap := hp }) (few : old.length ≤ sizeLine) :
    wpAny (model prog w) A (dictPut a (knd.hash c) u v) R E s := by
  obtain ⟨ob, es, ep, at_, exact_, dat, keyed, prs, uniq⟩ := D
  have szs : es.size ≤ sizeLine := by
    have l1 := prs.length
    have l2 : es.toList.length = es.size := by simp
    omega
  unfold dictPut
  refine wpAny_bind (wpAny_dictFind_of isC at_ dat keyed ?_)
  have same : (es.findIdx? fun e => knd.is c e.key) = old.findIdx? fun kv => decide (kv.1 = c) := by
    have z := prs.findIdx c
    obtain ⟨lst⟩ := es
    simpa using z
  cases found : es.findIdx? fun e => knd.is c e.key with
  | some j =>
    have there : (old.any fun kv => decide (kv.1 = c)) = true := any_of_findIdx_some (same ▸ found)
    refine wpAny_updateDict at_ dat (next _ ⟨_, _, ep, Heap.get?_update_self _ at_ (Obj.isFreed_of_dict (Obj.data_mapDict dat _)), exact_.mapDict _, Obj.data_mapDict dat _, keyed.modify _ _, ?_, ?_⟩ (Heap.SameBut.update ..))
    · have inList : (es.toList.findIdx? fun e => knd.is c e.key) = some j := by
        rw [← found]
        obtain ⟨lst⟩ := es
        simp
      have z := prs.modify uniq inList v
      rw [stored, if_pos there]
      obtain ⟨lst⟩ := es
      simpa using z
    · rw [stored, if_pos there, keys_map_store]
      exact uniq
  | none =>
    have notIn : c ∉ old.map (·.1) := not_mem_of_findIdx_none (same ▸ found)
    have gone : ¬ (old.any fun kv => decide (kv.1 = c)) = true := fun z => by
      obtain ⟨kv, mem, eq⟩ := List.any_eq_true.mp z
      exact notIn (List.mem_map.mpr ⟨kv, mem, of_decide_eq_true eq⟩)
    refine wpAny_updateDictKeys (hz := szs) at_ dat (next _ ⟨_, _, ep + 1, Heap.get?_update_self _ at_ (Obj.isFreed_of_dict (Obj.data_mapDictKeys dat _)), exact_.mapDictKeys _, Obj.data_mapDictKeys dat _, keyed.push isC _, ?_, ?_⟩ (Heap.SameBut.update ..))
    · have z := prs.append isC (knd.hash c) v
      rw [stored, if_neg gone]
      obtain ⟨lst⟩ := es
      simpa using z
    · rw [stored, if_neg gone, List.map_append]
      refine List.nodup_append.mpr ⟨uniq, by simp, fun x hx y hy => ?_⟩
      have ey : y = c := by simpa using hy
      intro exy
      exact notIn (by rw [← ey, ← exy]; exact hx)
end
section
variable {prog : Program} {w : World} {A : Around} {E : Value → Shared → Prop} {s : Shared}
open L2
theorem dict_sub : isSubtype (.type "dict") (.type "dict") = pure true := by rw [isSubtype_type]; kernel_rfl
theorem mergeMapping_mix {d o : Addr} {kvs more : List (Key × Value)} {Q : Unit → Shared → Prop} (hdo : d ≠ o) (hoS : (o == sysModules) = false)
    (hd : s.heap.DictOf (mixKind prog w) d kvs) (ho : s.heap.DictOf (mixKind prog w) o more)
    (hQ : ∀ h', h'.DictOf (mixKind prog w) d (merged kvs more) → Heap.SameBut d s.heap h' → Q () { s with heap := h' }) (hsz : kvs.length + more.length ≤ sizeLine) :
    wpAny (model prog w) A (mergeMapping d (.ref o) false) Q E s := by
  obtain ⟨oo, eso, epo, hoo, hco, hdo', hko, hpo, hno⟩ := id ho
  obtain ⟨od, esd, epd, hod, hcd, hdd, _⟩ := id hd
  have hlen : more.length = eso.size := by
    have z := hpo.length
    simpa using z.symm
  have loop : wpAny (model prog w) A (do
      let l ← dictEntries o
      let epoch ← dictEpoch o
      forIn (List.range l.size) PUnit.unit fun i (_ : PUnit) => (do
        let l' ← dictEntries o
        match l'[i]? with
          | some e => do
            holding [e.key, e.val] (dictPut d e.hash e.key e.val)
            let ep' ← dictEpoch o
            if (ep' != epoch) = true then do
                (unsupported "dict.changed-during-merge" : Sem PUnit)
                pure (ForInStep.yield PUnit.unit)
              else pure (ForInStep.yield PUnit.unit)
          | _ => do
            (unsupported "dict.changed-during-merge" : Sem PUnit)
            pure (ForInStep.yield PUnit.unit) : Sem (ForInStep PUnit))
      pure ()) Q E s := by
    refine wpAny_bind (wpAny_dictEntries hoo hdo' ?_)
    refine wpAny_bind (wpAny_dictEpoch hoo hdo' ?_)
    refine wpAny_bind ?_
    refine wpAny_forIn_list _ (fun left _ t => ∃ hp j, t = { s with heap := hp } ∧ left = (List.range eso.size).drop j ∧ j ≤ eso.size ∧ hp.DictOf (mixKind prog w) d (merged kvs (more.take j)) ∧ hp.get? o = some oo ∧ Heap.SameBut d s.heap hp) _ ?_ ?_ _ _
      ⟨s.heap, 0, rfl, by simp, Nat.zero_le _, by simpa [merged] using hd, hoo, Heap.SameBut.refl _ _⟩
    · rintro y left b t ⟨hp, j, rfl, hr, hj, hdj, hoj, hsb⟩
      have hlt : j < eso.size := by
        rcases Nat.lt_or_ge j eso.size with z | z
        · exact z
        · rw [List.drop_of_length_le (by rw [List.length_range]; exact z)] at hr
          cases hr
      have hd1 : (List.range eso.size).drop j = j :: (List.range eso.size).drop (j + 1) := by
        rw [List.drop_eq_getElem_cons (by rw [List.length_range]; exact hlt), List.getElem_range]
      rw [hd1] at hr
      obtain ⟨rfl, hleft⟩ : y = j ∧ left = (List.range eso.size).drop (j + 1) := by
        injection hr with z1 z2
        exact ⟨z1, z2⟩
      refine wpAny_bind (wpAny_dictEntries hoj hdo' ?_)
      rw [Array.getElem?_eq_getElem hlt]
      have hym : y < more.length := by rw [hlen]; exact hlt
      obtain ⟨isK, isV⟩ := hpo.get? (e := eso[y]) (by simp [hlt]) (List.getElem?_eq_getElem hym)
      obtain ⟨c, isC, isH⟩ := hko eso[y] (Array.getElem_mem hlt)
      have ec : c = more[y].1 := (mixKind prog w).inj _ _ _ isC isK
      show wpAny _ _ (holding [eso[y].key, eso[y].val] (dictPut d eso[y].hash eso[y].key eso[y].val) >>= _) _ _ _
      rw [isH, isV]
      have few : (merged kvs (more.take y)).length ≤ sizeLine := by
        have z1 := merged_length_le kvs (more.take y)
        have z2 : (more.take y).length ≤ more.length := by rw [List.length_take]; omega
        omega
      refine wpAny_bind (wpAny_holding (put_pairs isC hdj (fun hp2 hd2 hs2 => ?_) few))
      have ho2 : hp2.get? o = some oo := (hs2.2 o (Ne.symm hdo)).trans hoj
      refine wpAny_bind (wpAny_dictEpoch ho2 hdo' ?_)
      rw [if_neg (by simp)]
      refine wpAny_pure ⟨hp2, y + 1, rfl, hleft, hlt, ?_, ho2, hsb.trans hs2⟩
      rw [merged_take_succ kvs more y more[y] (List.getElem?_eq_getElem hym), ← ec]
      exact hd2
    · rintro b t ⟨hp, j, rfl, hr, hj, hdj, hoj, hsb⟩
      have hje : j = eso.size := by
        rcases Nat.lt_or_ge j eso.size with z | z
        · have e := congrArg List.length hr
          rw [List.length_drop, List.length_range] at e
          simp at e
          omega
        · exact Nat.le_antisymm hj z
      refine wpAny_pure (hQ hp ?_ hsb)
      rw [hje, ← hlen, List.take_length] at hdj
      exact hdj
  unfold mergeMapping
  refine wpAny_bind (wpAny_isInstance (T := "dict") (b := true) ho.typeIs dict_sub ?_)
  simp only [if_true]
  refine wpAny_bind (wpAny_specialOf (T := "dict") (v := .ref o) ho.typeIs PySem.F.slot_dict_iter.lookup (wpAny_bind (wpAny_pure ?_)))
  rw [show (some (Value.builtin "dict.__iter__") == some (Value.builtin "dict.__iter__")) = true from beq_self_eq_true _]
  dsimp only
  rw [if_neg (by rw [hoS]; exact Bool.false_ne_true)]
  refine wpAny_bind (wpAny_dictEntries hod hdd ?_)
  split
  · refine wpAny_bind (wpAny_dictEntries hoo hdo' ?_)
    refine wpAny_bind ?_
    rw [← Array.forIn_toList]
    refine wpAny_forIn_list _ (fun (left : List DictEntry) _ t => t = s ∧ ∀ e ∈ left, ∃ c : Key, keyIs c e.key = true) _ ?_ ?_ _ _ ⟨rfl, fun e he => ?_⟩
    · rintro e left b t ⟨rfl, all⟩
      obtain ⟨c, hc⟩ := all e List.mem_cons_self
      have more' : ∀ e ∈ left, ∃ c : Key, keyIs c e.key = true := fun e he => all e (List.mem_cons_of_mem _ he)
      rcases keyIs_shape hc with ⟨i, u, _, ek⟩ | ⟨z, u, _, ek⟩
      · rw [ek]
        exact wpAny_pure ⟨rfl, more'⟩
      · rw [ek]
        exact wpAny_pure ⟨rfl, more'⟩
    · rintro b t ⟨rfl, _⟩
      exact loop
    · obtain ⟨c, hc, _⟩ := hko e (by simpa using he)
      exact ⟨c, hc⟩
  · exact loop
end
end PySem
set_option Elab.async false
set_option linter.all false
set_option maxRecDepth 100000
set_option maxHeartbeats 4000000
namespace L2
open PySem PySem.Spec PyProof.Rows
/-- {**a, **b}: a new dict stands empty at p, the first one's pairs come into it, then the second one's -/
def tMerge2 (t1 t2 : TE) : TE := fun σ H Q => ∀ p, H p = none → t1 σ (upd H p (.dK [])) fun x H1 => ∃ a kvs, x = .ref a ∧ a ≠ p ∧ H1 p = some (.dK []) ∧ Rd H1 a (.dK kvs) ∧ kvs.length ≤ 1000 ∧
  t2 σ (upd H1 p (.dK (mergeK [] kvs))) fun y H2 => ∃ b acc more, y = .ref b ∧ b ≠ p ∧ H2 p = some (.dK acc) ∧ acc.length ≤ 1000 ∧ Rd H2 b (.dK more) ∧ more.length ≤ 1000 ∧ Q (.ref p) (upd H2 p (.dK (mergeK acc more)))
section
variable {X : Cx}
theorem merge_in {pins : List (Addr × Obj)} {σ : St} {H : Hp} {s : Shared} {p a : Addr} {acc kvs : List (Key × V)} {R : Unit → Shared → Prop} {E : Value → Shared → Prop} {A : Around} (I : Inv X pins σ H s) (ne : a ≠ p) (hp : H p = some (.dK acc)) (ha : Rd H a (.dK kvs))
    (l1 : acc.length ≤ 1000) (l2 : kvs.length ≤ 1000) (k : ∀ s', Inv X pins σ (upd H p (.dK (mergeK acc kvs))) s' → R () s') : wpAny (model X.prog X.w) A (mergeMapping p (.ref a) false) R E s := by
  obtain ⟨z, hd, vs, r, dd⟩ := dk_of I.hok hp
  obtain ⟨z2, hd2, ws, r2, dd2⟩ := dk_rd I.hok ha
  have e1 : vs.length = acc.length := (Paired.length r).symm
  have e2 : ws.length = kvs.length := (Paired.length r2).symm
  refine mergeMapping_mix (Ne.symm ne) hd2 dd dd2 (fun h' dd' sb => k _ ?_) (by rw [sizeLine_eq]; omega)
  have hz : (mergeK acc kvs).length ≤ sizeLine := by
    have h1 := length_mergeK kvs acc
    rw [sizeLine_eq]; omega
  have he : ∃ q, h'.get? p = some q := let ⟨q, _, _, hq, _⟩ := dd'; ⟨q, hq⟩
  exact d_write I (by rw [hp]; exact True.intro) sb he (dk_new hz hd (r2.merge r) dd')
theorem pe_merge2 {e1 e2 : Expr} {t1 t2 : TE} {pos : Pos} (h1 : PE X e1 t1) (h2 : PE X e2 t2) : PE X (.Dict [none, none] [e1, e2] pos) (tMerge2 t1 t2) := by
  refine ⟨fun pins s σ H Q I q => ?_⟩
  have hn := I.hok.fresh (Nat.le_refl s.heap.objs.size)
  have I1 := I.laid (a := s.heap.objs.size) (o := .dK []) (h' := s.heap.push { cls := .type "dict", data := .dict #[] }) (t' := s.toks) (fun _ _ q => Heap.get?_push_of_some _ q) (Nat.le_refl _) (dk_empty s.heap I.big)
  rw [arm_eval_Dict]
  refine wpAny_bind (wpAny_standAt ?_)
  show wpAny _ _ (dictDisplay [(none, do let x ← eval e1 X.env; standAt pos; pure x), (none, do let x ← eval e2 X.env; standAt pos; pure x)]) _ _ _
  unfold dictDisplay
  simp only [List.forIn_cons, List.forIn_nil, List.isEmpty_nil, if_true]
  refine wpAny_bind (wpAny_bind (wpAny_bind (wpAny_pure ?_)))
  dsimp only
  refine wpAny_bind (wpAny_alloc ?_)
  refine wpAny_bind (wpAny_holding (wpAny_bind (thn (h1.run pins _ σ _ _ I1 (q _ hn)) fun u s1 ⟨x, H1, I2, r1, a, kvs, ex, ne, e0, ra, l1, q1⟩ => ?_)))
  subst ex
  cases r1
  refine wpAny_bind (wpAny_standAt (wpAny_pure ?_))
  refine wpAny_bind (wpAny_onRaise (wpAny_tryCatch (wpAny_onRaise (wpAny_holding (merge_in I2 ne e0 ra (by simp) l1 fun s2 I3 => ?_)))))
  refine wpAny_pure ?_
  dsimp only
  simp only [List.isEmpty_nil, if_true]
  refine wpAny_bind (wpAny_bind (wpAny_pure ?_))
  dsimp only
  refine wpAny_bind (wpAny_pure ?_)
  refine wpAny_bind (wpAny_holding (wpAny_bind (thn (h2.run pins _ σ _ _ I3 q1) fun u s3 ⟨y, H2, I4, r2, b, acc, more, ey, ne2, e1', l2, rb, l3, q2⟩ => ?_)))
  subst ey
  cases r2
  refine wpAny_bind (wpAny_standAt (wpAny_pure ?_))
  refine wpAny_bind (wpAny_onRaise (wpAny_tryCatch (wpAny_onRaise (wpAny_holding (merge_in I4 ne2 e1' rb l2 l3 fun s4 I5 => ?_)))))
  refine wpAny_pure ?_
  dsimp only
  refine wpAny_pure ?_
  simp only [List.isEmpty_nil, if_true]
  refine wpAny_bind (wpAny_pure ?_)
  dsimp only
  exact wpAny_pure ⟨.ref _, _, I5, rfl, q2⟩
end
end L2
set_option Elab.async false
set_option linter.all false
set_option maxRecDepth 100000
set_option maxHeartbeats 4000000
namespace L2
open PySem PySem.Spec PyProof.Rows
/-- a def of the text, by its name, without defaults -/
structure Df (P : Program) (w : World) (K : PySem.W.Frag) (mg : Str → Option Value) (base : Heap) (k : Nat) (x : Str) (sp : Sp) : Prop where
  ex : ∃ (f : Addr) (fd : FuncData) (ps : List Str), FnOk P w K mg base CX0 k f fd ps sp ∧ mg x = some (.ref f) ∧ PySem.W.keepIn K (.ref f) = true ∧ Binds K fd ps []
/-- a method of the text's own, by its address -/
structure Mf (P : Program) (w : World) (K : PySem.W.Frag) (mg : Str → Option Value) (base : Heap) (k : Nat) (C : Addr) (m : Str) (sp : Sp) : Prop where
  ex : ∃ (f : Addr) (fd : FuncData) (ps : List Str), FnOk P w K mg base CX0 k f fd ps sp ∧ Meth K C m f ∧ Own K C m f ∧ PySem.W.fnIn K f = true ∧ Binds K fd ps []
section
variable {X : Cx} {k j : Nat} {C : Addr} {x m : Str} {sp : Sp} {p pos apos : Pos} {e o : Expr} {es : List Expr} {ta tb : TE} {t : TA}
theorem pe_c (c : Df X.prog X.w X.K X.mg X.base k x sp) (hr : Room j X.A) (hk : k ≤ j) (hg : Gl X x) (ha : PA X (e :: es) t)
    (hdb : (x == ("__debug__" : Str)) = false := by decide) (he : starEach (e :: es) X.env = (false, eval e X.env) :: starEach es X.env := by rfl) (hpl : (backTo pos (starEach es X.env)).any (·.1) = false := by rfl) :
    PE X (.Call (.Name x p) (e :: es) [] pos) (tCall sp [] E0 t) := by
  obtain ⟨f, fd, ps, F, hm, kp, b⟩ := c.ex
  exact pe_call F (hr.mono hk) hg hm kp b .nil pass0 ha hdb he hpl
theorem op_inO (c : Mf X.prog X.w X.K X.mg X.base k C "__contains__" sp) (hr : Room j X.A) (hk : k ≤ j) :
    OpR X (compareOp .In) (fun x y H Q => ∃ a dx fs, y = .ref a ∧ H a = some (.ins C dx fs) ∧ sp [.ref a, x] H (fun v H' => ∃ b, v = .bl b ∧ Q (.bl b) H') E0) := by
  obtain ⟨f, fd, ps, F, _, o, _, b⟩ := c.ex
  exact op_inOwn F b pass0 o (hr.mono hk)
theorem pe_ixO {a b : Expr} (c : Mf X.prog X.w X.K X.mg X.base k C "__getitem__" sp) (hr : Room j X.A) (hk : k + 1 ≤ j) (hA : PE X a ta) (hB : PE X b tb)
    (hsl : ∀ v u, subscripted b true v u = runValue (.builtin "lifetime.subscript" ⟨[v, u], []⟩) := by intro _ _; rfl) :
    PE X (.Subscript a b pos) (tOp (fun x y H Q => ∃ a dx fs, x = .ref a ∧ H a = some (.ins C dx fs) ∧ sp [.ref a, y] H Q E0) ta tb) := by
  obtain ⟨f, fd, ps, F, _, o, fi, b⟩ := c.ex
  exact pe_ixOwn F b pass0 o fi (hr.mono hk) hA hB hsl
end
end L2
set_option Elab.async false
set_option linter.all false
set_option maxRecDepth 100000
set_option maxHeartbeats 4000000
/-! The rules whose readings name X.K, with K said: for what stands in a comprehension's block. -/
namespace L2
open PySem PySem.Spec PyProof.Rows
section
variable {X : Cx} {K : PySem.W.Frag} {o e a b : Expr} {es : List Expr} {to ta tb : TE} {t : TA} {name f : Str} {apos cpos pos : Pos} {T id : String} {r : V → List V → Hp → VK → Prop}
theorem pe_bmK (hK : X.K = K) (pa : PlainAttrs T) (slot : Slot T name id) (hty : typeOf (.builtin id) = pure (.type "method_descriptor")) (hm : MtR X id r) (ho : PE X o to) (ha : PA X (e :: es) t) (hbase : attributeBase o name X.env (eval o X.env) = eval o X.env := by rfl) (hfew : ((backTo cpos (starEach (e :: es) X.env)).all (fun x => !x.1) && (backToKw cpos (keywordEach [] X.env)).all (fun x => x.1.isSome) && decide ((e :: es).length + ([] : List Keyword).length + (if ([] : List Keyword).isEmpty then 0 else 1) < 30)) = true := by rfl) (hline : (apos.endLine == cpos.line) = true := by rfl) (hs : starEach (e :: es) X.env = (false, eval e X.env) :: starEach es X.env := by rfl) (hplain : (backTo cpos (starEach es X.env)).any (·.1) = false := by rfl) :
    PE X (.Call (.Attribute o name apos) (e :: es) [] cpos) (tBM K T r to t) := by
  subst hK
  exact pe_bm pa slot hty hm ho ha hbase hfew hline hs hplain
theorem pe_fldK (hK : X.K = K) (he : PE X e ta) (hb : attributeBase e f X.env (eval e X.env) = eval e X.env) : PE X (.Attribute e f pos) (tFld K ta f) := by
  subst hK
  exact pe_fld he hb
def rLenSeq (K : PySem.W.Frag) : List V → Hp → VK → Prop := fun xs H Q => ∃ p ys, xs = [.ref p] ∧ (SqL K H p ys ∨ SqT K H p ys) ∧ Q (.int ys.length) H
theorem call_len_seqK (hK : X.K = K) : CallR X (.builtin "len") (rLenSeq K) := by
  subst hK
  exact call_len_seq
theorem ix_listK (hK : X.K = K) : IxR X (rIxL K) := by
  subst hK
  exact ix_list
theorem ix_tupK (hK : X.K = K) : IxR X (rIxT K) := by
  subst hK
  exact ix_tup
theorem sl_listK (hK : X.K = K) : SlR X (rSlL K) := by
  subst hK
  exact sl_list
theorem op_neDK (hK : X.K = K) (hu : X.A.units + 64 < cLine) : OpR X (compareOp .NotEq) (rNeD K) := by
  subst hK
  exact op_neD hu
theorem op_eqDK (hK : X.K = K) (hu : X.A.units + 64 < cLine) : OpR X (compareOp .Eq) (rEqD K) := by
  subst hK
  exact op_eqD hu
def rListOf (K : PySem.W.Frag) : List V → Hp → VK → Prop := fun xs H Q => ∃ p ys, xs = [.ref p] ∧ (SqL K H p ys ∨ SqT K H p ys) ∧ ∀ l, H l = none → Q (.ref l) (upd H l (.lst ys))
theorem call_list_ofK (hK : X.K = K) : CallR X (.type "list") (rListOf K) := by
  subst hK
  exact call_list_of
def rJoin (K : PySem.W.Frag) : V → List V → Hp → VK → Prop := fun x xs H Q => ∃ a p, ∃ ys : List Str, x = .str a ∧ xs = [.ref p] ∧ (SqL K H p (ys.map V.str) ∨ SqT K H p (ys.map V.str)) ∧ (ys.map (·.length)).sum + ys.length * a.length ≤ 16777216 ∧ Q (.str (Txt.join a ys)) H
theorem pe_joinK (hK : X.K = K) (ho : PE X o to) (he : PE X e ta) (hs : starEach [e] X.env = [(false, eval e X.env)] := by rfl) (hbase : attributeBase o "join" X.env (eval o X.env) = eval o X.env := by rfl) (hline : (apos.endLine == pos.line) = true := by rfl) : PE X (.Call (.Attribute o "join" apos) [e] [] pos) (tM1 (rJoin K) to ta) := by
  subst hK
  exact pe_join ho he hs hbase hline
theorem call_strS : CallR X (.type "str") (fun xs H Q => ∃ a, xs = [.str a] ∧ Q (.str a) H) := SkE.call_str_str
def rTupleOf (K : PySem.W.Frag) : List V → Hp → VK → Prop := fun xs H Q => ∃ p ys, xs = [.ref p] ∧ ((SqL K H p ys ∧ ∀ l, H l = none → Q (.ref l) (upd H l (.tup ys))) ∨ (SqT K H p ys ∧ Q (.ref p) H))
theorem call_tuple_ofK (hK : X.K = K) : CallR X (.type "tuple") (rTupleOf K) := by
  subst hK
  exact call_tuple_of
end
end L2
set_option Elab.async false
set_option linter.all false
set_option maxRecDepth 100000
set_option maxHeartbeats 4000000
namespace L2
open PySem PySem.Spec PyProof.Rows
/-- a name of the module holds a value -/
def GV (mg : Str → Option Value) (x : Str) (v : V) : Prop := ∃ u, mg x = some u ∧ RelV v u
theorem pe_gv {X : Cx} {x : Str} {v : V} {pos : Pos} (h : GV X.mg x v) (hg : Gl X x) (hd : (x == ("__debug__" : Str)) = false := by decide) : PE X (.Name x pos) (tC v) := by
  obtain ⟨u, h1, h2⟩ := h
  exact pe_glob hg h1 h2 hd
theorem pj_nil {X : Cx} : PJ X [] [] := .nil
theorem pj_cons {X : Cx} {e : Expr} {t : TE} {es : List Expr} {ts : List TE} (h : PE X e t) (r : PJ X es ts) : PJ X (e :: es) (t :: ts) := .cons h r
/-- a dict comprehension over what a Walk tells -/
theorem dc_it {J : It} {m : Nat} {G : Hp → Prop} {Y : Nat → Hp → V → Hp → Prop} (w : Walk J m G Y) {g : TG} {tt : TT} {tk tv : TE} {own : List Nat} {σ : St} {H1 : Hp} {D : Addr} {Qd : Hp → Prop} (Pv : Nat → Hp → Prop) (start : Pv 0 (upd H1 D (.dK []))) (keeps : ∀ i H, i ≤ m → Pv i H → G H)
    (turn : ∀ i x H H', i < m → Pv i H → Y i H x H' → g x (wipe σ own) H' fun σ2 H2 => wipe σ2 own = wipe σ own ∧ tt σ2 H2 fun b H3 =>
      if b = true then tk σ2 H3 fun y H4 => tv σ2 H4 fun z H5 => ∃ kvs k, y = kV k ∧ H5 D = some (.dK kvs) ∧ kvs.length < sizeLine ∧ Pv (i + 1) (upd H5 D (.dK (putK kvs k z))) else Pv (i + 1) H3) (done : ∀ H, Pv m H → Qd H) :
    ∃ W : Nat → Nat → Hp → Prop, (∃ j, W 0 j (upd H1 D (.dK []))) ∧ ∀ i j H, W i j H →
      (J.stop i H ∧ Qd H) ∨ (J.go i H ∧ ∃ Nx : Hp → Prop, (∀ H', Nx H' → ∃ j', j' < j ∧ W (i + 1) j' H') ∧ ∀ x H', J.yld i H x H' → g x (wipe σ own) H' fun σ2 H2 => wipe σ2 own = wipe σ own ∧ tt σ2 H2 fun b H3 =>
        if b = true then tk σ2 H3 fun y H4 => tv σ2 H4 fun z H5 => ∃ kvs k, y = kV k ∧ H5 D = some (.dK kvs) ∧ kvs.length < sizeLine ∧ Nx (upd H5 D (.dK (putK kvs k z))) else Nx H3) := by
  refine ⟨fun i j H => j = m - i ∧ i ≤ m ∧ Pv i H, ⟨m, by simp, Nat.zero_le _, start⟩, ?_⟩
  rintro i j H ⟨rfl, hi, pv⟩
  have kp := keeps i H hi pv
  rcases Nat.lt_or_ge i m with less | more
  · exact .inr ⟨w.goes i H less kp, Pv (i + 1), fun H' p' => ⟨m - (i + 1), by omega, rfl, less, p'⟩, fun x H' y => turn i x H H' less pv (w.yields i H x H' less kp y)⟩
  · obtain rfl : i = m := Nat.le_antisymm hi more
    exact .inl ⟨w.stops H kp, done H pv⟩
section
variable {X : Cx}
/-- y = {k: v for ..}: the name is stored within the comprehension's frame -/
theorem ps_setDc {j : Nat} {y : Str} {yp : Pos} {kx vx tg iter : Expr} {ifs : List Expr} {scope : Scope} {own : List (Str × Nat)} {cp sp : Pos} {wi : TI} {g : TG} {tt : TT} {tk tv : TE} (calm : X.calm = true) (nodup : X.N.Nodup) (atJ : X.N[j]? = some y) (isLoc : X.env.scope.names.lookup y = some .local)
    (swaps : swapsWith (.DictComp kx vx [⟨tg, iter, ifs, 0⟩] scope cp) (some (.Name y yp)) sp.line X.env = pure true) (walks : PI X tg iter wi) (blk : BlkOk X.N X.env.scope scope own)
    (target : ∀ (s : Shared) (H : Hp) (C : Addr) (cl : List (Str × Addr)) (fp : List Addr), PG (X.blk s H scope (compEnvC scope cl C X.env) fp) tg g) (tests : ∀ (s : Shared) (H : Hp) (C : Addr) (cl : List (Str × Addr)) (fp : List Addr), PTs (X.blk s H scope (compEnvC scope cl C X.env) fp) ifs tt)
    (keys : ∀ (s : Shared) (H : Hp) (C : Addr) (cl : List (Str × Addr)) (fp : List Addr), PE (X.blk s H scope (compEnvC scope cl C X.env) fp) kx tk)
    (vals : ∀ (s : Shared) (H : Hp) (C : Addr) (cl : List (Str × Addr)) (fp : List Addr), PE (X.blk s H scope (compEnvC scope cl C X.env) fp) vx tv) (plain : ∀ x, foldedSetIterable iter X.env x = pure x := by intro _; rfl) :
    PS X (.Assign [.Name y yp] (.DictComp kx vx [⟨tg, iter, ifs, 0⟩] scope cp) sp) (tAsg (tDc wi g tt tk tv (own.map (·.2))) (gName j)) := by
  refine ⟨fun pins s σ H D I want => ?_⟩
  rw [exec_Assign_Name_used _ _ _ _ swaps]
  refine wpAny_bind (wpAny_standAt (wpAny_bind ?_))
  show wpAny _ X.A (do let _ ← comprehension (.DictComp kx vx [⟨tg, iter, ifs, 0⟩] scope cp) scope X.env (firstIterPos [⟨tg, iter, ifs, 0⟩] cp) newDict false (eval iter X.env) (some (assign (.Name y yp) X.env))) _ _ s
  have want' : tDc wi g tt tk tv (own.map (·.2)) σ H (fun x H1 => gName j x σ H1 D.nx) := want
  refine wpAny_bind (thn (dc_core (Qf := fun _ s' => SP X pins D .next s') calm nodup I walks blk target tests keys vals plain want' fun made frame s' m H' J q hn young => ?_) fun _ s' z => wpAny_pure (wpAny_pure z))
  show wpAny _ _ (assign (.Name y yp) X.env (.ref made)) _ _ _
  refine wpAny_assign_Name (store_ok2 (v := V.ref made) J nodup atJ (.inl isLoc) rfl (fun s2 J2 ⟨a, but, isA⟩ => ?_) (.inr isLoc))
  obtain ⟨y0, y1, y2, y3, y4, y5⟩ := young
  have apart : frame ≠ a := by
    rcases isA with z | z
    · rw [z]
      exact y1
    · intro e
      exact y4 y a z e.symm
  refine ⟨m, hn.sameBut but apart, fun h3 but3 => ?_⟩
  exact ⟨_, H', J2.turned (t' := s2.toks) (fun b o hb e => (but3.2 b hb).trans e) y0 y1 y3 y4 y5, q⟩
theorem sw_trueD {kx vx : Expr} {gs : List Comprehension} {scope : Scope} {pos py : Pos} {y : Str} {l : Nat} {env : Env} (isFun : env.scope.kind = .function) (isLoc : env.scope.names.lookup y = some .local) (line : (py.line == pos.line) = true)
    (apart : (scope.names.any fun (n, k) => n == y && (k == .local || k == .cell)) = false) : swapsWith (.DictComp kx vx gs scope pos) (some (.Name y py)) l env = pure true := by
  have k1 : env.kindOf y = some .local := isLoc
  have k2 : env.blockKind = .function := by
    unfold Env.blockKind
    rw [isFun]
    rfl
  unfold swapsWith
  simp only [k2, k1, apart, Expr.pos, line]
  rfl
end
/-- not x, by truth, K said -/
theorem pe_notTK {X : Cx} {K : PySem.W.Frag} {a : Expr} {ta : TE} {pos : Pos} (hK : X.K = K) (ha : PE X a ta) : PE X (.UnaryOp .Not a pos) (tNotT K ta) := by
  subst hK
  exact pe_notT ha
end L2
set_option Elab.async false
set_option linter.all false
set_option maxRecDepth 100000
set_option maxHeartbeats 4000000
/-! Dicts of texts compared both ways; a staticmethod called by the class's name. -/
namespace L2
open PySem PySem.Spec PyProof.Rows
/-- C.m is a staticmethod: its record at p, its def at g -/
structure SMet (K : PySem.W.Frag) (C : Addr) (mc : Value) (m : Str) (p g : Addr) : Prop where
  at_ : PySem.W.findCls K (.ref C) mc m = some (.get (.builtin "staticmethod.__get__") (.ref p) .none (.ref C))
  rc : ∃ rest, PySem.W.recIn K p "staticmethod" = some (.ref g :: rest)
  kp : PySem.W.keepIn K (.ref g) = true
section
variable {X : Cx} {CX : CXT} {k : Nat} {C p g : Addr} {mc : Value} {sp : Sp} {E : XK} {o e : Expr} {es : List Expr} {m : Str} {pos apos : Pos} {ta : TE} {t : TA} {pl : Sem Bool} {fd : FuncData} {ps : List Str}
theorem getmethsm_ok {pins : List (Addr × Obj)} {σ : L2.St} {H : Hp} {s : Shared} {A : Around} {E : Value → Shared → Prop} {Q : Value × List Value → Shared → Prop} (I : Inv X pins σ H s) (r : ClX.CRead X.K C mc) (k : SMet X.K C mc m p g)
    (h : ∀ s', Inv X pins σ H s' → Q (.ref g, []) s') : wpAny (model X.prog X.w) A (getMethod (.ref C) m pl) Q E s := by
  obtain ⟨rest, hp⟩ := k.rc
  refine PySem.W.method_cls I.kIn r.ga ?_
  refine PySem.W.cls_bind I.kIn r.rd k.at_ ?_
  refine wpAny_call (PySem.W.sm_get (s := { s with toks := s.toks + 1 }) I.kIn hp (PySem.W.handed_on rfl ?_))
  exact h _ (I.tok _)
/-- e.m(..), e the class at C, m a staticmethod -/
def tSMeth (C : Addr) (sp : Sp) (E : XK) (ta : TE) (t : TA) : TE := fun σ H Q => ta σ H fun x H1 => x = .ref C ∧ t σ H1 fun vs H2 => sp vs H2 Q E
theorem pe_smeth (he : PE X o ta) (r : ClX.CRead X.K C mc) (c : SMet X.K C mc m p g) (F : FnOk X.prog X.w X.K X.mg X.base CX k g fd ps sp) (hr : Room k X.A) (hb : Binds X.K fd ps []) (hx : Passes CX X E) (ha : PA X (e :: es) t)
    (hst : starEach (e :: es) X.env = (false, eval e X.env) :: starEach es X.env := by rfl) (hpl : (backTo pos (starEach es X.env)).any (·.1) = false := by rfl)
    (ht : eval (.Call (.Attribute o m apos) (e :: es) [] pos) X.env = (do
      let ov ← eval o X.env
      standAt apos.atName
      let (f, first) ← holding [ov] (getMethod ov m pl)
      callWith pos f first (backTo pos (starEach (e :: es) X.env)) (backToKw pos (keywordEach [] X.env))) := by rfl) :
    PE X (.Call (.Attribute o m apos) (e :: es) [] pos) (tSMeth C sp E ta t) := by
  refine ⟨fun pins s σ H Q I h => ?_⟩
  refine PySem.W.methodCall_KW (pl := pl) (thn (he.run pins s σ H _ I h) fun u s1 ⟨x, H1, I1, rx, ex, q⟩ => ?_) ht
  subst ex
  obtain rfl : u = Value.ref C := rx
  refine getmethsm_ok I1 r c fun s2 I2 => ?_
  refine PySem.W.callWith_K (h₀ := X.base) I.ok.mod.kin c.kp (thn (ha.run pos pins s2 σ H1 _ I2 q) fun us s3 ⟨vs, H2, I3, rv, q2⟩ => ⟨I3.kIn, ?_⟩) hst hpl
  exact run_fn (us := us) (dvs := []) (ds := []) F hr hb .nil hx I3 rv (by rw [List.append_nil]; exact q2)
end
/-- f'..' of two parts or more, by a name -/
def tJo (ts : List TE) : TE := fun σ H Q => tJs ts Str.empty σ H fun out H1 => Q (.str out) H1
theorem pe_joinedT {X : Cx} {v1 v2 : Expr} {rest : List Expr} {ts : List TE} {pos : Pos} (h : PJ X (v1 :: v2 :: rest) ts) : PE X (.JoinedStr (v1 :: v2 :: rest) pos) (tJo ts) := pe_joined h
end L2
set_option Elab.async false
set_option linter.all false
set_option maxRecDepth 100000
set_option maxHeartbeats 4000000
/-! An own error's `__init__` that calls the base error's by the base's name, where the base has none of its own. -/
namespace L2
open PySem PySem.Spec PyProof.Rows
end L2
set_option Elab.async false
set_option linter.all false
set_option maxRecDepth 100000
set_option maxHeartbeats 4000000
/-! a | b, a >> b .. by an own method, both of the same class; a <= b by an own one (its answer a bool). -/
namespace L2
open PySem PySem.Spec PyProof.Rows
section
variable {X : Cx} {n : Nat} {CX : CXT} {C f : Addr} {fd : FuncData} {ps : List Str} {sp : Sp} {E : XK}
theorem notNI {v : V} {u : Value} (r : RelV v u) {Q : Value → Shared → Prop} {s : Shared} (q : Q u s) : PySem.W.CmpBack Q u s := by
  cases v <;> first
    | (obtain ⟨t, rfl⟩ := r; exact q)
    | (cases r; exact q)
def rBinOwn (K : PySem.W.Frag) (C : Addr) (sp : Sp) (E : XK) : R2 := fun x y H Q => ∃ a dx fs b dy gs, x = .ref a ∧ H a = some (.ins C dx fs) ∧ y = .ref b ∧ H b = some (.ins C dy gs) ∧ sp [.ref a, y] H Q E
theorem op_binOwn {op : Operator} (F : FnOk X.prog X.w X.K X.mg X.base CX n f fd ps sp) (hb : Binds X.K fd ps []) (hx : Passes CX X E) (hs : PySem.W.findIn X.K (.ref C) (PySem.dunder op.info.2) = some (some (.ref f))) (hf : PySem.W.isFn X.K (.ref f) = true) (hc : PySem.W.selfFirst X.K C = true) (hr : Room n X.A) :
    OpR X (binaryOp op) (rBinOwn X.K C sp E) := by
  intro pins s σ H x y v u Q I rx ry h
  obtain ⟨a, dx, fs, b, dy, gs, rfl, ha, rfl, hbb, hsp⟩ := h
  cases rx
  cases ry
  obtain ⟨od, J⟩ := inst_at I ha
  obtain ⟨od2, J2⟩ := inst_at I hbb
  obtain ⟨m, hF⟩ := I.fr
  refine PySem.W.binop_K hF I.ok.mod.kin J J2.type hc hs hf (thn (run_own (Sub.here hr) F hb hx I (show Vals [V.ref a, V.ref b] [Value.ref a, Value.ref b] from .cons rfl (.cons rfl .nil)) hsp) fun r s' q => ?_)
  obtain ⟨z, H', I', rz, q⟩ := q
  exact notNI rz ⟨z, H', I', rz, q⟩
end
end L2
set_option Elab.async false
set_option linter.all false
set_option maxRecDepth 100000
set_option maxHeartbeats 4000000
/-! enumerate(text). -/
namespace L2
open PySem PySem.Spec PyProof.Rows
/-- the signs of a text, each in a new pair behind its number -/
def ItSe (z : Str) : It :=
  ⟨fun i _ => i < z.cps.size, fun i H v H' => ∃ T c, v = .ref T ∧ H T = none ∧ H' = upd H T (.tup [.int (i : Nat), .str ⟨#[c]⟩]) ∧ z.cps[i]? = some c, fun i _ => i = z.cps.size⟩
theorem turn_enumS {P : Program} {w : World} {K : PySem.W.Frag} {elts : List Expr} {kk : Nat} {tpos : Pos} (z : Str) (t : Tok) (e it : Addr) :
    Turn P w K (.Tuple elts kk tpos) (ItSe z) [e, it] e (fun i h => (∃ old, IsEnum h e it ((i : Nat) : Int) old) ∧ h.IsStrIter it (strIterType z) z t i ∧ e ≠ it) where
  mem := by simp
  obj := fun i h st b hb => by
    obtain ⟨⟨old, he⟩, ⟨o, ho, hc, hd⟩, _⟩ := st
    have e' : b = e ∨ b = it := by simpa using hb
    rcases e' with z | z
    · rw [z]; exact ⟨_, he, fun v q => nomatch q⟩
    · rw [z]; exact ⟨o, ho, fun v q => by rw [hd] at q; cases q⟩
  keep := fun i h h' st k => by
    obtain ⟨⟨old, he⟩, ⟨o, ho, r⟩, hne⟩ := st
    exact ⟨⟨old, k e (by simp) _ he⟩, ⟨o, k it (by simp) o ho, r⟩, hne⟩
  item := by
    intro X hP hw hK hc i pins s σ H E I hf st hg
    subst hP hw hK
    obtain ⟨⟨old, he⟩, hit, hne⟩ := st
    have hel : e < s.heap.objs.size := Heap.lt_size he
    have hil : it < s.heap.objs.size := by obtain ⟨_, q, _⟩ := hit; exact Heap.lt_size q
    refine wpAny_pyNext_enum_itemD (Draws.text (A := X.A.in1) (I.ok.hd hc) it z t) he hit hg hne (by simpa using hne) fun x h' tk hx ho hit' hT hsz hk => ?_
    obtain ⟨c, u, hcx, rfl⟩ := hx
    refine ⟨_, rfl, wpAny_letOwnedTupleGo_enum (s := { s with heap := h', toks := tk + 1 }) ho fun h'' he' sb => ?_⟩
    have hT2 : h''.get? s.heap.objs.size = some { cls := .type "tuple", data := .seq #[.int i tk, .str ⟨#[c]⟩ u] } := (sb.2 _ (Nat.ne_of_gt hel)).trans hT
    have new : ObjOk X.prog X.w (upd H s.heap.objs.size (.tup [.int (i : Nat), .str ⟨#[c]⟩])) h'' s.heap.objs.size (.tup [.int (i : Nat), .str ⟨#[c]⟩]) :=
      ⟨by show 2 ≤ sizeLine; decide, [.int i tk, .str ⟨#[c]⟩ u], .cons ⟨_, rfl⟩ (.cons ⟨_, rfl⟩ .nil), ⟨_, hT2, rfl, _, rfl⟩⟩
    have I1 : Inv X pins σ (upd H s.heap.objs.size (.tup [.int (i : Nat), .str ⟨#[c]⟩])) { s with heap := h'', toks := tk + 1 } :=
      I.turnedNew (ch := [e, it]) (fun b ob hb q => (sb.2 b (fun z => hb (by simp [z]))).trans (hk b ob (fun z => hb (by simp [z])) (fun z => hb (by simp [z])) q)) hf (Nat.le_refl _) new
    refine ⟨.ref s.heap.objs.size, _, I1, rfl, ⟨_, c, rfl, I.hok.fresh (Nat.le_refl _), rfl, hcx⟩, ⟨⟨.str ⟨#[c]⟩ u, ?_⟩, ?_, hne⟩, fun b hb => ?_⟩
    · have e1 : ((i + 1 : Nat) : Int) = (i : Int) + 1 := by omega
      rw [e1]; exact he'
    · obtain ⟨o, q, r⟩ := hit'
      exact ⟨o, (sb.2 it (Ne.symm hne)).trans q, r⟩
    · have hb' : b < s.heap.objs.size := by
        have e' : b = e ∨ b = it := by simpa using hb
        rcases e' with z | z
        · rw [z]; exact hel
        · rw [z]; exact hil
      rw [upd_ne (Nat.ne_of_lt hb')]
      exact (hf b hb).1
  done := by
    intro X hP hw hK hc i pins s σ H E I hf st hg
    subst hP hw hK
    obtain ⟨⟨old, he⟩, hit, hne⟩ := st
    have hi : i = z.cps.size := hg
    obtain ⟨f0, f1, f2, f3, f4, f5⟩ := hf it (by simp)
    subst hi
    exact wpAny_pyNext_enum_endD (Draws.text (A := X.A.in1) (I.ok.hd hc) it z t) he hit fun h' eb => ⟨rfl, I.turned (t' := s.toks) (fun b o hb q => eb b o hb q) f0 f1 f3 f4 f5⟩
  self := fun A i s Q E st h => let ⟨⟨_, he⟩, _⟩ := st; wpAny_pyIter_enum he h
def iEnumS (ta : TA) : TI := fun σ H R => ta σ H fun vs H1 => ∃ z, vs = [.str z] ∧ R (ItSe z) H1
theorem pi_enumS {X : Cx} {e : Expr} {ta : TA} {p pos tpos : Pos} {elts : List Expr} {kk : Nat} (hg : Gl X "enumerate") (hm : X.mg "enumerate" = none) (ha : PA X [e] ta) (hs : starEach [e] X.env = [(false, eval e X.env)] := by rfl) :
    PI X (.Tuple elts kk tpos) (.Call (.Name "enumerate" p) [e] [] pos) (iEnumS ta) := by
  refine ⟨fun pins s σ H R I h => ?_⟩
  refine Call_ (ld_blt I hg hm boot_enumerate (PyProof.Rows.callWith_type1 (thn (ha.run pos pins s σ H _ I h) fun us s1 ⟨vs, H1, I1, r1, q1⟩ => ?_) hs rfl))
  obtain ⟨z, ex, q⟩ := q1
  subst ex
  cases r1 with
  | cons r rr =>
    cases rr
    obtain ⟨t, rfl⟩ := r
    refine call_enumerate_str fun h' he hit hsz hk => wpAny_pyIter_enum he ?_
    have I2 : Inv X pins σ H1 { s1 with heap := h' } := I1.kept (t' := s1.toks) hk
    refine ⟨s1.heap.objs.size + 1, [s1.heap.objs.size + 1, s1.heap.objs.size], _, _, H1, rfl, I2, turn_enumS z t (s1.heap.objs.size + 1) s1.heap.objs.size, ⟨⟨.none, he⟩, hit, Nat.succ_ne_self _⟩, fun b hb => ?_, q⟩
    have e' : b = s1.heap.objs.size + 1 ∨ b = s1.heap.objs.size := by simpa using hb
    have hle : s1.heap.objs.size ≤ b := by
      rcases e' with z | z
      · rw [z]; exact Nat.le_add_right _ _
      · rw [z]; exact Nat.le_refl _
    exact I1.fpOk hle (I1.hok.fresh hle)
theorem walk_enumS {z : Str} : Walk (ItSe z) z.cps.size (fun _ => True) (fun i H v H' => ∃ T c, v = .ref T ∧ H T = none ∧ H' = upd H T (.tup [.int (i : Nat), .str ⟨#[c]⟩]) ∧ z.cps[i]? = some c) :=
  ⟨fun _ _ hi _ => hi, fun _ _ => rfl, fun _ _ _ _ _ _ y => y⟩
end L2
set_option Elab.async false
set_option linter.all false
set_option maxRecDepth 100000
set_option maxHeartbeats 4000000
/-! Signs of an own class by its own methods, by an address; a ** k. -/
namespace L2
open PySem PySem.Spec PyProof.Rows
/-- an own method that a sign of two calls -/
structure Bo (P : Program) (w : World) (K : PySem.W.Frag) (mg : Str → Option Value) (base : Heap) (k : Nat) (C : Addr) (m : Str) (sp : Sp) : Prop where
  ex : ∃ (f : Addr) (fd : FuncData) (ps : List Str), FnOk P w K mg base CX0 k f fd ps sp ∧ Binds K fd ps [] ∧ PySem.W.findIn K (.ref C) m = some (some (.ref f)) ∧ PySem.W.isFn K (.ref f) = true ∧ PySem.W.selfFirst K C = true
/-- what the sign of the power asks of int -/
structure IntP (K : PySem.W.Frag) (C : Addr) : Prop where
  rp : PySem.W.findIn K (.ref C) "__rpow__" = some none
  h1 : ∃ fo, PySem.W.findIn K (.type "int") "__pow__" = some fo
  h2 : ∃ ro, PySem.W.findIn K (.type "int") "__rpow__" = some ro
  sub : PySem.W.subIn K (.type "int") (.ref C) = some false
section
variable {X : Cx} {k j : Nat} {C : Addr} {sp : Sp}
theorem op_bin {op : Operator} {m : Str} (c : Bo X.prog X.w X.K X.mg X.base k C m sp) (hr : Room j X.A) (hk : k ≤ j) (hm : PySem.dunder op.info.2 = m := by rfl) : OpR X (binaryOp op) (rBinOwn X.K C sp E0) := by
  obtain ⟨f, fd, ps, F, b, h1, h2, h3⟩ := c.ex
  subst hm
  exact op_binOwn F b pass0 h1 h2 h3 (hr.mono hk)
theorem pe_mt {pl : Sem Bool} {m : Str} {o e : Expr} {es : List Expr} {apos pos : Pos} {ta : TE} {t : TA} (c : Cls X.K C) (D : Mf X.prog X.w X.K X.mg X.base k C m sp) (hr : Room j X.A) (hk : k ≤ j) (he : PE X o ta) (ha : PA X (e :: es) t)
    (hst : starEach (e :: es) X.env = (false, eval e X.env) :: starEach es X.env := by rfl) (hpl : (backTo pos (starEach es X.env)).any (·.1) = false := by rfl)
    (ht : eval (.Call (.Attribute o m apos) (e :: es) [] pos) X.env = (do
      let ov ← eval o X.env
      standAt apos.atName
      let (f, first) ← holding [ov] (getMethod ov m pl)
      callWith pos f first (backTo pos (starEach (e :: es) X.env)) (backToKw pos (keywordEach [] X.env))) := by rfl) :
    PE X (.Call (.Attribute o m apos) (e :: es) [] pos) (tMeth C m sp [] E0 ta t) := by
  obtain ⟨f, fd, ps, F, hm, _, _, b⟩ := D.ex
  exact pe_meth (pl := pl) he c hm F (hr.mono hk) b .nil pass0 ha hst hpl ht
end
end L2
set_option Elab.async false
set_option linter.all false
set_option maxRecDepth 100000
set_option maxHeartbeats 4000000
/-! try: .. except E as n: k = n, where k is read later: the caught exception becomes a thing of the abstract heap. -/
namespace L2
open PySem PySem.Spec PyProof.Rows
end L2
set_option Elab.async false
set_option linter.all false
set_option maxRecDepth 100000
set_option maxHeartbeats 4000000
/-! A kept exception: isinstance, its fields. -/
namespace L2
open PySem PySem.Spec PyProof.Rows
end L2
set_option Elab.async false
set_option linter.all false
set_option maxRecDepth 100000
set_option maxHeartbeats 4000000
/-! A classmethod called by the class's name, with keywords. -/
namespace L2
open PySem PySem.Spec PyProof.Rows ClX
end L2
set_option Elab.async false
set_option linter.all false
set_option maxRecDepth 100000
set_option maxHeartbeats 4000000
/-! Lambdas as values: made, kept in lists, called later by a def that gets them. -/
namespace LamX
open PySem PySem.Spec PyProof.Rows L2
/-- the object at f is known -/
def FnO (f : Addr) (o : Obj) : HO := .ext fun h => h.get? f = some o
/-- the object that a lambda of X makes -/
abbrev lamObj (X : Cx) (params : Arguments) (body : Expr) (scope : Scope) (pm ctv : Value) (c' : Addr) : Obj :=
  PySem.W.kla_obj "<lambda>" (X.env.qual ++ "<lambda>") params body scope (cloFrom X.env.cells scope.names []) pm c' ctv
/-- at f stands a lambda of X -/
def LamO (X : Cx) (H : Hp) (f : Addr) (params : Arguments) (body : Expr) (scope : Scope) : Prop :=
  ∃ (c' : Addr) (pm ctv : Value), H f = some (FnO f (lamObj X params body scope pm ctv c')) ∧ H c' = some (CodeO c' (X.env.qual ++ "<lambda>"))
theorem fnO_ne {f : Addr} {o : Obj} (ps : Array Value) : FnO f o ≠ .tbl ps := fun z => by
  unfold FnO at z
  cases z
theorem LamO.ext {X : Cx} {H H' : Hp} {f : Addr} {params : Arguments} {body : Expr} {scope : Scope} (l : LamO X H f params body scope) (e : ExtN H H') : LamO X H' f params body scope := by
  obtain ⟨c', pm, ctv, h1, h2⟩ := l
  exact ⟨c', pm, ctv, e _ _ h1 fnO_ne, e _ _ h2 codeO_ne⟩
end LamX
set_option Elab.async false
set_option linter.all false
set_option maxRecDepth 100000
set_option maxHeartbeats 4000000
/-! A def that calls what it got, where what it got is a lambda kept before. -/
set_option Elab.async false
set_option linter.all false
set_option maxRecDepth 100000
set_option maxHeartbeats 4000000
/-! zip(text, text). -/
namespace L2
open PySem PySem.Spec PyProof.Rows
end L2
set_option Elab.async false
set_option linter.all false
set_option maxRecDepth 100000
set_option maxHeartbeats 4000000
/-! text * k. -/
namespace L2
open PySem PySem.Spec PyProof.Rows
end L2
set_option Elab.async false
set_option linter.all false
set_option maxRecDepth 100000
set_option maxHeartbeats 4000000
/-! Equal dicts, whose values are data of any depth; iter(a dict) and loops by it. -/
namespace L2
open PySem PySem.Spec PyProof.Rows ItX
end L2
set_option Elab.async false
set_option linter.all false
set_option maxRecDepth 100000
set_option maxHeartbeats 4000000
/-! enumerate(a tuple). -/
namespace PySem
end PySem
namespace L2
open PySem PySem.Spec PyProof.Rows
end L2
set_option Elab.async false
set_option linter.all false
set_option maxRecDepth 100000
set_option maxHeartbeats 4000000
/-! repr of a text or an integer. -/
namespace L2
open PySem PySem.Spec PyProof.Rows
end L2
set_option Elab.async false
set_option linter.all false
set_option maxRecDepth 100000
set_option maxHeartbeats 4000000
/-! Signs of an own class: with a value of any other kind on the right; x >= y, where y's own <= answers; x |= y, where there is no __ior__. -/
namespace PySem.W
open PySem PySem.Spec PySem.Calls PyProof.Rows
end PySem.W
set_option Elab.async false
set_option linter.all false
set_option maxRecDepth 100000
set_option maxHeartbeats 4000000
/-! x op= y of one own class, which has no method for it in place. -/
namespace PySem.W
open PySem PySem.Spec PySem.Calls PyProof.Rows
end PySem.W
set_option Elab.async false
set_option linter.all false
set_option maxRecDepth 100000
set_option maxHeartbeats 4000000
/-! The rules for these signs. -/
namespace L2
open PySem PySem.Spec PyProof.Rows
end L2
set_option Elab.async false
set_option linter.all false
set_option maxRecDepth 100000
set_option maxHeartbeats 4000000
/-! repr of a bool. -/
namespace L2
open PySem PySem.Spec PyProof.Rows
end L2
set_option Elab.async false
set_option linter.all false
set_option maxRecDepth 100000
set_option maxHeartbeats 4000000
/-! Where no repr is under way: what defs promise there; repr of lists and tuples. -/
namespace L2
open PySem PySem.Spec PyProof.Rows
mutual
/-- x is laid in H as the datum d -/
inductive PyV (H : Hp) : V → PyData → Prop
  | non : PyV H .non .none
  | bl (b : Bool) : PyV H (.bl b) (.bool b)
  | int (i : Int) : PyV H (.int i) (.int i)
  | str (z : Str) : PyV H (.str z) (.str z)
  | tup {a : Addr} {xs : List V} {ds : List PyData} : H a = some (.tup xs) → PyVs H xs ds → PyV H (.ref a) (.tuple ds)
  | lst {a : Addr} {xs : List V} {ds : List PyData} : H a = some (.lst xs) → PyVs H xs ds → PyV H (.ref a) (.list ds)
inductive PyVs (H : Hp) : List V → List PyData → Prop
  | nil : PyVs H [] []
  | cons {x : V} {d : PyData} {xs : List V} {ds : List PyData} : PyV H x d → PyVs H xs ds → PyVs H (x :: xs) (d :: ds)
end
mutual
theorem PyV.same {H H2 : Hp} (s : ∀ b o, H b = some o → H2 b = some o) : ∀ {x : V} {d : PyData}, PyV H x d → PyV H2 x d
  | _, _, .non => .non
  | _, _, .bl b => .bl b
  | _, _, .int i => .int i
  | _, _, .str z => .str z
  | _, _, .tup h r => .tup (s _ _ h) (PyVs.same s r)
  | _, _, .lst h r => .lst (s _ _ h) (PyVs.same s r)
theorem PyVs.same {H H2 : Hp} (s : ∀ b o, H b = some o → H2 b = some o) : ∀ {xs : List V} {ds : List PyData}, PyVs H xs ds → PyVs H2 xs ds
  | _, _, .nil => .nil
  | _, _, .cons h r => .cons (PyV.same s h) (PyVs.same s r)
end
mutual
theorem PyV.keep {H H2 : Hp} (s : ∀ b o, H b = some o → ((∃ xs, o = .tup xs) ∨ ∃ xs, o = .lst xs) → H2 b = some o) : ∀ {x : V} {d : PyData}, PyV H x d → PyV H2 x d
  | _, _, .non => .non
  | _, _, .bl b => .bl b
  | _, _, .int i => .int i
  | _, _, .str z => .str z
  | _, _, .tup h r => .tup (s _ _ h (.inl ⟨_, rfl⟩)) (PyVs.keep s r)
  | _, _, .lst h r => .lst (s _ _ h (.inr ⟨_, rfl⟩)) (PyVs.keep s r)
theorem PyVs.keep {H H2 : Hp} (s : ∀ b o, H b = some o → ((∃ xs, o = .tup xs) ∨ ∃ xs, o = .lst xs) → H2 b = some o) : ∀ {xs : List V} {ds : List PyData}, PyVs H xs ds → PyVs H2 xs ds
  | _, _, .nil => .nil
  | _, _, .cons h r => .cons (PyV.keep s h) (PyVs.keep s r)
end
theorem PyV.but {H H2 : Hp} {a : Addr} {x : V} {d : PyData} {f : Heap → Prop} (p : PyV H x d) (s : ∀ b o, H b = some o → b ≠ a → H2 b = some o) (ha : H a = some (.ext f)) : PyV H2 x d :=
  p.keep fun b o e k => s b o e fun z => by
    rw [z, ha] at e
    cases e
    rcases k with ⟨xs, k⟩ | ⟨xs, k⟩ <;> cases k
/-- a datum that can be told: its text is not too long -/
structure Tells (d : PyData) : Prop where
  sh : d.showable = true
  dp : d.depth ≤ 4
  sz : d.shown.length ≤ 8000000
theorem Tells.size {d : PyData} (t : Tells d) : d.shown.length ≤ sizeLine := by
  have := t.sz
  rw [sizeLine_eq]
  omega
end L2
set_option Elab.async false
set_option linter.all false
set_option maxRecDepth 100000
set_option maxHeartbeats 4000000
/-! Where no repr is under way: calls of defs, own errors made, lambdas called. -/
namespace L2
open PySem PySem.Spec PyProof.Rows
end L2
set_option Elab.async false
set_option linter.all false
set_option maxRecDepth 100000
set_option maxHeartbeats 4000000
/-! raise X(..) from Y(..), where nothing is being handled. -/
namespace L2
open PySem PySem.Spec PyProof.Rows
end L2
set_option Elab.async false
set_option linter.all false
set_option maxRecDepth 100000
set_option maxHeartbeats 4000000
/-! raise X(..) from Y(..): the rule. -/
namespace L2
open PySem PySem.Spec PyProof.Rows
section
variable {X : Cx} {pins : List (Addr × Obj)} {σ : St} {H : Hp} {s : Shared}
/-- without an object that is not tracked, nor a frame's nor a cell -/
theorem Inv.less {a : Addr} {o : Obj} {G : Heap} (I : Inv X ((a, o) :: pins) σ H s) (new : X.s_0.heap.get? a = none) (c : ∀ v, o.data ≠ .cell v) (away : ∀ p ∈ X.pn ++ pins, p.1 ≠ a) (gk : ∀ b, b ≠ a → G.get? b = s.heap.get? b) : Inv X pins σ H { s with heap := G } := by
  obtain ⟨ea, na, la, fa, _⟩ := I.pin (a, o) (List.mem_append_right _ (List.mem_cons_self ..))
  have old : ∀ {b : Addr} {u : Obj}, X.s_0.heap.get? b = some u → b ≠ a := fun {b u} e z => by
    rw [z, new] at e
    cases e
  have look : ∀ {b : Addr} {v : Option Value}, s.heap.IsCell b v → G.IsCell b v := fun {b v} ⟨u, hu, hd⟩ => by
    refine ⟨u, ?_, hd⟩
    rw [gk b fun z => ?_]
    · exact hu
    · rw [z, ea] at hu
      cases hu
      exact c _ hd
  refine ⟨I.ok, I.os, I.bare, ?_, ?_, fun x b e => ?_, I.free, I.freeC, fun p hp => ?_, ?_, I.len⟩
  · refine { keep := fun b u e n h1 h2 => ?_, slot := fun b u e n h1 h2 => ?_, free := I.base.free, there := fun b u e h => ?_, tups := I.base.tups, frzs := I.base.frzs, tbls := I.base.tbls }
    · show G.get? b = _
      rw [gk b (old e)]
      exact I.base.keep b u e n h1 h2
    · show ∃ sl, G.get? b = _
      rw [gk b (old e)]
      exact I.base.slot b u e n h1 h2
    · show ∃ q, G.get? b = some q
      rw [gk b (old e)]
      exact I.base.there b u e h
  · obtain ⟨m, ⟨u, es, ep, e, d, r⟩, q⟩ := I.loc
    refine ⟨m, ⟨u, es, ep, ?_, d, r⟩, fun i x v h1 h2 h3 => ?_⟩
    · show G.get? _ = _
      rw [gk _ (Ne.symm la)]
      exact e
    · obtain ⟨w, rv, lk⟩ := q i x v h1 h2 h3
      refine ⟨w, rv, ?_⟩
      rcases lk with lk | ⟨k1, b, k2, k3⟩
      · exact .inl lk
      · exact .inr ⟨k1, b, k2, look k3⟩
  · obtain ⟨v, hv⟩ := I.cell x b e
    exact ⟨v, look hv⟩
  · obtain ⟨e, r⟩ := I.pin p (by
      rcases List.mem_append.mp hp with h | h
      · exact List.mem_append_left _ h
      · exact List.mem_append_right _ (List.mem_cons_of_mem _ h))
    refine ⟨?_, r⟩
    show G.get? _ = _
    rw [gk _ (away p hp)]
    exact e
  · intro b u e
    have nb : b ≠ a := fun z => by
      rw [z, na] at e
      cases e
    refine (I.hok b u e).stay (fun d v hd q => ?_) (fun d q => q) fun d xs q => q
    rw [gk d ?_]
    · exact q
    · rcases hd with z | z
      · rw [z]
        exact nb
      · exact fun y => by
          rw [y, na] at z
          cases z
end
end L2
set_option Elab.async false
set_option linter.all false
set_option maxRecDepth 100000
set_option maxHeartbeats 4000000
/-! Values with dicts among them, told by repr. -/
namespace L2
open PySem PySem.Spec PyProof.Rows
/-- a key as a datum -/
def keyD : Key → PyData
  | .inl i => .int i
  | .inr s => .str s
def zipD (ks : List Key) (ds : List PyData) : List (PyData × PyData) := (ks.map keyD).zip ds
mutual
inductive PyW (H : Hp) : V → PyData → Prop
  | non : PyW H .non .none
  | bl (b : Bool) : PyW H (.bl b) (.bool b)
  | int (i : Int) : PyW H (.int i) (.int i)
  | str (z : Str) : PyW H (.str z) (.str z)
  | tup {a : Addr} {xs : List V} {ds : List PyData} : H a = some (.tup xs) → PyWs H xs ds → PyW H (.ref a) (.tuple ds)
  | lst {a : Addr} {xs : List V} {ds : List PyData} : H a = some (.lst xs) → PyWs H xs ds → PyW H (.ref a) (.list ds)
  | dic {a : Addr} {kvs : List (Key × V)} {ds : List PyData} : H a = some (.dK kvs) → PyWs H (kvs.map (·.2)) ds → PyW H (.ref a) (.dict (zipD (kvs.map (·.1)) ds))
inductive PyWs (H : Hp) : List V → List PyData → Prop
  | nil : PyWs H [] []
  | cons {x : V} {d : PyData} {xs : List V} {ds : List PyData} : PyW H x d → PyWs H xs ds → PyWs H (x :: xs) (d :: ds)
end
mutual
theorem PyW.keep {H H2 : Hp} (s : ∀ b o, H b = some o → ((∃ xs, o = .tup xs) ∨ (∃ xs, o = .lst xs) ∨ ∃ xs, o = .dK xs) → H2 b = some o) : ∀ {x : V} {d : PyData}, PyW H x d → PyW H2 x d
  | _, _, .non => .non
  | _, _, .bl b => .bl b
  | _, _, .int i => .int i
  | _, _, .str z => .str z
  | _, _, .tup h r => .tup (s _ _ h (.inl ⟨_, rfl⟩)) (PyWs.keep s r)
  | _, _, .lst h r => .lst (s _ _ h (.inr (.inl ⟨_, rfl⟩))) (PyWs.keep s r)
  | _, _, .dic h r => .dic (s _ _ h (.inr (.inr ⟨_, rfl⟩))) (PyWs.keep s r)
theorem PyWs.keep {H H2 : Hp} (s : ∀ b o, H b = some o → ((∃ xs, o = .tup xs) ∨ (∃ xs, o = .lst xs) ∨ ∃ xs, o = .dK xs) → H2 b = some o) : ∀ {xs : List V} {ds : List PyData}, PyWs H xs ds → PyWs H2 xs ds
  | _, _, .nil => .nil
  | _, _, .cons h r => .cons (PyW.keep s h) (PyWs.keep s r)
end
theorem PyW.same {H H2 : Hp} (s : ∀ b o, H b = some o → H2 b = some o) {x : V} {d : PyData} (p : PyW H x d) : PyW H2 x d := p.keep fun b o e _ => s b o e
theorem PyWs.same {H H2 : Hp} (s : ∀ b o, H b = some o → H2 b = some o) {xs : List V} {ds : List PyData} (p : PyWs H xs ds) : PyWs H2 xs ds := p.keep fun b o e _ => s b o e
theorem PyW.but {H H2 : Hp} {a : Addr} {x : V} {d : PyData} {f : Heap → Prop} (p : PyW H x d) (s : ∀ b o, H b = some o → b ≠ a → H2 b = some o) (ha : H a = some (.ext f)) : PyW H2 x d :=
  p.keep fun b o e k => s b o e fun z => by
    rw [z, ha] at e
    cases e
    rcases k with ⟨xs, k⟩ | ⟨xs, k⟩ | ⟨xs, k⟩ <;> cases k
theorem PyWs.length {H : Hp} : ∀ {xs : List V} {ds : List PyData}, PyWs H xs ds → xs.length = ds.length
  | _, _, .nil => rfl
  | _, _, .cons _ r => by rw [List.length_cons, List.length_cons, PyWs.length r]
theorem PyWs.append {H : Hp} : ∀ {xs ys : List V} {ds es : List PyData}, PyWs H xs ds → PyWs H ys es → PyWs H (xs ++ ys) (ds ++ es)
  | _, _, _, _, .nil, q => q
  | _, _, _, _, .cons h r, q => .cons h (PyWs.append r q)
/-- it is flat, or an object -/
theorem PyW.flat {H : Hp} {x : V} {d : PyData} (p : PyW H x d) : PyV H x d ∨ ∃ a, x = .ref a := by
  cases p with
  | non => exact .inl .non
  | bl b => exact .inl (.bl b)
  | int i => exact .inl (.int i)
  | str z => exact .inl (.str z)
  | tup h r => exact .inr ⟨_, rfl⟩
  | lst h r => exact .inr ⟨_, rfl⟩
  | dic h r => exact .inr ⟨_, rfl⟩
end L2
set_option Elab.async false
set_option linter.all false
set_option maxRecDepth 100000
set_option maxHeartbeats 4000000
/-! The drawing of the law: the pen, a draw, a pick. -/
namespace V8
open PySem PySem.Spec PyProof.Rows L2
def topS (i : Nat) : Stmt := PySem.Challenge.pw_blindrepair_k21_whole_one_to_one_kept.main.body.getD i (.Pass ⟨0, 0, 0, 0⟩)
abbrev s_pen : Stmt := topS 81
theorem sc_pen : FnScope ["_law_script"] ["_law_script"] (defScope s_pen) := ⟨rfl, rfl, rfl, by decide +kernel, rfl, by decide +kernel, by decide +kernel⟩
abbrev s_draw : Stmt := topS 82
theorem sc_draw : FnScope ["_law_pen_here", "_law_many", "_law_digit", "_law_spot", "_law_cell", "_law_great", "_law_stirred"] ["_law_pen_here", "_law_many"] (defScope s_draw) := ⟨rfl, rfl, rfl, by decide +kernel, rfl, by decide +kernel, by decide +kernel⟩
abbrev s_pick : Stmt := topS 83
theorem sc_pick : FnScope ["_law_pen_here", "_law_some"] ["_law_pen_here", "_law_some"] (defScope s_pick) := ⟨rfl, rfl, rfl, by decide +kernel, rfl, by decide +kernel, by decide +kernel⟩
/-- all but the object at p stands as it stood -/
def Fr (p : Addr) (H H' : Hp) : Prop := ∀ b o, H b = some o → b ≠ p → H' b = some o
theorem Fr.refl {p : Addr} {H : Hp} : Fr p H H := fun _ _ h _ => h
theorem Fr.trans {p : Addr} {H H1 H2 : Hp} (a : Fr p H H1) (b : Fr p H1 H2) : Fr p H H2 := fun c o h n => b c o (a c o h n) n
theorem Fr.new {p q : Addr} {o : HO} {H : Hp} (h : H q = none) : Fr p H (upd H q o) := fun b u e _ => by
  rw [upd_ne (ne_of_none e h)]; exact e
theorem Fr.at {p : Addr} {o : HO} {H : Hp} : Fr p H (upd H p o) := fun b u e n => by
  rw [upd_ne n]; exact e
/-- the pen at p, the script's ints at l, n draws are let -/
structure PenAt (H : Hp) (p l : Addr) (ns : List Int) (n : Nat) : Prop where
  here : ∃ (spot great : Int), H p = some (.lst [.ref l, .int spot, .int great]) ∧ 0 ≤ spot ∧ spot + n ≤ 1000000 ∧ 0 ≤ great
  nums : H l = some (.lst (ns.map V.int))
  ne : l ≠ p
  short : ns.length ≤ 63
theorem PenAt.less {H : Hp} {p l : Addr} {ns : List Int} {n m : Nat} (P : PenAt H p l ns n) (h : m ≤ n) : PenAt H p l ns m := by
  obtain ⟨⟨s, g, h1, h2, h3, h4⟩, i, e, sh⟩ := P
  exact ⟨⟨s, g, h1, h2, by omega, h4⟩, i, e, sh⟩
theorem PenAt.some' {H : Hp} {p l : Addr} {ns : List Int} {n : Nat} (P : PenAt H p l ns n) : H p ≠ none := by
  obtain ⟨⟨s, g, h1, _⟩, _⟩ := P
  rw [h1]; exact fun z => nomatch z
theorem PenAt.new {H : Hp} {p l q : Addr} {o : HO} {ns : List Int} {n : Nat} (P : PenAt H p l ns n) (h : H q = none) : PenAt (upd H q o) p l ns n := by
  obtain ⟨⟨s, g, h1, h2, h3, h4⟩, i, e, sh⟩ := P
  exact ⟨⟨s, g, by rw [upd_ne (ne_of_none h1 h)]; exact h1, h2, h3, h4⟩, by rw [upd_ne (ne_of_none i h)]; exact i, e, sh⟩
/-- another object is written -/
theorem PenAt.other {H : Hp} {p l q : Addr} {o : HO} {ns : List Int} {n : Nat} (P : PenAt H p l ns n) (h : q ≠ p) (h' : q ≠ l) : PenAt (upd H q o) p l ns n := by
  obtain ⟨⟨s, g, h1, h2, h3, h4⟩, i, e, sh⟩ := P
  exact ⟨⟨s, g, by rw [upd_ne (Ne.symm h)]; exact h1, h2, h3, h4⟩, by rw [upd_ne (Ne.symm h')]; exact i, e, sh⟩
def spDraw : Sp := fun vs H Q _ => ∃ (p l : Addr) (ns : List Int) (n : Nat) (many : Int), vs = [.ref p, .int many] ∧ PenAt H p l ns (n + 1) ∧ 0 < many ∧ many < 1000 ∧
  ∀ (v : Int) (H' : Hp), 0 ≤ v → v < many → PenAt H' p l ns n → Fr p H H' → Q (.int v) H'
section
variable {P : Program} {w : World} {K : PySem.W.Frag} {mg : Str → Option Value} {base : Heap}
theorem ints_at {ns : List Int} {i : Int} (h0 : 0 ≤ i) (h : i < ns.length) : ∃ z : Int, atI (ns.map V.int) i = some (.int z) := by
  obtain ⟨j, rfl⟩ : ∃ j : Nat, i = j := ⟨i.toNat, by omega⟩
  have hj : j < ns.length := by omega
  exact ⟨ns[j], atI_nat (by rw [List.getElem?_map, List.getElem?_eq_getElem hj]; rfl)⟩
def dInts (ns : List Int) : List PyData := ns.map PyData.int
theorem dp_ints {H : Hp} : ∀ ns : List Int, DpAll K H (ns.map V.int) (dInts ns)
  | [] => .nil
  | n :: ns => .cons (.int n) (dp_ints ns)
theorem lay_ints : ∀ ns : List Int, PyData.canLayAll0 (dInts ns) = true
  | [] => by simp [dInts, PyData.canLayAll0]
  | n :: ns => by
    have h := lay_ints ns
    simp only [dInts, List.map_cons, PyData.canLayAll0, PyData.canLay0, Bool.true_and]
    exact h
theorem depth_ints : ∀ ns : List Int, PyData.depthAll (dInts ns) = 0
  | [] => by simp [dInts, PyData.depthAll]
  | n :: ns => by
    have h := depth_ints ns
    simp only [dInts, List.map_cons, PyData.depthAll, PyData.depth]
    unfold dInts at h
    omega
theorem shaped_ints (ns : List Int) : SeqAt.shaped (.list (dInts ns)) = true := by
  have h2 : PyData.depth (.list (dInts ns)) ≤ 64 := by
    simp only [PyData.depth, depth_ints]
    omega
  show (PyData.canLay0 (.list (dInts ns)) && decide (PyData.depth (.list (dInts ns)) ≤ 64)) = true
  rw [Bool.and_eq_true]
  exact ⟨by simp only [PyData.canLay0]; exact lay_ints ns, decide_eq_true h2⟩
structure Blt (mg : Str → Option Value) : Prop where
  list : mg "list" = none
  int : mg "int" = none
  len : mg "len" = none
  abs : mg "abs" = none
  range : mg "range" = none
  dict : mg "dict" = none
  str : mg "str" = none
  sorted : mg "sorted" = none
  tuple : mg "tuple" = none
theorem pw2 {st spot : Int} (s0 : 0 ≤ st) (s1 : st < 2147469629) (h0 : 0 ≤ spot) (h1 : spot ≤ 1000000) : (st * (2 * spot + 137) + 60169 * spot * spot + 123).natAbs < 2 ^ 64 := by
  have a1 : st * (2 * spot + 137) ≤ 2147483647 * 2000999 := Int.mul_le_mul (by omega) (by omega) (by omega) (by omega)
  have a0 : 0 ≤ st * (2 * spot + 137) := Int.mul_nonneg s0 (by omega)
  have c1 : 60169 * spot * spot ≤ 99999000000 * 1000000 := Int.mul_le_mul (by omega) h1 h0 (by omega)
  have c0 : 0 ≤ 60169 * spot * spot := Int.mul_nonneg (by omega) h0
  omega
theorem ok_draw {f : Addr} {fd : FuncData} {k : Nat} (F : Fun K "_law_draw" "_law_draw" s_draw f fd) (T : Blt mg) : FnOk P w K mg base CX0 (k + 1) f fd ["_law_pen_here", "_law_many"] spDraw := by
  refine F.ok sc_draw (fun vs H Q E h => ?_) (fun cdv A outer s H vs Q E hr h => ?_)
  · obtain ⟨p, l, ns, n, many, rfl, _⟩ := h
    rfl
  · obtain ⟨p, l, ns, n, many, rfl, PA, m0, m1, q⟩ := h
    obtain ⟨⟨spot, great, hp, hs0, hsn, hg⟩, hl, hne, hsh⟩ := id PA
    refine ⟨_, (pss_cons (ps_if (pt_cmpR op_gt (pe_ix (ix_listK (K := K) rfl) (pv 0) pe_int (fun _ _ => rfl)) pe_int (nomark _))
        (pss_cons (ps_set (i := 2) sc_draw.nd rfl (.inl rfl) (pe_op op_mod (pe_callTy call_int1 (by rfl) T.int (by decide +kernel) (pa_cons (pe_ix (ix_listK (K := K) rfl) (pv 0) pe_int (fun _ _ => rfl)) pa_nil)) (pv 1)))
        (pss_cons (ps_asg (pe_op op_fdiv (pe_callTy call_int1 (by rfl) T.int (by decide +kernel) (pa_cons (pe_ix (ix_listK (K := K) rfl) (pv 0) pe_int (fun _ _ => rfl)) pa_nil)) (pv 1)) (pg_sub (pv 0) pe_int set_list))
        (pss_one (ps_ret (pv 2)))))
        pss_nil)
      (pss_cons (ps_set (i := 3) sc_draw.nd rfl (.inl rfl) (pe_ix (ix_listK (K := K) rfl) (pv 0) pe_int (fun _ _ => rfl)))
      (pss_cons (ps_asg (pe_op op_add (pv 3) pe_int) (pg_sub (pv 0) pe_int set_list))
      (pss_cons (ps_set (i := 4) sc_draw.nd rfl (.inl rfl) (pe_op op_add (pe_op op_mul pe_int (pv 3)) pe_int))
      (pss_cons (ps_if (pt_cmpR (op_neDK (K := K) rfl hr.units) (pe_ix (ix_listK (K := K) rfl) (pv 0) pe_int (fun _ _ => rfl)) (pe_lst pa_nil) (nomark _))
        (pss_one (ps_set (i := 4) sc_draw.nd rfl (.inl rfl) (pe_ix (ix_listK (K := K) rfl) (pe_ix (ix_listK (K := K) rfl) (pv 0) pe_int (fun _ _ => rfl)) (pe_op op_mod (pe_callTy call_int1 (by rfl) T.int (by decide +kernel) (pa_cons (pv 3) pa_nil)) (pe_callB (call_len_seqK (K := K) rfl) (by rfl) T.len (by decide +kernel) (pa_cons (pe_ix (ix_listK (K := K) rfl) (pv 0) pe_int (fun _ _ => rfl)) pa_nil))) (fun _ _ => rfl))))
        pss_nil)
      (pss_cons (ps_if (PW.pt (pw_and (pt_cmpR op_lt (pv 3) (pe_callB (call_len_seqK (K := K) rfl) (by rfl) T.len (by decide +kernel) (pa_cons (pe_ix (ix_listK (K := K) rfl) (pv 0) pe_int (fun _ _ => rfl)) pa_nil)) (nomark _)) (pw_and1 (pt_cmpR op_ge (pe_callB call_abs (by rfl) T.abs (by decide +kernel) (pa_cons (pv 4) pa_nil)) (pe_op op_pow pe_int pe_int) (nomark _)))))
        (pss_cons (ps_set (i := 5) sc_draw.nd rfl (.inl rfl) (pe_op op_add (pe_op op_mul pe_int (pe_op op_sub (pe_callB call_abs (by rfl) T.abs (by decide +kernel) (pa_cons (pv 4) pa_nil)) (pe_op op_pow pe_int pe_int))) (pe_callTy call_int1 (by rfl) T.int (by decide +kernel) (pa_cons (pe_cmpR op_lt (pv 4) pe_int (nomark _)) pa_nil))))
        (pss_cons (ps_asg (pe_op op_fdiv (pe_callTy call_int1 (by rfl) T.int (by decide +kernel) (pa_cons (pv 5) pa_nil)) (pv 1)) (pg_sub (pv 0) pe_int set_list))
        (pss_one (ps_ret (pe_op op_mod (pe_callTy call_int1 (by rfl) T.int (by decide +kernel) (pa_cons (pv 5) pa_nil)) (pv 1))))))
        pss_nil)
      (pss_cons (ps_set (i := 6) sc_draw.nd rfl (.inl rfl) (pe_op op_mod (pe_callTy call_int1 (by rfl) T.int (by decide +kernel) (pa_cons (pe_op op_pow (pe_op op_add (pe_op op_add (pe_op op_mod (pe_callTy call_int1 (by rfl) T.int (by decide +kernel) (pa_cons (pv 4) pa_nil)) pe_int) (pe_op op_mul pe_int (pv 3))) pe_int) pe_int) pa_nil)) pe_int))
      (pss_cons (ps_set (i := 6) sc_draw.nd rfl (.inl rfl) (pe_op op_mod (pe_callTy call_int1 (by rfl) T.int (by decide +kernel) (pa_cons (pe_op op_pow (pe_op op_add (pe_op op_add (pe_op op_mul (pv 6) (pe_op op_add (pe_op op_mul pe_int (pv 3)) pe_int)) (pe_op op_mul (pe_op op_mul pe_int (pv 3)) (pv 3))) pe_int) pe_int) pa_nil)) pe_int))
      (pss_one (ps_ret (pe_op op_mod (pe_callTy call_int1 (by rfl) T.int (by decide +kernel) (pa_cons (pe_op op_fdiv (pv 6) pe_int) pa_nil)) (pv 1)))))))))))), ?_⟩
    -- pen[2] > 0
    refine ⟨_, rfl, p, _, 2, _, rfl, rfl, SqL.of hp, rfl, great, 0, rfl, rfl, _, rfl, ?_⟩
    refine ite2 (fun e => ?_) (fun e => ?_)
    · refine ⟨_, rfl, p, _, 2, _, rfl, rfl, SqL.of hp, rfl, .inl ⟨_, rfl, _, rfl, _, _, rfl, rfl, m0, ?_⟩⟩
      refine ⟨_, rfl, p, _, 2, _, rfl, rfl, SqL.of hp, rfl, .inl ⟨_, rfl, _, rfl, _, _, rfl, rfl, ⟨m0, by omega⟩, _, rfl, p, _, 2, 2, rfl, rfl, hp, rfl, ?_⟩⟩
      refine ⟨_, rfl, q _ _ (Int.emod_nonneg _ (by omega)) (Int.emod_lt_of_pos _ m0) ⟨⟨spot, great / many, upd_same, hs0, by omega, Int.ediv_nonneg hg (by omega)⟩, by rw [upd_ne hne]; exact hl, hne, hsh⟩ Fr.at⟩
    -- spot = pen[1]; pen[1] = spot + 1; cell = ..
    refine ⟨_, rfl, p, _, 1, _, rfl, rfl, SqL.of hp, rfl, ?_⟩
    refine ⟨_, rfl, _, _, rfl, rfl, _, rfl, p, _, 1, 1, rfl, rfl, hp, rfl, ?_⟩
    refine ⟨_, rfl, _, _, rfl, rfl, .inl ⟨by decide, by decide⟩, _, _, rfl, rfl, ?_⟩
    have hp1 : upd H p (.lst [.ref l, .int (spot + 1), .int great]) p = some (.lst [.ref l, .int (spot + 1), .int great]) := upd_same
    have hl1 : upd H p (.lst [.ref l, .int (spot + 1), .int great]) l = some (.lst (ns.map V.int)) := by rw [upd_ne hne]; exact hl
    dsimp only [List.set_cons_succ, List.set_cons_zero]
    -- pen[0] != []
    refine ⟨_, rfl, p, _, 0, _, rfl, rfl, SqL.of hp1, rfl, Nat.zero_le _, fun o no => ?_⟩
    have hpo : p ≠ o := ne_of_none hp1 no
    have hlo : l ≠ o := ne_of_none hl1 no
    have hp2 : upd (upd H p (.lst [.ref l, .int (spot + 1), .int great])) o (.lst []) p = some (.lst [.ref l, .int (spot + 1), .int great]) := by rw [upd_ne hpo]; exact hp1
    have hl2 : upd (upd H p (.lst [.ref l, .int (spot + 1), .int great])) o (.lst []) l = some (.lst (ns.map V.int)) := by rw [upd_ne hlo]; exact hl1
    have fr2 : Fr p H (upd (upd H p (.lst [.ref l, .int (spot + 1), .int great])) o (.lst [])) := Fr.at.trans (Fr.new no)
    refine ⟨_, _, .lst (SqL.of hl2) (dp_ints ns), .lst (SqL.of upd_same) .nil, shaped_ints ns, by decide, _, rfl, ?_⟩
    generalize upd (upd H p (.lst [.ref l, .int (spot + 1), .int great])) o (.lst []) = H2 at hp2 hl2 fr2 ⊢
    refine ite2 (fun e => ?g1) (fun e => ?g2)
    case' g1 =>
      have hns : 0 < ns.length := by
        cases ns with
        | nil => simp [dInts, PyData.eqv, PyData.eqvAll] at e
        | cons a r => simp
      have hpos : (0 : Int) < ((ns.map V.int).length : Int) := by rw [List.length_map]; omega
      obtain ⟨z, hz⟩ := ints_at (ns := ns) (i := spot % ((ns.map V.int).length : Int)) (Int.emod_nonneg _ (by omega)) (by
        have := Int.emod_lt_of_pos spot hpos
        rw [List.length_map] at this ⊢
        exact this)
      refine ⟨_, rfl, p, _, 0, _, rfl, rfl, SqL.of hp2, rfl, _, rfl, .inl ⟨_, rfl, _, rfl, p, _, 0, _, rfl, rfl, SqL.of hp2, rfl, l, _, rfl, .inl (SqL.of hl2), _, _, rfl, rfl, hpos, l, _, _, _, rfl, rfl, SqL.of hl2, hz, ?_⟩⟩
      generalize z = c
      refine ⟨_, rfl, _, rfl, p, _, 0, _, rfl, rfl, SqL.of hp2, rfl, l, _, rfl, .inl (SqL.of hl2), _, _, rfl, rfl, _, rfl, ?_⟩
      refine ite2 (fun e1 => ?a3) (fun e1 => ?a4)
      case' a3 =>
        refine ⟨_, rfl, _, rfl, _, _, rfl, rfl, ⟨by decide, by decide, by decide⟩, _, _, rfl, rfl, _, rfl, ?_⟩
        refine ite2 (fun e2 => ?a5) (fun e2 => ?a6)
        case' a5 =>
          have hge := of_decide_eq_true e2
          refine ⟨_, rfl, _, rfl, _, _, rfl, rfl, ⟨by decide, by decide, by decide⟩, _, _, rfl, rfl, _, _, rfl, rfl, .inl ⟨by decide, by decide⟩, _, rfl, _, _, rfl, rfl, .inr ⟨_, rfl, _, _, rfl, rfl, ?_⟩⟩
          have hG : 0 ≤ 2 * ((if c < 0 then -c else c) - 10 ^ (18 : Int).toNat) + (if decide (c < 0) = true then 1 else 0) := by
            have h1 : (10 : Int) ^ (18 : Int).toNat ≤ (if c < 0 then -c else c) := hge
            have h2 : (0 : Int) ≤ (if decide (c < 0) = true then 1 else 0) := by split <;> decide
            omega
          refine ⟨_, rfl, .inl ⟨_, rfl, _, rfl, _, _, rfl, rfl, ⟨m0, by omega⟩, _, rfl, p, _, 2, 2, rfl, rfl, hp2, rfl, ?_⟩⟩
          refine ⟨_, rfl, .inl ⟨_, rfl, _, rfl, _, _, rfl, rfl, m0, ?_⟩⟩
          exact q _ _ (Int.emod_nonneg _ (by omega)) (Int.emod_lt_of_pos _ m0) ⟨⟨spot + 1, _, upd_same, by omega, by omega, Int.ediv_nonneg hG (by omega)⟩, by rw [upd_ne hne]; exact hl2, hne, hsh⟩ (fr2.trans Fr.at)
      case' a4 => refine iteF ?_
    case' g2 =>
      generalize 80203 * spot + 779 = c
      refine ⟨_, rfl, _, rfl, p, _, 0, _, rfl, rfl, SqL.of hp2, rfl, l, _, rfl, .inl (SqL.of hl2), _, _, rfl, rfl, _, rfl, ?_⟩
      refine ite2 (fun e1 => ?b3) (fun e1 => ?b4)
      case' b3 =>
        refine ⟨_, rfl, _, rfl, _, _, rfl, rfl, ⟨by decide, by decide, by decide⟩, _, _, rfl, rfl, _, rfl, ?_⟩
        refine ite2 (fun e2 => ?b5) (fun e2 => ?b6)
        case' b5 =>
          have hge := of_decide_eq_true e2
          refine ⟨_, rfl, _, rfl, _, _, rfl, rfl, ⟨by decide, by decide, by decide⟩, _, _, rfl, rfl, _, _, rfl, rfl, .inl ⟨by decide, by decide⟩, _, rfl, _, _, rfl, rfl, .inr ⟨_, rfl, _, _, rfl, rfl, ?_⟩⟩
          have hG : 0 ≤ 2 * ((if c < 0 then -c else c) - 10 ^ (18 : Int).toNat) + (if decide (c < 0) = true then 1 else 0) := by
            have h1 : (10 : Int) ^ (18 : Int).toNat ≤ (if c < 0 then -c else c) := hge
            have h2 : (0 : Int) ≤ (if decide (c < 0) = true then 1 else 0) := by split <;> decide
            omega
          refine ⟨_, rfl, .inl ⟨_, rfl, _, rfl, _, _, rfl, rfl, ⟨m0, by omega⟩, _, rfl, p, _, 2, 2, rfl, rfl, hp2, rfl, ?_⟩⟩
          refine ⟨_, rfl, .inl ⟨_, rfl, _, rfl, _, _, rfl, rfl, m0, ?_⟩⟩
          exact q _ _ (Int.emod_nonneg _ (by omega)) (Int.emod_lt_of_pos _ m0) ⟨⟨spot + 1, _, upd_same, by omega, by omega, Int.ediv_nonneg hG (by omega)⟩, by rw [upd_ne hne]; exact hl2, hne, hsh⟩ (fr2.trans Fr.at)
      case' b4 => refine iteF ?_
    all_goals
      have b0 := Int.emod_nonneg c (show (2147479681 : Int) ≠ 0 by decide)
      have b1 := Int.emod_lt_of_pos c (show (0 : Int) < 2147479681 by decide)
      refine ⟨_, rfl, .inl ⟨_, rfl, _, _, rfl, rfl, (show (0 : Int) < 2147479681 by decide), _, rfl, _, _, rfl, rfl, .inl ⟨by decide, by decide⟩, _, _, rfl, rfl, _, _, rfl, rfl, _, _, rfl, rfl, ⟨by decide, by decide, by omega⟩, .inl ⟨_, rfl, _, _, rfl, rfl, (show (0 : Int) < 2147469629 by decide), ?_⟩⟩⟩
      have s0 : 0 ≤ ((c % 2147479681 + 71297 * spot + 385) ^ (5 : Int).toNat) % 2147469629 := Int.emod_nonneg _ (by decide)
      have s1 : ((c % 2147479681 + 71297 * spot + 385) ^ (5 : Int).toNat) % 2147469629 < 2147469629 := Int.emod_lt_of_pos _ (by decide)
      have hsp : spot ≤ 1000000 := by omega
      refine ⟨_, rfl, _, rfl, _, _, rfl, rfl, .inl ⟨by decide, by decide⟩, _, _, rfl, rfl, _, _, rfl, rfl, .inl ⟨by omega, by omega⟩, _, rfl, _, _, rfl, rfl, .inl ⟨by decide, by decide⟩, _, rfl, _, _, rfl, rfl, .inl ⟨by omega, by omega⟩, _, _, rfl, rfl, _, _, rfl, rfl, _, _, rfl, rfl, ⟨by decide, by decide, pw2 s0 s1 hs0 hsp⟩, .inl ⟨_, rfl, _, _, rfl, rfl, (show (0 : Int) < 2147459731 by decide), ?_⟩⟩
      refine ⟨_, rfl, _, _, rfl, rfl, ⟨by decide, by decide⟩, .inl ⟨_, rfl, _, rfl, _, _, rfl, rfl, m0, ?_⟩⟩
      exact q _ _ (Int.emod_nonneg _ (by omega)) (Int.emod_lt_of_pos _ m0) ⟨⟨spot + 1, great, hp2, by omega, by omega, hg⟩, hl2, hne, hsh⟩ fr2
end
end V8
set_option Elab.async false
set_option linter.all false
set_option maxRecDepth 100000
set_option maxHeartbeats 4000000
/-! What the law draws: a pick, letters, images, tables. -/
namespace V8
open PySem PySem.Spec PyProof.Rows L2
/-- the text of one sign; of several -/
def L1 (c : Nat) : Str := ⟨#[c]⟩
def Sx (cs : List Nat) : Str := ⟨cs.toArray⟩
theorem L1_Sx (c : Nat) : L1 c = Sx [c] := rfl
theorem L1_inj {a b : Nat} (h : L1 a = L1 b) : a = b := by
  have h1 : (#[a] : Array Nat) = #[b] := congrArg Str.cps h
  simpa using h1
theorem Sx_inj {a b : List Nat} (h : Sx a = Sx b) : a = b := by
  have h1 : a.toArray = b.toArray := congrArg Str.cps h
  simpa using h1
def isLt (c : Nat) : Prop := 97 ≤ c ∧ c ≤ 122
instance (c : Nat) : Decidable (isLt c) := inferInstanceAs (Decidable (97 ≤ c ∧ c ≤ 122))
def lets (cs : List Nat) : List V := cs.map fun c => V.str (L1 c)
theorem lets_len (cs : List Nat) : (lets cs).length = cs.length := List.length_map ..
theorem lets_erase (cs : List Nat) (k : Nat) : (lets cs).eraseIdx k = lets (cs.eraseIdx k) := by
  unfold lets
  rw [List.eraseIdx_eq_take_drop_succ, List.eraseIdx_eq_take_drop_succ, List.map_append, List.map_take, List.map_drop]
theorem lets_snoc (cs : List Nat) (c : Nat) : lets (cs ++ [c]) = lets cs ++ [V.str (L1 c)] := by
  unfold lets
  rw [List.map_append]
  rfl
/-- a thing that is new, as seen from the start, is written -/
theorem Fr.put {p a : Addr} {o : HO} {H H1 : Hp} (f : Fr p H H1) (hn : H a = none) : Fr p H (upd H1 a o) := fun b u e n => by
  rw [upd_ne (ne_of_none e hn)]
  exact f b u e n
theorem lets_mem {cs : List Nat} {v : V} (h : v ∈ lets cs) : ∃ c ∈ cs, v = .str (L1 c) := by
  obtain ⟨c, hc, e⟩ := List.mem_map.mp h
  exact ⟨c, hc, e.symm⟩
/-- a to z -/
def abc : List Nat := (List.range 26).map (· + 97)
theorem abc_len : abc.length = 26 := by decide
theorem abc_nd : abc.Nodup := by decide
theorem abc_mem {c : Nat} : c ∈ abc ↔ isLt c := by
  unfold abc isLt
  rw [List.mem_map]
  constructor
  · rintro ⟨a, ha, rfl⟩
    have := List.mem_range.mp ha
    omega
  · rintro ⟨h1, h2⟩
    exact ⟨c - 97, List.mem_range.mpr (by omega), by omega⟩
def abcS : Str := "abcdefghijklmnopqrstuvwxyz"
theorem abcS_cps : abcS.cps.toList = abc := by decide +kernel
abbrev s_some_letters : Stmt := topS 84
abbrev n_some_letters : List Str := ["_law_pen_here", "_law_many", "_law_pool", "_law_k"]
theorem sc_some_letters : FnScope ["_law_pen_here", "_law_many", "_law_pool", "_law_k"] ["_law_pen_here", "_law_many"] (defScope s_some_letters) := ⟨rfl, rfl, rfl, by decide +kernel, rfl, by decide +kernel, by decide +kernel⟩
def spPick (K : PySem.W.Frag) : Sp := fun vs H Q _ => ∃ (p l a : Addr) (ns : List Int) (n : Nat) (xs : List V), vs = [.ref p, .ref a] ∧ PenAt H p l ns (n + 1) ∧ SqL K H a xs ∧ 0 < xs.length ∧ xs.length < 1000 ∧
  (∀ H', Fr p H H' → SqL K H' a xs) ∧ ∀ (v : V) (H' : Hp), v ∈ xs → PenAt H' p l ns n → Fr p H H' → Q v H'
theorem SqL.fr {K : PySem.W.Frag} {H H' : Hp} {p a : Addr} {xs : List V} (h : SqL K H a xs) (f : Fr p H H') (ne : a ≠ p) : SqL K H' a xs :=
  h.elim (fun h => .inl (h.elim (fun h => .inl (f _ _ h ne)) fun ⟨o, h⟩ => .inr ⟨o, f _ _ h ne⟩)) fun h => .inr h
def spLetters : Sp := fun vs H Q _ => ∃ (p l : Addr) (ns : List Int) (n : Nat) (many : Nat), vs = [.ref p, .int many] ∧ PenAt H p l ns (n + many) ∧ many ≤ 26 ∧
  ∀ (D : Addr) (cs : List Nat) (H' : Hp), cs.length = many → cs.Nodup → (∀ c ∈ cs, isLt c) → PenAt H' p l ns n → Fr p H H' → H D = none → H' D = some (.lst (lets cs)) → Q (.ref D) H'
section
variable {P : Program} {w : World} {K : PySem.W.Frag} {mg : Str → Option Value} {base : Heap}
theorem ok_pick {f : Addr} {fd : FuncData} (F : Fun K "_law_pick" "_law_pick" s_pick f fd) (T : Blt mg) (D_draw : Df P w K mg base 1 "_law_draw" spDraw) : FnOk P w K mg base CX0 2 f fd ["_law_pen_here", "_law_some"] (spPick K) := by
  refine F.ok sc_pick (fun vs H Q E h => ?_) (fun cdv A outer s H vs Q E hr h => ?_)
  · obtain ⟨p, l, a, ns, n, xs, rfl, _⟩ := h
    rfl
  · obtain ⟨p, l, a, ns, n, xs, rfl, PA, hS, h0, h1, st, q⟩ := h
    refine ⟨_, (pss_one (ps_ret (pe_ix (ix_listK (K := K) rfl) (pv 1) (pe_c D_draw hr (by decide) (by rfl) (pa_cons (pv 0) (pa_cons (pe_callB (call_len_seqK (K := K) rfl) (by rfl) T.len (by decide +kernel) (pa_cons (pv 1) pa_nil)) pa_nil))) (fun _ _ => rfl)))), ?_⟩
    refine ⟨.ref a, rfl, .ref p, rfl, .ref a, rfl, a, xs, rfl, .inl hS, p, l, ns, n, _, rfl, PA, by omega, by omega, fun v H' v0 v1 PA' fr => ?_⟩
    obtain ⟨j, rfl⟩ : ∃ j : Nat, v = j := ⟨v.toNat, by omega⟩
    have hj : j < xs.length := by omega
    exact ⟨a, xs, j, xs[j], rfl, rfl, st H' fr, atI_nat (List.getElem?_eq_getElem hj), q _ _ (List.getElem_mem hj) PA' fr⟩
theorem perm_erase {got rest : List Nat} {k : Nat} {y : Nat} (hp : (got ++ rest).Perm abc) (hy : rest[k]? = some y) : ((got ++ [y]) ++ rest.eraseIdx k).Perm abc := by
  refine List.Perm.trans ?_ hp
  rw [List.append_assoc]
  refine List.Perm.append_left got ?_
  show (y :: rest.eraseIdx k).Perm rest
  obtain ⟨hk, e⟩ := List.getElem?_eq_some_iff.mp hy
  rw [List.eraseIdx_eq_take_drop_succ]
  have h2 : rest = rest.take k ++ (y :: rest.drop (k + 1)) := by
    rw [← e, ← List.drop_eq_getElem_cons hk, List.take_append_drop]
  exact (List.perm_middle.symm).trans (List.Perm.of_eq h2.symm)
theorem ok_some_letters {f : Addr} {fd : FuncData} (F : Fun K "_law_some_letters" "_law_some_letters" s_some_letters f fd) (T : Blt mg) (D_draw : Df P w K mg base 1 "_law_draw" spDraw) : FnOk P w K mg base CX0 2 f fd ["_law_pen_here", "_law_many"] spLetters := by
  refine F.ok sc_some_letters (fun vs H Q E h => ?_) (fun cdv A outer s H vs Q E hr h => ?_)
  · obtain ⟨p, l, ns, n, many, rfl, _⟩ := h
    rfl
  · obtain ⟨p, l, ns, n, many, rfl, PA, hm, q⟩ := h
    refine ⟨_, (pss_cons (ps_set (i := 2) sc_some_letters.nd rfl (.inr rfl) (pe_callTy (call_listS rfl) (by rfl) T.list (by decide +kernel) (pa_cons pe_str pa_nil)))
      (pss_one (ps_ret (pe_lc (own := [("_law_k", 3)]) (g := gName 3) (by rfl) sc_some_letters.nd (pi_range1 (by rfl) T.range (pa_cons (pv 1) pa_nil)) (blkOk_by (own := [("_law_k", 3)]) (N := n_some_letters) (sc := defScope s_some_letters) (by decide +kernel)) (fun _ _ _ _ _ => (pg_name (i := 3) sc_some_letters.nd rfl (.inl rfl))) (fun _ _ _ _ _ => pts_nil) (fun _ _ _ _ _ => (pe_bmK (K := K) rfl PySem.F.plainAttrs_list PySem.F.slot_list_pop PySem.F.type_list_pop mt_popAt (pv 2) (pa_cons (pe_c D_draw hr (by decide) (by rfl) (pa_cons (pv 0) (pa_cons (pe_callB (call_len_seqK (K := K) rfl) (by rfl) T.len (by decide +kernel) (pa_cons (pv 2) pa_nil)) pa_nil))) pa_nil))))))), ?_⟩
    refine ⟨_, rfl, by decide, fun a na => ?_⟩
    have ePool : (List.map (fun c => V.str ⟨#[c]⟩) (Str.ofString "abcdefghijklmnopqrstuvwxyz").cps.toList) = lets abc := by
      show List.map (fun c => V.str (L1 c)) abcS.cps.toList = lets abc
      rw [abcS_cps]
      rfl
    rw [ePool]
    have PA1 := PA.new (o := .lst (lets abc)) na
    have hap : p ≠ a := by
      obtain ⟨⟨sp, g, h1, _⟩, _⟩ := PA
      exact ne_of_none h1 na
    have hla : l ≠ a := ne_of_none PA.nums na
    refine ⟨_, rfl, many, rfl, by omega, by omega, fun D nD => lc_range (lo := 0) (n := many) (fun i H2 => ∃ got rest : List Nat, (got ++ rest).Perm abc ∧ got.length = i ∧ H2 D = some (.lst (lets got)) ∧ H2 a = some (.lst (lets rest)) ∧ PenAt H2 p l ns (n + (many - i)) ∧ Fr p H H2) ?_ ?_ ?_⟩
    · have hDa : a ≠ D := ne_of_none upd_same nD
      refine ⟨[], abc, List.Perm.refl _, rfl, upd_same, by rw [upd_ne hDa, upd_same], (PA1.new nD).less (by omega), (Fr.new na).trans (Fr.new nD)⟩
    · rintro i H2 hi ⟨got, rest, pm, hg, hD, ha, PA2, fr⟩
      have hlen : got.length + rest.length = 26 := by
        have := pm.length_eq
        rw [List.length_append, abc_len] at this
        exact this
      have hDa : D ≠ a := by
        intro e
        subst e
        rw [upd_same] at nD
        cases nD
      have nDH : H D = none := by
        cases e : H D with
        | none => rfl
        | some o =>
          rw [upd_ne (ne_of_none e na), e] at nD
          cases nD
      have hDp : D ≠ p := by
        intro e
        subst e
        obtain ⟨⟨sp, g, h1, _⟩, _⟩ := PA1
        rw [h1] at nD
        cases nD
      have hDl : D ≠ l := by
        intro e
        subst e
        rw [PA1.nums] at nD
        cases nD
      have hr0 : 0 < (lets rest).length := by rw [lets_len]; omega
      refine ⟨rfl, ⟨_, rfl, .inl ⟨rfl, _, SqL.of ha⟩, _, rfl, _, rfl, a, _, rfl, .inl (SqL.of ha), p, l, ns, n + (many - (i + 1)), _, rfl, PA2.less (by omega), by omega, by rw [lets_len]; omega, fun v H3 v0 v1 PA3 fr3 => ?_⟩⟩
      obtain ⟨j, rfl⟩ : ∃ j : Nat, v = j := ⟨v.toNat, by omega⟩
      have hj : j < rest.length := by rw [lets_len] at v1; omega
      have hx : (lets rest)[j]? = some (.str (L1 rest[j])) := by
        unfold lets
        rw [List.getElem?_map, List.getElem?_eq_getElem hj]
        rfl
      have ha3 : H3 a = some (.lst (lets rest)) := fr3 _ _ ha (Ne.symm hap)
      have hD3 : H3 D = some (.lst (lets got)) := fr3 _ _ hD hDp
      have hk : seqIndex? (j : Int) (lets rest).length = some j := by
        unfold seqIndex?
        rw [lets_len]
        simp
        omega
      refine ⟨a, _, _, j, _, rfl, rfl, ha3, by omega, by omega, hk, hx, lets got, by rw [upd_ne hDa]; exact hD3, by rw [lets_len]; exact small1000 (by omega), got ++ [rest[j]], rest.eraseIdx j, perm_erase pm (List.getElem?_eq_getElem hj), by simp [hg], ?_, ?_, ?_, ?_⟩
      · rw [upd_same]
        unfold lets
        rw [List.map_append]
        rfl
      · rw [upd_ne (Ne.symm hDa), upd_same]
        rw [lets_erase]
      · exact (PA3.other (Ne.symm hap) (Ne.symm hla)).other hDp hDl
      · exact ((fr.trans fr3).put na).put nDH
    · rintro H2 ⟨got, rest, pm, hg, hD, ha, PA2, fr⟩
      have hnd : (got ++ rest).Nodup := pm.nodup_iff.mpr abc_nd
      have nD' : H D = none := by
        cases e : H D with
        | none => rfl
        | some o =>
          rw [upd_ne (ne_of_none e na), e] at nD
          cases nD
      refine q D got H2 hg (List.nodup_append.mp hnd).1 (fun c hc => abc_mem.mp (pm.mem_iff.mp (List.mem_append_left _ hc))) (PA2.less (by omega)) fr nD' hD
end
end V8
set_option Elab.async false
set_option linter.all false
set_option maxRecDepth 100000
set_option maxHeartbeats 4000000
/-! Tables of letters and images, as the law draws them. -/
namespace V8
open PySem PySem.Spec PyProof.Rows L2
abbrev Tab := List (Nat × List Nat)
def encT (t : Tab) : List (Key × V) := t.map fun q => (Sum.inr (L1 q.1), V.str (Sx q.2))
def lookT (t : Tab) (c : Nat) : Option (List Nat) := (t.find? fun q => decide (q.1 = c)).map (·.2)
def putT (t : Tab) (c : Nat) (s : List Nat) : Tab := if (t.any fun q => decide (q.1 = c)) = true then t.map (fun q => if q.1 = c then (q.1, s) else q) else t ++ [(c, s)]
theorem encT_len (t : Tab) : (encT t).length = t.length := List.length_map ..
theorem key_dec (a c : Nat) : decide ((Sum.inr (L1 a) : Key) = Sum.inr (L1 c)) = decide (a = c) := by
  by_cases h : a = c
  · subst h
    simp
  · rw [decide_eq_false h, decide_eq_false]
    intro e
    exact h (L1_inj (Sum.inr.inj e))
theorem key_iff (a c : Nat) : ((Sum.inr (L1 a) : Key) = Sum.inr (L1 c)) ↔ a = c := by
  have := key_dec a c
  constructor
  · intro e
    exact L1_inj (Sum.inr.inj e)
  · intro e
    rw [e]
theorem valV_enc (c : Nat) : ∀ t : Tab, valV (encT t) (Sum.inr (L1 c)) = (lookT t c).map fun s => V.str (Sx s)
  | [] => rfl
  | q :: t => by
    have ih := valV_enc c t
    by_cases h : q.1 = c
    · subst h
      show valV ((Sum.inr (L1 q.1), V.str (Sx q.2)) :: encT t) _ = _
      rw [valV_pos rfl]
      simp [lookT]
    · show valV ((Sum.inr (L1 q.1), V.str (Sx q.2)) :: encT t) _ = _
      rw [valV_neg (fun e => h ((key_iff _ _).mp e)), ih]
      simp [lookT, List.find?_cons, h]
theorem any_enc (c : Nat) : ∀ t : Tab, ((encT t).any fun kv => decide (kv.1 = (Sum.inr (L1 c) : Key))) = t.any fun q => decide (q.1 = c)
  | [] => rfl
  | q :: t => by
    show (decide ((Sum.inr (L1 q.1) : Key) = Sum.inr (L1 c)) || (encT t).any _) = _
    rw [any_enc c t, key_dec]
    rfl
theorem putK_enc (t : Tab) (c : Nat) (s : List Nat) : putK (encT t) (Sum.inr (L1 c)) (V.str (Sx s)) = encT (putT t c s) := by
  unfold putK putT
  rw [any_enc]
  split
  · unfold encT
    rw [List.map_map, List.map_map]
    refine List.map_congr_left fun q _ => ?_
    show (if (Sum.inr (L1 q.1) : Key) = Sum.inr (L1 c) then _ else _) = _
    by_cases h : q.1 = c
    · rw [if_pos ((key_iff _ _).mpr h)]
      simp [h]
    · rw [if_neg (fun e => h ((key_iff _ _).mp e))]
      simp [h]
  · unfold encT
    rw [List.map_append]
    rfl
theorem keys_put {t : Tab} {c : Nat} {s : List Nat} : ∀ x ∈ putT t c s, (x ∈ t ∨ x = (c, s)) := by
  intro x hx
  unfold putT at hx
  split at hx
  · obtain ⟨q, hq, e⟩ := List.mem_map.mp hx
    by_cases h : q.1 = c
    · rw [if_pos h] at e
      rw [← e, h]
      exact .inr rfl
    · rw [if_neg h] at e
      rw [← e]
      exact .inl hq
  · rcases List.mem_append.mp hx with h | h
    · exact .inl h
    · exact .inr (List.mem_singleton.mp h)
theorem put_nd {t : Tab} {c : Nat} {s : List Nat} (h : (t.map (·.1)).Nodup) : ((putT t c s).map (·.1)).Nodup := by
  unfold putT
  split
  · rw [List.map_map]
    have e : t.map ((·.1) ∘ fun q : Nat × List Nat => if q.1 = c then (q.1, s) else q) = t.map (·.1) := List.map_congr_left fun q _ => by
      show (if q.1 = c then (q.1, s) else q).1 = q.1
      split <;> rfl
    rw [e]
    exact h
  · rename_i hn
    rw [List.map_append]
    refine List.nodup_append.mpr ⟨h, by simp, fun x hx y hy e => ?_⟩
    have ey : y = c := by simpa using hy
    obtain ⟨q, hq, eq⟩ := List.mem_map.mp hx
    refine hn (List.any_eq_true.mpr ⟨q, hq, decide_eq_true ?_⟩)
    rw [eq, e, ey]
theorem put_len (t : Tab) (c : Nat) (s : List Nat) : (putT t c s).length ≤ t.length + 1 := by
  unfold putT
  split
  · rw [List.length_map]
    omega
  · rw [List.length_append]
    exact Nat.le_refl _
/-- an image that may be told -/
def GoodI (cs s : List Nat) : Prop := 1 ≤ s.length ∧ s.length ≤ 4 ∧ ∀ d ∈ s, d ∈ cs
structure GoodT (cs : List Nat) (t : Tab) : Prop where
  nd : (t.map (·.1)).Nodup
  key : ∀ q ∈ t, q.1 ∈ cs
  img : ∀ q ∈ t, GoodI cs q.2
theorem GoodT.nil {cs : List Nat} : GoodT cs [] := by
  refine ⟨List.nodup_nil, fun q h => ?_, fun q h => ?_⟩
  · cases h
  · cases h
theorem GoodT.put {cs : List Nat} {t : Tab} {c : Nat} {s : List Nat} (g : GoodT cs t) (hc : c ∈ cs) (hs : GoodI cs s) : GoodT cs (putT t c s) := by
  refine ⟨put_nd g.nd, fun q hq => ?_, fun q hq => ?_⟩
  · rcases keys_put q hq with h | rfl
    · exact g.key q h
    · exact hc
  · rcases keys_put q hq with h | rfl
    · exact g.img q h
    · exact hs
/-- joined signs -/
theorem join_L1 : ∀ cs : List Nat, Txt.join Str.empty (cs.map L1) = Sx cs := by
  intro cs
  rw [TL.join_eq]
  have h : TL.tl (Str.join Str.empty (cs.map L1)) = cs := by
    rw [TL.tl_join]
    have : ∀ l : List Nat, TL.joinL (TL.tl Str.empty) ((l.map L1).map TL.tl) = l := by
      intro l
      induction l with
      | nil => rfl
      | cons c r ih =>
        cases r with
        | nil => rfl
        | cons d r =>
          show TL.tl (L1 c) ++ (TL.tl Str.empty ++ TL.joinL (TL.tl Str.empty) ((((d :: r).map L1).map TL.tl))) = _
          rw [ih]
          rfl
    exact this cs
  have e2 : (Str.join Str.empty (cs.map L1)).cps.toList = cs := h
  show Str.join Str.empty (cs.map L1) = Sx cs
  unfold Sx
  cases hx : Str.join Str.empty (cs.map L1) with
  | mk a =>
    rw [hx] at e2
    have : a.toList = cs := e2
    rw [← this]
theorem sum_ones : ∀ l : List Nat, (l.map fun _ => 1).sum = l.length
  | [] => rfl
  | a :: r => by
    rw [List.map_cons, List.sum_cons, sum_ones r, List.length_cons]
    omega
theorem Sx_len (cs : List Nat) : (Sx cs).length = cs.length := by
  show cs.toArray.size = cs.length
  simp
abbrev s_any_image : Stmt := topS 86
abbrev n_any_image : List Str := ["_law_pen_here", "_law_some", "_law_many", "_law_k"]
theorem sc_any_image : FnScope ["_law_pen_here", "_law_some", "_law_many", "_law_k"] ["_law_pen_here", "_law_some"] (defScope s_any_image) := ⟨rfl, rfl, rfl, by decide +kernel, rfl, by decide +kernel, by decide +kernel⟩
abbrev s_escaped : Stmt := topS 85
theorem sc_escaped : FnScope ["_law_pen_here", "_law_some", "_law_tails", "_law_found", "_law_letter", "_law_stays"] ["_law_pen_here", "_law_some"] (defScope s_escaped) := ⟨rfl, rfl, rfl, by decide +kernel, rfl, by decide +kernel, by decide +kernel⟩
abbrev s_table : Stmt := topS 87
abbrev n_table : List Str := ["_law_pen_here", "_law_some", "_law_way", "_law_left", "_law_found", "_law_letter"]
theorem sc_table : FnScope ["_law_pen_here", "_law_some", "_law_way", "_law_left", "_law_found", "_law_letter"] ["_law_pen_here", "_law_some"] (defScope s_table) := ⟨rfl, rfl, rfl, by decide +kernel, rfl, by decide +kernel, by decide +kernel⟩
def spImage : Sp := fun vs H Q _ => ∃ (p l a : Addr) (ns : List Int) (n : Nat) (cs : List Nat), vs = [.ref p, .ref a] ∧ PenAt H p l ns (n + 5) ∧ H a = some (.lst (lets cs)) ∧ a ≠ p ∧ cs ≠ [] ∧ cs.length ≤ 26 ∧ (∀ c ∈ cs, isLt c) ∧
  ∀ (s : List Nat) (H' : Hp), GoodI cs s → PenAt H' p l ns n → Fr p H H' → Q (.str (Sx s)) H'
def spTab (cost : Nat) : Sp := fun vs H Q _ => ∃ (p l a : Addr) (ns : List Int) (n : Nat) (cs : List Nat), vs = [.ref p, .ref a] ∧ PenAt H p l ns (n + cost) ∧ H a = some (.lst (lets cs)) ∧ a ≠ p ∧ cs ≠ [] ∧ cs.Nodup ∧ cs.length ≤ 26 ∧ (∀ c ∈ cs, isLt c) ∧
  ∀ (d : Addr) (t : Tab) (H' : Hp), GoodT cs t → PenAt H' p l ns n → Fr p H H' → H d = none → H' d = some (.dK (encT t)) → Q (.ref d) H'
theorem Fr.back {p q : Addr} {H H1 : Hp} (f : Fr p H H1) (hn : H1 q = none) (hp : q ≠ p) : H q = none := by
  cases e : H q with
  | none => rfl
  | some o =>
    rw [f _ _ e hp] at hn
    cases hn
theorem PenAt.nep {H : Hp} {p l q : Addr} {ns : List Int} {n : Nat} (P : PenAt H p l ns n) (h : H q = none) : q ≠ p := by
  intro e
  subst e
  exact P.some' h
theorem PenAt.nel {H : Hp} {p l q : Addr} {ns : List Int} {n : Nat} (P : PenAt H p l ns n) (h : H q = none) : q ≠ l := by
  intro e
  subst e
  rw [P.nums] at h
  cases h
section
variable {P : Program} {w : World} {K : PySem.W.Frag} {mg : Str → Option Value} {base : Heap}
theorem ok_any_image {f : Addr} {fd : FuncData} (F : Fun K "_law_any_image" "_law_any_image" s_any_image f fd) (T : Blt mg) (D_pick : Df P w K mg base 2 "_law_pick" (spPick K)) : FnOk P w K mg base CX0 3 f fd ["_law_pen_here", "_law_some"] spImage := by
  refine F.ok sc_any_image (fun vs H Q E h => ?_) (fun cdv A outer s H vs Q E hr h => ?_)
  · obtain ⟨p, l, a, ns, n, cs, rfl, _⟩ := h
    rfl
  · obtain ⟨p, l, a, ns, n, cs, rfl, PA, ha, hap, hne, h26, hlt, q⟩ := h
    refine ⟨_, (pss_cons (ps_set (i := 2) sc_any_image.nd rfl (.inl rfl) (pe_c D_pick hr (by decide) (by rfl) (pa_cons (pv 0) (pa_cons (pe_lst (pa_cons pe_int (pa_cons pe_int (pa_cons pe_int (pa_cons pe_int (pa_cons pe_int (pa_cons pe_int pa_nil))))))) pa_nil))))
      (pss_one (ps_ret (pe_joinK (K := K) rfl pe_str (pe_lc (own := [("_law_k", 3)]) (g := gName 3) (by rfl) sc_any_image.nd (pi_range1 (by rfl) T.range (pa_cons (pv 2) pa_nil)) (blkOk_by (own := [("_law_k", 3)]) (N := n_any_image) (sc := defScope s_any_image) (by decide +kernel)) (fun _ _ _ _ _ => (pg_name (i := 3) sc_any_image.nd rfl (.inl rfl))) (fun _ _ _ _ _ => pts_nil) (fun _ _ _ _ _ => (pe_c D_pick hr (by decide) (by rfl) (pa_cons (pv 0) (pa_cons (pv 1) pa_nil))))))))), ?_⟩
    have hcs : 0 < cs.length := List.length_pos_iff.mpr hne
    -- pick(pen, [1, 1, 2, 2, 3, 4])
    refine ⟨.ref p, rfl, by decide, fun b nb => ?_⟩
    have hbp := PA.nep nb
    refine ⟨p, l, b, ns, n + 4, [.int 1, .int 1, .int 2, .int 2, .int 3, .int 4], rfl, PA.new nb, SqL.of upd_same, by decide, by decide, fun H' fr => SqL.of (fr _ _ upd_same hbp), fun v H1 hv PA1 fr1 => ?_⟩
    obtain ⟨k, rfl, k1, k4⟩ : ∃ k : Nat, v = .int k ∧ 1 ≤ k ∧ k ≤ 4 := by
      simp at hv
      rcases hv with rfl | rfl | rfl | rfl
      · exact ⟨1, rfl, by omega, by omega⟩
      · exact ⟨2, rfl, by omega, by omega⟩
      · exact ⟨3, rfl, by omega, by omega⟩
      · exact ⟨4, rfl, by omega, by omega⟩
    have fr01 : Fr p H H1 := (Fr.new nb).trans fr1
    -- ''.join([..])
    refine ⟨⟨_, rfl⟩, _, rfl, k, rfl, by omega, by omega, fun D nD => lc_range (lo := 0) (n := k) (fun i H2 => ∃ got : List Nat, got.length = i ∧ (∀ d ∈ got, d ∈ cs) ∧ H2 D = some (.lst (lets got)) ∧ PenAt H2 p l ns (n + (4 - i)) ∧ Fr p H H2) ?_ ?_ ?_⟩
    · exact ⟨[], rfl, fun d h => (by cases h), upd_same, (PA1.new nD).less (by omega), fr01.trans (Fr.new nD)⟩
    · rintro i H2 hi ⟨got, hg, hin, hD, PA2, fr2⟩
      have hDp := PA1.nep nD
      have ha2 := fr2 _ _ ha hap
      refine ⟨rfl, ⟨_, rfl, _, rfl, p, l, a, ns, n + (4 - (i + 1)), lets cs, rfl, PA2.less (by omega), SqL.of ha2, by rw [lets_len]; omega, by rw [lets_len]; omega, fun H' fr => SqL.of (fr _ _ ha2 hap), fun v H3 hv PA3 fr3 => ?_⟩⟩
      obtain ⟨c, hc, rfl⟩ := lets_mem hv
      have hD3 := fr3 _ _ hD hDp
      refine ⟨lets got, hD3, by rw [lets_len]; exact small1000 (by omega), got ++ [c], by simp [hg], ?_, by rw [upd_same, lets_snoc], PA3.other hDp (PA1.nel nD), (fr2.trans fr3).put (fr01.back nD hDp)⟩
      intro d hd
      rcases List.mem_append.mp hd with h | h
      · exact hin d h
      · rw [List.mem_singleton.mp h]
        exact hc
    · rintro H2 ⟨got, hg, hin, hD, PA2, fr2⟩
      refine ⟨Str.empty, D, got.map L1, rfl, rfl, .inl (by rw [List.map_map]; exact SqL.of hD), ?_, ?_⟩
      · have e : (got.map L1).map (·.length) = got.map fun _ => 1 := by
          rw [List.map_map]
          rfl
        rw [e, List.length_map]
        rw [sum_ones]
        show got.length + got.length * 0 ≤ _
        omega
      · rw [join_L1]
        exact q got H2 ⟨by omega, by omega, hin⟩ (PA2.less (by omega)) fr2
end
end V8
set_option Elab.async false
set_option linter.all false
set_option maxRecDepth 100000
set_option maxHeartbeats 4000000
namespace V8
open PySem PySem.Spec PyProof.Rows L2
section
variable {P : Program} {w : World} {K : PySem.W.Frag} {mg : Str → Option Value} {base : Heap}
theorem lets_get {cs : List Nat} {i : Nat} {x : V} (h : (lets cs)[i]? = some x) : ∃ hi : i < cs.length, x = .str (L1 cs[i]) := by
  unfold lets at h
  rw [List.getElem?_map] at h
  cases e : cs[i]? with
  | none =>
    rw [e] at h
    cases h
  | some c =>
    obtain ⟨hi, ec⟩ := List.getElem?_eq_some_iff.mp e
    rw [e] at h
    exact ⟨hi, by rw [ec]; exact (Option.some.inj h).symm⟩
theorem lets_at {cs : List Nat} {j : Nat} (hj : j < cs.length) : (lets cs)[j]? = some (.str (L1 cs[j])) := by
  unfold lets
  rw [List.getElem?_map, List.getElem?_eq_getElem hj]
  rfl
theorem seq_ix {j n : Nat} (h : j < n) : seqIndex? (j : Int) n = some j := by
  unfold seqIndex?
  simp
  omega
theorem erase_len {xs : List Nat} {k : Nat} (h : k < xs.length) : (xs.eraseIdx k).length = xs.length - 1 := List.length_eraseIdx_of_lt h
theorem goodI1 {cs : List Nat} {a : Nat} (h : a ∈ cs) : GoodI cs [a] := ⟨Nat.le_refl _, by show 1 ≤ 4; decide, fun x hx => by rw [List.mem_singleton.mp hx]; exact h⟩
theorem goodI2 {cs : List Nat} {a b : Nat} (h : a ∈ cs) (h' : b ∈ cs) : GoodI cs [a, b] := by
  refine ⟨by show 1 ≤ 2; decide, by show 2 ≤ 4; decide, fun x hx => ?_⟩
  rcases List.mem_cons.mp hx with e | hx
  · rw [e]
    exact h
  · rw [List.mem_singleton.mp hx]
    exact h'
theorem ok_escaped {f : Addr} {fd : FuncData} (F : Fun K "_law_escaped" "_law_escaped" s_escaped f fd) (T : Blt mg) (D_draw : Df P w K mg base 1 "_law_draw" spDraw) : FnOk P w K mg base CX0 2 f fd ["_law_pen_here", "_law_some"] (spTab 52) := by
  refine F.ok sc_escaped (fun vs H Q E h => ?_) (fun cdv A outer s H vs Q E hr h => ?_)
  · obtain ⟨p, l, a, ns, n, cs, rfl, _⟩ := h
    rfl
  · obtain ⟨p, l, a, ns, n, cs, rfl, PA, ha, hap, hne, hnd, h26, hlt, q⟩ := h
    refine ⟨_, (pss_cons (ps_par (i := 2) (j := 3) (by rfl) sc_escaped.nd rfl rfl (by decide) rfl rfl (pa_cons (pe_callTy (call_list_ofK (K := K) rfl) (by rfl) T.list (by decide +kernel) (pa_cons (pv 1) pa_nil)) (pa_cons pe_dnewK pa_nil)) (by rfl))
      (pss_cons (ps_for PassesOwn.never rfl (pi_list (pv 1)) (pg_name (i := 4) sc_escaped.nd rfl (.inl rfl))
        (pss_cons (ps_set (i := 5) sc_escaped.nd rfl (.inl rfl) (pe_and (pe_cmpR op_ne (pv 4) (pe_ix (ix_listK (K := K) rfl) (pv 1) pe_int (fun _ _ => rfl)) (nomark _)) (pe_one (pe_cmpR op_eq (pe_c D_draw hr (by decide) (by rfl) (pa_cons (pv 0) (pa_cons pe_int pa_nil))) pe_int (nomark _)))))
        (pss_one (ps_dput (hu_of hr) (pv 3) (pv 4) (pe_ifExp (pt_val (pv 5)) (pv 4) (pe_op op_add_str (pe_ix (ix_listK (K := K) rfl) (pv 1) pe_int (fun _ _ => rfl)) (pe_bmK (K := K) rfl PySem.F.plainAttrs_list PySem.F.slot_list_pop PySem.F.type_list_pop mt_popAt (pv 2) (pa_cons (pe_c D_draw hr (by decide) (by rfl) (pa_cons (pv 0) (pa_cons (pe_callB (call_len_seqK (K := K) rfl) (by rfl) T.len (by decide +kernel) (pa_cons (pv 2) pa_nil)) pa_nil))) pa_nil)))) rfl))))
      (pss_one (ps_ret (pv 3))))), ?_⟩
    have hcs : 0 < cs.length := List.length_pos_iff.mpr hne
    -- tails, found = list(some), {}
    refine ⟨.ref a, rfl, a, _, rfl, .inl (SqL.of ha), fun b nb d nd => ⟨_, _, rfl, ?_⟩⟩
    have hbp := PA.nep nb
    have hbl := PA.nel nb
    have PA1 := (PA.new (o := .lst (lets cs)) nb).new (o := .dK []) nd
    have hdp := (PA.new (o := .lst (lets cs)) nb).nep nd
    have hdl := (PA.new (o := .lst (lets cs)) nb).nel nd
    have hbd : b ≠ d := ne_of_none upd_same nd
    have hab : a ≠ b := ne_of_none ha nb
    have ndH : H d = none := (Fr.new (p := p) nb).back nd hdp
    have had : a ≠ d := ne_of_none ha ndH
    refine ⟨_, rfl, a, rfl, ⟨_, SqL.of (by rw [upd_ne had, upd_ne hab]; exact ha)⟩, for_list (K := K) (a := a) (xs := lets cs) (fun i σ H2 => ∃ (tails : List Nat) (t : Tab) (v4 v5 : Option V), σ = [some (.ref p), some (.ref a), some (.ref b), some (.ref d), v4, v5] ∧
        H2 a = some (.lst (lets cs)) ∧ H2 b = some (.lst (lets tails)) ∧ cs.length ≤ tails.length + i ∧ tails.length ≤ 26 ∧ (∀ x ∈ tails, x ∈ cs) ∧ H2 d = some (.dK (encT t)) ∧ t.length ≤ i ∧ GoodT cs t ∧ PenAt H2 p l ns (n + 2 * (26 - i)) ∧ Fr p H H2) ?_ ?_ ?_ ?_⟩
    · exact ⟨cs, [], none, none, rfl, by rw [upd_ne had, upd_ne hab]; exact ha, by rw [upd_ne hbd, upd_same], by omega, h26, fun x h => h, upd_same, Nat.le_refl _, GoodT.nil, PA1.less (by omega), (Fr.new nb).trans (Fr.new nd)⟩
    · rintro i σ H2 hi ⟨tails, t, v4, v5, rfl, ha2, _⟩
      exact SqL.of ha2
    · rintro i x σ H2 hx ⟨tails, t, v4, v5, rfl, ha2, hb2, htl, ht6, hts, hd2, htn, G, PA2, fr2⟩
      obtain ⟨hi, rfl⟩ := lets_get hx
      -- stays = letter != some[0] and draw(pen, 2) == 0
      refine ⟨_, rfl, _, rfl, a, _, 0, _, rfl, rfl, SqL.of ha2, atI_nat (j := 0) (lets_at hcs), rfl, _, rfl, ?_⟩
      refine ite2 (fun e => ?g1) (fun e => ?g2)
      case' g1 =>
        refine ⟨_, rfl, p, l, ns, n + 2 * (26 - (i + 1)) + 1, 2, rfl, PA2.less (by omega), by decide, by decide, fun v H3 v0 v1 PA3 fr3 => ?_⟩
        refine ⟨rfl, ?_⟩
        generalize decide (V.int v = V.int 0) = bb
      case' g2 =>
        have PA3 : PenAt H2 p l ns (n + 2 * (26 - (i + 1)) + 1) := PA2.less (by omega)
        have fr3 : Fr p H2 H2 := Fr.refl
        generalize false = bb
      all_goals
        have ha3 := fr3 _ _ ha2 hap
        have hb3 := fr3 _ _ hb2 hbp
        have hd3 := fr3 _ _ hd2 hdp
        refine ⟨_, rfl, _, rfl, ?_⟩
        refine ite2 (fun e5 => ?_) (fun e5 => ?_)
        · refine ⟨_, rfl, _, rfl, _, rfl, d, _, rfl, DPut.k (k := Sum.inr (L1 cs[i])) hd3 (by rw [encT_len]; exact small1000 (by omega)), ?_⟩
          have ep : putK (encT t) (Sum.inr (L1 cs[i])) (V.str (L1 cs[i])) = encT (putT t cs[i] [cs[i]]) := putK_enc t cs[i] [cs[i]]
          rw [ep]
          have hmem : cs[i] ∈ cs := List.getElem_mem hi
          refine ⟨tails, putT t cs[i] [cs[i]], _, _, rfl, by rw [upd_ne had]; exact ha3, by rw [upd_ne hbd]; exact hb3, by omega, ht6, hts, upd_same, Nat.le_trans (put_len t _ _) (by omega), G.put hmem (goodI1 hmem), (PA3.other hdp hdl).less (by omega), (fr2.trans fr3).put ndH⟩
        · have htp : 0 < tails.length := by omega
          refine ⟨_, rfl, a, _, 0, _, rfl, rfl, SqL.of ha3, atI_nat (j := 0) (lets_at hcs), ?_⟩
          refine ⟨_, rfl, .inl ⟨rfl, _, SqL.of hb3⟩, _, rfl, _, rfl, b, _, rfl, .inl (SqL.of hb3), p, l, ns, n + 2 * (26 - (i + 1)), _, rfl, PA3, by rw [lets_len]; omega, by rw [lets_len]; omega, fun v4 H4 w0 w1 PA4 fr4 => ?_⟩
          obtain ⟨j, rfl⟩ : ∃ j : Nat, v4 = j := ⟨v4.toNat, by omega⟩
          have hj : j < tails.length := by rw [lets_len] at w1; omega
          have hb4 := fr4 _ _ hb3 hbp
          have hd4 := fr4 _ _ hd3 hdp
          have ha4 := fr4 _ _ ha3 hap
          refine ⟨b, _, _, j, _, rfl, rfl, hb4, by omega, by omega, by rw [lets_len]; exact seq_ix hj, lets_at hj, _, _, rfl, rfl, by show 1 + 1 ≤ sizeLine; decide, ?_⟩
          refine ⟨_, rfl, _, rfl, d, _, rfl, DPut.k (k := Sum.inr (L1 cs[i])) (by rw [upd_ne (Ne.symm hbd)]; exact hd4) (by rw [encT_len]; exact small1000 (by omega)), ?_⟩
          have ep : putK (encT t) (Sum.inr (L1 cs[i])) (V.str (L1 cs[0] ++ L1 tails[j])) = encT (putT t cs[i] [cs[0], tails[j]]) := by
            rw [← putK_enc]
            rfl
          rw [ep]
          have hmem : cs[i] ∈ cs := List.getElem_mem hi
          have htm : tails[j] ∈ cs := hts _ (List.getElem_mem hj)
          refine ⟨tails.eraseIdx j, putT t cs[i] [cs[0], tails[j]], _, _, rfl, by rw [upd_ne had, upd_ne hab]; exact ha4, by rw [upd_ne hbd, upd_same, lets_erase], by rw [erase_len hj]; omega, by rw [erase_len hj]; omega, fun x hx => hts x (List.mem_of_mem_eraseIdx hx), upd_same,
            Nat.le_trans (put_len t _ _) (by omega), G.put hmem (goodI2 (List.getElem_mem hcs) htm), ((PA4.other hbp hbl).other hdp hdl).less (by omega), (((fr2.trans fr3).trans fr4).put nb).put ndH⟩
    · rintro σ H2 ⟨tails, t, v4, v5, rfl, ha2, hb2, htl, ht6, hts, hd2, htn, G, PA2, fr2⟩
      exact ⟨_, rfl, q d t H2 G (PA2.less (by omega)) fr2 ndH hd2⟩
end
end V8
set_option Elab.async false
set_option linter.all false
set_option maxRecDepth 100000
set_option maxHeartbeats 8000000
namespace V8
open PySem PySem.Spec PyProof.Rows L2
theorem nd_len : ∀ {a b : List Nat}, a.Nodup → (∀ x ∈ a, x ∈ b) → a.length ≤ b.length
  | [], _, _, _ => Nat.zero_le _
  | x :: a, b, h, hs => by
    have hx : x ∈ b := hs x (List.mem_cons_self ..)
    have h1 := List.nodup_cons.mp h
    have ih := nd_len (a := a) (b := b.erase x) h1.2 fun y hy => by
      have hne : y ≠ x := fun e => h1.1 (e ▸ hy)
      exact (List.mem_erase_of_ne hne).mpr (hs y (List.mem_cons_of_mem _ hy))
    rw [List.length_erase_of_mem hx] at ih
    have : 0 < b.length := List.length_pos_of_mem hx
    rw [List.length_cons]
    omega
theorem GoodT.len {cs : List Nat} {t : Tab} (g : GoodT cs t) : t.length ≤ cs.length := by
  have := nd_len g.nd fun x hx => by
    obtain ⟨q, hq, rfl⟩ := List.mem_map.mp hx
    exact g.key q hq
  rw [List.length_map] at this
  exact this
def mergeT (a b : Tab) : Tab := b.foldl (fun acc q => putT acc q.1 q.2) a
theorem mergeK_enc : ∀ (b a : Tab), mergeK (encT a) (encT b) = encT (mergeT a b)
  | [], _ => rfl
  | q :: b, a => by
    show mergeK (putK (encT a) (Sum.inr (L1 q.1)) (V.str (Sx q.2))) (encT b) = _
    rw [putK_enc, mergeK_enc b]
    rfl
theorem GoodT.merge {cs : List Nat} : ∀ {b a : Tab}, GoodT cs a → (∀ q ∈ b, q.1 ∈ cs ∧ GoodI cs q.2) → GoodT cs (mergeT a b)
  | [], _, g, _ => g
  | q :: b, a, g, h => by
    have h1 := h q (List.mem_cons_self ..)
    exact GoodT.merge (b := b) (a := putT a q.1 q.2) (g.put h1.1 h1.2) fun x hx => h x (List.mem_cons_of_mem _ hx)
/-- tuples of a letter and its image stand at ps -/
def PairsAt (H : Hp) (ps : List Addr) (t : Tab) : Prop := Paired (fun b (q : Nat × List Nat) => H b = some (.tup [V.str (L1 q.1), V.str (Sx q.2)])) ps t
theorem PairsAt.mono {H H' : Hp} {ps : List Addr} {t : Tab} (h : PairsAt H ps t) (k : ∀ b xs, H b = some (.tup xs) → H' b = some (.tup xs)) : PairsAt H' ps t := Paired.mapP h fun _ _ e => k _ _ e
theorem PairsAt.snoc {H : Hp} : ∀ {ps : List Addr} {t : Tab} {b : Addr} {q : Nat × List Nat}, PairsAt H ps t → H b = some (.tup [V.str (L1 q.1), V.str (Sx q.2)]) → PairsAt H (ps ++ [b]) (t ++ [q])
  | _, _, _, _, .nil, e => .cons e .nil
  | _, _, _, _, .cons h r, e => .cons h (PairsAt.snoc r e)
theorem PairsAt.sq {K : PySem.W.Frag} {H : Hp} : ∀ {ps : List Addr} {t : Tab}, PairsAt H ps t → Paired (fun p (kv : Key × V) => SqT K H p [kV kv.1, kv.2]) ps (encT t)
  | _, _, .nil => .nil
  | _, _, .cons h r => .cons (.inl (.inl h)) (PairsAt.sq r)
theorem PairsAt.len {H : Hp} {ps : List Addr} {t : Tab} (h : PairsAt H ps t) : ps.length = t.length := Paired.length h
theorem tup_fr {p : Addr} {xs : List V} {H H' : Hp} (f : Fr p H H') (hp : H p = some (.lst xs)) : ∀ b ys, H b = some (.tup ys) → H' b = some (.tup ys) := fun b ys e => f b _ e (ne_of e hp (fun z => nomatch z))
theorem tup_upd {D : Addr} {xs : List V} {o : HO} {H : Hp} (hp : H D = some (.lst xs)) : ∀ b ys, H b = some (.tup ys) → upd H D o b = some (.tup ys) := fun b ys e => by
  rw [upd_ne (ne_of e hp (fun z => nomatch z))]
  exact e
theorem tup_new {q : Addr} {o : HO} {H : Hp} (hp : H q = none) : ∀ b ys, H b = some (.tup ys) → upd H q o b = some (.tup ys) := fun b ys e => by
  rw [upd_ne (ne_of_none e hp)]
  exact e
theorem PenAt.pen {H : Hp} {p l : Addr} {ns : List Int} {n : Nat} (P : PenAt H p l ns n) : ∃ xs, H p = some (.lst xs) := by
  obtain ⟨⟨s, g, h1, _⟩, _⟩ := P
  exact ⟨_, h1⟩
theorem enc_at {t : Tab} {i : Nat} {k : Key} {v : V} (h : (encT t)[i]? = some (k, v)) : ∃ hi : i < t.length, k = Sum.inr (L1 t[i].1) ∧ v = V.str (Sx t[i].2) := by
  unfold encT at h
  rw [List.getElem?_map] at h
  cases e : t[i]? with
  | none =>
    rw [e] at h
    cases h
  | some c =>
    obtain ⟨hi, ec⟩ := List.getElem?_eq_some_iff.mp e
    rw [e] at h
    have h' := Option.some.inj h
    refine ⟨hi, ?_, ?_⟩
    · rw [ec]
      exact (congrArg Prod.fst h').symm
    · rw [ec]
      exact (congrArg Prod.snd h').symm
theorem look_at : ∀ {t : Tab} {i : Nat}, (t.map (·.1)).Nodup → ∀ hi : i < t.length, lookT t t[i].1 = some t[i].2
  | [], i, _, hi => absurd hi (Nat.not_lt_zero _)
  | q :: t, 0, _, _ => by
    unfold lookT
    simp
  | q :: t, i + 1, h, hi => by
    have hi' : i < t.length := by simpa using hi
    have h1 := List.nodup_cons.mp (by simpa using h : (q.1 :: t.map (·.1)).Nodup)
    have hne : ¬ q.1 = t[i].1 := fun e => h1.1 (e ▸ List.mem_map_of_mem (List.getElem_mem hi'))
    have ih := look_at (t := t) (i := i) h1.2 hi'
    show lookT (q :: t) t[i].1 = some t[i].2
    unfold lookT at ih ⊢
    rw [List.find?_cons_of_neg (by simpa using hne)]
    exact ih
section
variable {P : Program} {w : World} {K : PySem.W.Frag} {mg : Str → Option Value} {base : Heap}
theorem ok_table {f : Addr} {fd : FuncData} (F : Fun K "_law_table" "_law_table" s_table f fd) (T : Blt mg) (D_draw : Df P w K mg base 1 "_law_draw" spDraw) (D_escaped : Df P w K mg base 2 "_law_escaped" (spTab 52)) (D_any_image : Df P w K mg base 3 "_law_any_image" spImage) : FnOk P w K mg base CX0 4 f fd ["_law_pen_here", "_law_some"] (spTab 260) := by
  refine F.ok sc_table (fun vs H Q E h => ?_) (fun cdv A outer s H vs Q E hr h => ?_)
  · obtain ⟨p, l, a, ns, n, cs, rfl, _⟩ := h
    rfl
  · obtain ⟨p, l, a, ns, n, cs, rfl, PA, ha, hap, hne, hnd, h26, hlt, q⟩ := h
    refine ⟨_, (pss_cons (ps_asg (pe_tup (pa_cons (pe_c D_draw hr (by decide) (by rfl) (pa_cons (pv 0) (pa_cons pe_int pa_nil))) (pa_cons (pe_callTy (call_list_ofK (K := K) rfl) (by rfl) T.list (by decide +kernel) (pa_cons (pv 1) pa_nil)) (pa_cons pe_dnewK pa_nil)))) (pg_tup (by rfl) (pgs_cons (pg_name (i := 2) sc_table.nd rfl (.inl rfl)) (pgs_cons (pg_name (i := 3) sc_table.nd rfl (.inl rfl)) (pgs_cons (pg_name (i := 4) sc_table.nd rfl (.inr rfl)) pgs_nil)))))
      (pss_cons (ps_if (pt_cmpR op_lt (pv 2) pe_int (nomark _))
        (pss_one (ps_set (i := 4) sc_table.nd rfl (.inr rfl) (pe_c D_escaped hr (by decide) (by rfl) (pa_cons (pv 0) (pa_cons (pv 1) pa_nil)))))
        pss_nil)
      (pss_cons (ps_for PassesOwn.never rfl (pi_list (pv 1)) (pg_name (i := 5) sc_table.nd rfl (.inl rfl))
        (pss_one (ps_if (pt_cmpR op_eq (pv 2) pe_int (nomark _))
          (pss_one (ps_dput (hu_of hr) (pv 4) (pv 5) (pe_bmK (K := K) rfl PySem.F.plainAttrs_list PySem.F.slot_list_pop PySem.F.type_list_pop mt_popAt (pv 3) (pa_cons (pe_c D_draw hr (by decide) (by rfl) (pa_cons (pv 0) (pa_cons (pe_callB (call_len_seqK (K := K) rfl) (by rfl) T.len (by decide +kernel) (pa_cons (pv 3) pa_nil)) pa_nil))) pa_nil)) rfl))
          (pss_one (ps_if (pt_cmpR op_gt (pv 2) pe_int (nomark _))
            (pss_one (ps_dput (hu_of hr) (pv 4) (pv 5) (pe_ifExp (pt_cmpR op_eq (pe_c D_draw hr (by decide) (by rfl) (pa_cons (pv 0) (pa_cons pe_int pa_nil))) pe_int (nomark _)) (pv 5) (pe_c D_any_image hr (by decide) (by rfl) (pa_cons (pv 0) (pa_cons (pv 1) pa_nil)))) rfl))
            pss_nil)))))
      (pss_cons (ps_if (pt_cmpR op_gt (pe_c D_draw hr (by decide) (by rfl) (pa_cons (pv 0) (pa_cons pe_int pa_nil))) pe_int (nomark _))
        (pss_one (ps_ret (pv 4)))
        pss_nil)
      (pss_one (ps_ret (pe_callTy (call_dictP rfl) (by rfl) T.dict (by decide +kernel) (pa_cons (pe_lock (pe_lc (own := [("_law_letter", 5)]) (g := gName 5) (by rfl) sc_table.nd (pi_keys (pv 4)) (blkOk_by (own := [("_law_letter", 5)]) (N := n_table) (sc := defScope s_table) (by decide +kernel)) (fun _ _ _ _ _ => (pg_name (i := 5) sc_table.nd rfl (.inl rfl))) (fun _ _ _ _ _ => (pts_one (pt_cmpR op_gt (pe_c D_draw hr (by decide) (by rfl) (pa_cons (pv 0) (pa_cons pe_int pa_nil))) pe_int (nomark _)))) (fun _ _ _ _ _ => (pe_tup (pa_cons (pv 5) (pa_cons (pe_dget (hu_of hr) (pv 4) (pv 5) (fun _ _ => rfl)) pa_nil)))))) pa_nil)))))))), ?_⟩
    have hcs : 0 < cs.length := List.length_pos_iff.mpr hne
    -- way, left, found = draw(pen, 6), list(some), {}
    refine ⟨_, rfl, p, l, ns, n + 259, 6, rfl, PA.less (by omega), by decide, by decide, fun way H1 y0 y1 PA1 fr1 => ?_⟩
    have ha1 := fr1 _ _ ha hap
    refine ⟨.ref a, rfl, a, _, rfl, .inl (SqL.of ha1), fun b nb d nd => ⟨by show 3 ≤ sizeLine; decide, fun tp ntp => ?_⟩⟩
    refine ⟨tp, [.int way, .ref b, .ref d], rfl, .inl (.inl upd_same), rfl, _, _, rfl, _, _, rfl, _, _, rfl, rfl, ?_⟩
    have hbp := PA1.nep nb
    have hbl := PA1.nel nb
    have PAb := PA1.new (o := .lst (lets cs)) nb
    have hdp := PAb.nep nd
    have hdl := PAb.nel nd
    have PAd := PAb.new (o := .dK []) nd
    have hbd : b ≠ d := ne_of_none upd_same nd
    have hab : a ≠ b := ne_of_none ha1 nb
    have had : a ≠ d := by
      refine ne_of_none (o := .lst (lets cs)) ?_ nd
      rw [upd_ne hab]
      exact ha1
    have htd : d ≠ tp := ne_of_none upd_same ntp
    have htb : b ≠ tp := ne_of_none (o := .lst (lets cs)) (by rw [upd_ne hbd]; exact upd_same) ntp
    have hta : a ≠ tp := ne_of_none (o := .lst (lets cs)) (by rw [upd_ne had, upd_ne hab]; exact ha1) ntp
    have nbH : H b = none := fr1.back nb hbp
    have ndH : H d = none := (fr1.trans (Fr.new nb)).back nd hdp
    have PAx := (PAd.new (o := .tup [.int way, .ref b, .ref d]) ntp).less (m := n + 259) (by omega)
    have frx : Fr p H (upd (upd (upd H1 b (.lst (lets cs))) d (.dK [])) tp (.tup [.int way, .ref b, .ref d])) := ((fr1.trans (Fr.new nb)).trans (Fr.new nd)).trans (Fr.new ntp)
    have hax : upd (upd (upd H1 b (.lst (lets cs))) d (.dK [])) tp (.tup [.int way, .ref b, .ref d]) a = some (.lst (lets cs)) := by rw [upd_ne hta, upd_ne had, upd_ne hab]; exact ha1
    have hbx : upd (upd (upd H1 b (.lst (lets cs))) d (.dK [])) tp (.tup [.int way, .ref b, .ref d]) b = some (.lst (lets cs)) := by rw [upd_ne htb, upd_ne hbd, upd_same]
    have hdx : upd (upd (upd H1 b (.lst (lets cs))) d (.dK [])) tp (.tup [.int way, .ref b, .ref d]) d = some (.dK (encT [])) := by rw [upd_ne htd, upd_same]; rfl
    generalize upd (upd (upd H1 b (.lst (lets cs))) d (.dK [])) tp (.tup [.int way, .ref b, .ref d]) = Hx at PAx frx hax hbx hdx ⊢
    clear PAd PAb nd ntp nb
    -- if way < 2: found = escaped(pen, some)
    refine ⟨_, rfl, way, 2, rfl, rfl, _, rfl, ?_⟩
    refine ite2 (fun e => ?g1) (fun e => ?g2)
    case' g1 =>
      refine ⟨_, rfl, _, rfl, p, l, a, ns, n + 207, cs, rfl, PAx.less (by omega), hax, hap, hne, hnd, h26, hlt, fun d2 t2 H3 G2 PA3 fr3 nd2 hd2 => ?_⟩
      have ha3 := fr3 _ _ hax hap
      have hb3 := fr3 _ _ hbx hbp
      have hbd2 : b ≠ d2 := ne_of_none hbx nd2
      have had2 : a ≠ d2 := ne_of_none hax nd2
      have hd2p := PAx.nep nd2
      have hd2l := PAx.nel nd2
      have nd2H : H d2 = none := frx.back nd2 hd2p
      have fr03 := frx.trans fr3
    case' g2 =>
      obtain ⟨d2, rfl⟩ : ∃ d2, d2 = d := ⟨d, rfl⟩
      have G2 : GoodT cs [] := GoodT.nil
      have PA3 : PenAt Hx p l ns (n + 207) := PAx.less (by omega)
      have ha3 := hax
      have hb3 := hbx
      have hd2 := hdx
      have hbd2 := hbd
      have had2 := had
      have hd2p := hdp
      have hd2l := hdl
      have nd2H := ndH
      have fr03 := frx
    all_goals
      refine ⟨_, rfl, a, rfl, ⟨_, SqL.of ha3⟩, for_list (K := K) (a := a) (xs := lets cs) (fun i σ H2 => ∃ (left : List Nat) (t : Tab) (v5 : Option V), σ = [some (.ref p), some (.ref a), some (.int way), some (.ref b), some (.ref d2), v5] ∧
        H2 a = some (.lst (lets cs)) ∧ H2 b = some (.lst (lets left)) ∧ (way = 2 → cs.length ≤ left.length + i) ∧ left.length ≤ 26 ∧ (∀ x ∈ left, x ∈ cs) ∧ H2 d2 = some (.dK (encT t)) ∧ GoodT cs t ∧ PenAt H2 p l ns (n + 30 + 6 * (26 - i)) ∧ Fr p H H2) ?_ ?_ ?_ ?_⟩
      · exact ⟨cs, _, none, rfl, ha3, hb3, fun _ => by omega, h26, fun x h => h, hd2, G2, PA3.less (by omega), fr03⟩
      · rintro i σ H2 hi ⟨left, t, v5, rfl, ha2, _⟩
        exact SqL.of ha2
      · rintro i x σ H2 hx ⟨left, t, v5, rfl, ha2, hb2, hl2, hl6, hls, hd4, G, PA2, fr2⟩
        obtain ⟨hi, rfl⟩ := lets_get hx
        have hmem : cs[i] ∈ cs := List.getElem_mem hi
        have tl26 := G.len
        have small : (encT t).length < sizeLine := by rw [encT_len]; exact small1000 (by omega)
        refine ⟨_, rfl, rfl, _, rfl, ?_⟩
        refine ite2 (fun e2 => ?_) (fun e2 => ?_)
        · have ew : way = 2 := V.int.inj (of_decide_eq_true e2)
          have hlp := hl2 ew
          refine ⟨_, rfl, .inl ⟨rfl, _, SqL.of hb2⟩, _, rfl, _, rfl, b, _, rfl, .inl (SqL.of hb2), p, l, ns, n + 30 + 6 * (26 - (i + 1)), _, rfl, PA2.less (by omega), by rw [lets_len]; omega, by rw [lets_len]; omega, fun v4 H4 w0 w1 PA4 fr4 => ?_⟩
          obtain ⟨j, rfl⟩ : ∃ j : Nat, v4 = j := ⟨v4.toNat, by omega⟩
          have hj : j < left.length := by rw [lets_len] at w1; omega
          have hb4 := fr4 _ _ hb2 hbp
          have hd5 := fr4 _ _ hd4 hd2p
          have ha4 := fr4 _ _ ha2 hap
          refine ⟨b, _, _, j, _, rfl, rfl, hb4, by omega, by omega, by rw [lets_len]; exact seq_ix hj, lets_at hj, ?_⟩
          refine ⟨_, rfl, _, rfl, d2, _, rfl, DPut.k (k := Sum.inr (L1 cs[i])) (by rw [upd_ne (Ne.symm hbd2)]; exact hd5) small, ?_⟩
          have ep : putK (encT t) (Sum.inr (L1 cs[i])) (V.str (L1 left[j])) = encT (putT t cs[i] [left[j]]) := putK_enc t cs[i] [left[j]]
          rw [ep]
          have htm : left[j] ∈ cs := hls _ (List.getElem_mem hj)
          exact ⟨left.eraseIdx j, putT t cs[i] [left[j]], _, rfl, by rw [upd_ne had2, upd_ne hab]; exact ha4, by rw [upd_ne hbd2, upd_same, lets_erase], fun _ => by rw [erase_len hj]; omega, by rw [erase_len hj]; omega, fun x hx => hls x (List.mem_of_mem_eraseIdx hx), upd_same,
            G.put hmem (goodI1 htm), (PA4.other hbp hbl).other hd2p hd2l, ((fr2.trans fr4).put nbH).put nd2H⟩
        · have ew : way ≠ 2 := fun z => e2 (by rw [z]; decide)
          refine ⟨_, rfl, _, _, rfl, rfl, _, rfl, ?_⟩
          refine ite2 (fun e3 => ?_) (fun e3 => ?_)
          · refine ⟨_, rfl, p, l, ns, n + 35 + 6 * (26 - (i + 1)), 3, rfl, PA2.less (by omega), by decide, by decide, fun v4 H4 w0 w1 PA4 fr4 => ⟨rfl, _, rfl, ?_⟩⟩
            have hb4 := fr4 _ _ hb2 hbp
            have hd5 := fr4 _ _ hd4 hd2p
            have ha4 := fr4 _ _ ha2 hap
            refine ite2 (fun e4 => ?_) (fun e4 => ?_)
            · refine ⟨_, rfl, _, rfl, _, rfl, d2, _, rfl, DPut.k (k := Sum.inr (L1 cs[i])) hd5 small, ?_⟩
              have ep : putK (encT t) (Sum.inr (L1 cs[i])) (V.str (L1 cs[i])) = encT (putT t cs[i] [cs[i]]) := putK_enc t cs[i] [cs[i]]
              rw [ep]
              exact ⟨left, putT t cs[i] [cs[i]], _, rfl, by rw [upd_ne had2]; exact ha4, by rw [upd_ne hbd2]; exact hb4, fun z => absurd z ew, hl6, hls, upd_same, G.put hmem (goodI1 hmem), (PA4.other hd2p hd2l).less (by omega), (fr2.trans fr4).put nd2H⟩
            · refine ⟨_, rfl, _, rfl, p, l, a, ns, n + 30 + 6 * (26 - (i + 1)), cs, rfl, PA4.less (by omega), ha4, hap, hne, h26, hlt, fun s H5 gs PA5 fr5 => ?_⟩
              have hb6 := fr5 _ _ hb4 hbp
              have hd6 := fr5 _ _ hd5 hd2p
              have ha6 := fr5 _ _ ha4 hap
              refine ⟨_, rfl, _, rfl, d2, _, rfl, DPut.k (k := Sum.inr (L1 cs[i])) hd6 small, ?_⟩
              rw [putK_enc]
              exact ⟨left, putT t cs[i] s, _, rfl, by rw [upd_ne had2]; exact ha6, by rw [upd_ne hbd2]; exact hb6, fun z => absurd z ew, hl6, hls, upd_same, G.put hmem gs, (PA5.other hd2p hd2l).less (by omega), ((fr2.trans fr4).trans fr5).put nd2H⟩
          · exact ⟨left, t, _, rfl, ha2, hb2, fun z => absurd z ew, hl6, hls, hd4, G, PA2.less (by omega), fr2⟩
      · rintro σ H2 ⟨left, t, v5, rfl, ha2, hb2, hl2, hl6, hls, hd4, G, PA2, fr2⟩
        have tl26 := G.len
        refine ⟨_, rfl, p, l, ns, n + 29, 3, rfl, PA2.less (by omega), by decide, by decide, fun v4 H4 w0 w1 PA4 fr4 => ⟨_, _, rfl, rfl, _, rfl, ?_⟩⟩
        have hd5 := fr4 _ _ hd4 hd2p
        refine ite2 (fun e4 => ?_) (fun e4 => ?_)
        · exact ⟨_, rfl, q d2 t H4 G (PA4.less (by omega)) (fr2.trans fr4) nd2H hd5⟩
        · refine ⟨d2, _, hd5, True.intro, fun od => ⟨_, rfl, d2, od, rfl, .inl ⟨_, upd_same, fun D nD => lc_it walk_keys (fun i H2 => ∃ (ps : List Addr) (t2 : Tab), (∀ x ∈ t2, x.1 ∈ cs ∧ GoodI cs x.2) ∧ ps.length ≤ i ∧ H2 D = some (.lst (ps.map V.ref)) ∧ PairsAt H2 ps t2 ∧
            H2 d2 = some (.frz od (.dK (encT t))) ∧ PenAt H2 p l ns (n + (29 - i)) ∧ Fr p H H2) ?_ ?_ ?_ ?_⟩⟩⟩
          · have hDd : d2 ≠ D := ne_of_none upd_same nD
            refine ⟨[], [], fun x h => (by cases h), Nat.le_refl _, upd_same, .nil, by rw [upd_ne hDd, upd_same], ((PA4.other hd2p hd2l).new nD).less (by omega), ((fr2.trans fr4).put nd2H).trans (Fr.new nD)⟩
          · rintro i H2 hi ⟨ps, t2, _, _, _, _, h, _⟩
            exact h
          · rintro i x H2 H2' hi ⟨ps, t2, ht2, hps, hD, hpa, hfz, PA5, fr5⟩ ⟨rfl, k, v, hk, rfl⟩
            obtain ⟨hit, rfl, rfl⟩ := enc_at hk
            have hDp : D ≠ p := (PA4.other (o := .frz od (.dK (encT t))) hd2p hd2l).nep nD
            have hDl : D ≠ l := (PA4.other (o := .frz od (.dK (encT t))) hd2p hd2l).nel nD
            have nDH : H D = none := ((fr2.trans fr4).put (a := d2) nd2H).back nD hDp
            refine ⟨rfl, _, rfl, p, l, ns, n + (29 - (i + 1)), 3, rfl, PA5.less (by omega), by decide, by decide, fun v6 H6 u0 u1 PA6 fr6 => ⟨_, _, rfl, rfl, _, rfl, ?_⟩⟩
            obtain ⟨pl, hpl⟩ := PA5.pen
            have hpa6 := hpa.mono (tup_fr fr6 hpl)
            have hD6 := fr6 _ _ hD hDp
            have hfz6 := fr6 _ _ hfz hd2p
            refine ite2 (fun e6 => ?_) (fun e6 => ?_)
            · refine ⟨_, rfl, _, rfl, _, rfl, d2, V.str (Sx t[i].2), rfl, .inl ⟨_, Sum.inr (L1 t[i].1), .inr ⟨od, hfz6⟩, rfl, ?_⟩, by show 2 ≤ sizeLine; decide, fun tq ntq => ?_⟩
              · rw [valV_enc, look_at G.nd hit]
                rfl
              · have htD : D ≠ tq := ne_of_none hD6 ntq
                refine ⟨ps.map V.ref, by rw [upd_ne htD]; exact hD6, by rw [List.length_map]; exact small1000 (by omega), ps ++ [tq], t2 ++ [t[i]], ?_, by rw [List.length_append]; exact Nat.succ_le_succ hps, ?_, ?_, ?_, ?_, ?_⟩
                · intro x hx
                  rcases List.mem_append.mp hx with h | h
                  · exact ht2 x h
                  · rw [List.mem_singleton.mp h]
                    exact ⟨G.key _ (List.getElem_mem hit), G.img _ (List.getElem_mem hit)⟩
                · rw [upd_same, List.map_append]
                  rfl
                · refine PairsAt.snoc ((hpa6.mono (tup_new ntq)).mono (tup_upd (by rw [upd_ne htD]; exact hD6))) ?_
                  exact (upd_ne (Ne.symm htD)).trans upd_same
                · rw [upd_ne (ne_of hfz6 hD6 (fun z => nomatch z)), upd_ne (ne_of_none hfz6 ntq)]
                  exact hfz6
                · exact ((PA6.new ntq).other hDp hDl)
                · exact ((fr5.trans fr6).trans (Fr.new ntq)).put nDH
            · exact ⟨ps, t2, ht2, by omega, hD6, hpa6, hfz6, PA6, fr5.trans fr6⟩
          · rintro H2 ⟨ps, t2, ht2, hps, hD, hpa, hfz, PA5, fr5⟩
            have hDd : D ≠ d2 := ne_of hD hfz (fun z => nomatch z)
            refine ⟨hfz, D, ps, encT t2, rfl, SqL.of (by rw [upd_ne hDd]; exact hD), (PairsAt.sq (hpa.mono fun b ys e => by rw [upd_ne (ne_of e hfz (fun z => nomatch z))]; exact e)), fun r nr => ?_⟩
            have em : mergeK [] (encT t2) = encT (mergeT [] t2) := mergeK_enc t2 []
            rw [em]
            have PA7 := (PA5.other (o := .dK (encT t)) hd2p hd2l)
            have fr7 := fr5.put (a := d2) (o := .dK (encT t)) nd2H
            exact q r (mergeT [] t2) _ (GoodT.merge GoodT.nil ht2) ((PA7.new nr).less (by omega)) (fr7.trans (Fr.new nr)) (fr7.back nr (PA7.nep nr)) upd_same
end
end V8
set_option Elab.async false
set_option linter.all false
set_option maxRecDepth 100000
set_option maxHeartbeats 8000000
/-! Letters, texts, images: the program's own tests. -/
namespace V8
open PySem PySem.Spec PyProof.Rows L2
abbrev s_is_letter : Stmt := topS 19
theorem sc_is_letter : FnScope ["value"] ["value"] (defScope s_is_letter) := ⟨rfl, rfl, rfl, by decide +kernel, rfl, by decide +kernel, by decide +kernel⟩
abbrev s_is_text : Stmt := topS 20
theorem sc_is_text : FnScope ["value"] ["value"] (defScope s_is_text) := ⟨rfl, rfl, rfl, by decide +kernel, rfl, by decide +kernel, by decide +kernel⟩
abbrev s_all_letters : Stmt := topS 21
theorem sc_all_letters : FnScope ["string"] ["string"] (defScope s_all_letters) := ⟨rfl, rfl, rfl, by decide +kernel, rfl, by decide +kernel, by decide +kernel⟩
abbrev s_is_image : Stmt := topS 32
theorem sc_is_image : FnScope ["value"] ["value"] (defScope s_is_image) := ⟨rfl, rfl, rfl, by decide +kernel, rfl, by decide +kernel, by decide +kernel⟩
abbrev s_told_images : Stmt := topS 34
abbrev n_told_images : List Str := ["images", "keeps", "key", "letter", "kept"]
theorem sc_told_images : FnScope ["images", "keeps", "key", "letter", "kept"] ["images", "keeps"] (defScope s_told_images) := ⟨rfl, rfl, rfl, by decide +kernel, rfl, by decide +kernel, by decide +kernel⟩
/-- what the top has left, of the names and of the two classes -/
structure Tx (K : PySem.W.Frag) (mg : Str → Option Value) (CM CJ : Addr) : Prop extends Blt mg where
  isinstance : mg "isinstance" = none
  iter : mg "iter" = none
  gLETTERS : GV mg "LETTERS" (.str abcS)
  gLONGEST : GV mg "LONGEST" (.int 2000)
  gLONGEST_TOLD : GV mg "LONGEST_TOLD" (.int 4)
  gMOST_LETTERS : GV mg "MOST_LETTERS" (.int 12)
  gMisreading : GV mg "Misreading" (.ref CM)
  gJoined : GV mg "Joined" (.ref CJ)
  dJ : PySem.W.kitOne K (.type "dict") (.ref CJ) = some false
  dM : PySem.W.kitOne K (.type "dict") (.ref CM) = some false
  sM : PySem.W.kitOne K (.type "str") (.ref CM) = some false
  iM : PySem.W.kitOne K (.type "int") (.ref CM) = some false
  cl : Cls K CM
  nL : NoAttr K CM "_letters"
  nI : NoAttr K CM "_images"
  nC : NoAttr K CM "changed"
  tA : PySem.W.findIn K (.ref CM) "__class__" = some (some (.builtin "object.__class__"))
  tB : PySem.W.specialIn K (.builtin "object.__class__") "__get__" = some (some (.builtin "getset_descriptor.__get__"))
  tC : PySem.W.takesIn K (.builtin "object.__class__") = some true
  tD : PySem.W.mroIn K CM (.type "object") = some true
  ne : PySem.W.findIn K (.ref CM) "__ne__" = some (some (.builtin "object.__ne__"))
  fd : PySem.W.notFirst K CM (.type "dict") = true
  fs : PySem.W.notFirst K CM (.type "str") = true
  fi : PySem.W.notFirst K CM (.type "int") = true
def spIsLetter (K : PySem.W.Frag) : Sp := fun vs H Q _ => ∃ x, vs = [x] ∧ ((∃ c, x = .str (L1 c) ∧ Q (.bl (decide (c ∈ abc))) H) ∨ (∃ z, x = .str z ∧ z.length ≤ sizeLine ∧ z.length ≠ 1 ∧ Q (.bl false) H) ∨ (∃ t, TyX K H x t ∧ PySem.W.kitOne K t (.type "str") = some false ∧ Q (.bl false) H))
def spAllLetters : Sp := fun vs H Q _ => ∃ cs : List Nat, vs = [.str (Sx cs)] ∧ (∀ c ∈ cs, isLt c) ∧ cs.length ≤ 2000 ∧ Q (.bl true) H
def spIsText : Sp := spAllLetters
def spIsImage : Sp := fun vs H Q _ => ∃ s : List Nat, vs = [.str (Sx s)] ∧ (1 ≤ s.length ∧ s.length ≤ 4 ∧ ∀ d ∈ s, isLt d) ∧ Q (.bl true) H
theorem tw_all {p : Nat → Bool} : ∀ {l : List Nat}, (∀ c ∈ l, p c = true) → l.takeWhile p = l
  | [], _ => rfl
  | a :: r, h => by
    rw [List.takeWhile_cons, if_pos (h a (List.mem_cons_self ..)), tw_all fun c hc => h c (List.mem_cons_of_mem _ hc)]
theorem strip_all {cs : List Nat} (h : ∀ c ∈ cs, isLt c) : (Txt.stripChars (Sx cs) abcS).length = 0 := by
  have ha : ∀ c ∈ cs, abcS.cps.contains c = true := fun c hc => by
    have h1 : c ∈ abcS.cps.toList := by
      rw [abcS_cps]
      exact abc_mem.mpr (h c hc)
    exact Array.contains_iff_mem.mpr (Array.mem_toList_iff.mp h1)
  have hl : stripLo abcS.cps.contains true (Sx cs) = cs.length := by
    unfold stripLo
    rw [if_pos rfl]
    show (List.takeWhile abcS.cps.contains cs).length = cs.length
    rw [tw_all ha]
  unfold Txt.stripChars
  rw [stripBy_eq, hl]
  have e := TL.tl_strSub (Sx cs) cs.length (stripHi abcS.cps.contains true (Sx cs) cs.length)
  have e2 : TL.tl (Sx cs) = cs := rfl
  rw [e2, List.drop_length, List.take_nil] at e
  have e3 := congrArg List.length e
  exact e3
theorem dec_t {p : Prop} [Decidable p] (h : p) : V.bl (decide p) = V.bl true := by rw [decide_eq_true h]
theorem ty_str {K : PySem.W.Frag} {H : Hp} (z : Str) : TyX K H (.str z) (.type "str") := .base (.str z)
section
variable {P : Program} {w : World} {K : PySem.W.Frag} {mg : Str → Option Value} {base : Heap} {CM CJ : Addr}
theorem ok_is_letter {f : Addr} {fd : FuncData} (F : Fun K "is_letter" "is_letter" s_is_letter f fd) (T : Tx K mg CM CJ) : FnOk P w K mg base CX0 1 f fd ["value"] (spIsLetter K) := by
  refine F.ok sc_is_letter (fun vs H Q E h => ?_) (fun cdv A outer s H vs Q E hr h => ?_)
  · obtain ⟨x, rfl, _⟩ := h
    rfl
  · obtain ⟨x, rfl, h⟩ := h
    refine ⟨_, (pss_one (ps_ret (pe_and (pe_callB call_isi (by rfl) T.isinstance (by decide +kernel) (pa_cons (pv 0) (pa_cons (pe_bltn (v := .ty "str") (by rfl) T.str (by decide +kernel) rfl) pa_nil))) (pe_and (pe_cmpR op_eq (pe_callB call_len_str (by rfl) T.len (by decide +kernel) (pa_cons (pv 0) pa_nil)) pe_int (nomark _)) (pe_one (pe_cmpR op_in_sign (pv 0) (pe_gv T.gLETTERS (by rfl)) rfl)))))), ?_⟩
    rcases h with ⟨c, rfl, q⟩ | ⟨z, rfl, hz, h1, q⟩ | ⟨t, ty, e, q⟩
    · refine ⟨_, rfl, _, .ty "str", .type "str", .type "str", true, rfl, .ty _, ty_str _, kit_ty (by decide +kernel), true, rfl, ?_⟩
      refine ⟨_, rfl, _, rfl, by show 1 ≤ sizeLine; decide, rfl, true, rfl, ?_⟩
      refine ⟨_, rfl, c, abcS, rfl, rfl, ?_⟩
      rw [abcS_cps]
      exact q
    · refine ⟨_, rfl, _, .ty "str", .type "str", .type "str", true, rfl, .ty _, ty_str _, kit_ty (by decide +kernel), true, rfl, ?_⟩
      refine ⟨_, rfl, _, rfl, hz, rfl, false, ?_, ?_⟩
      · rw [decide_eq_false]
        intro e
        have e' := V.int.inj e
        omega
      · exact q
    · exact ⟨_, rfl, _, .ty "str", t, .type "str", false, rfl, .ty _, ty, e, false, rfl, q⟩
theorem ok_all_letters {f : Addr} {fd : FuncData} (F : Fun K "all_letters" "all_letters" s_all_letters f fd) (T : Tx K mg CM CJ) : FnOk P w K mg base CX0 1 f fd ["string"] spAllLetters := by
  refine F.ok sc_all_letters (fun vs H Q E h => ?_) (fun cdv A outer s H vs Q E hr h => ?_)
  · obtain ⟨cs, rfl, _⟩ := h
    rfl
  · obtain ⟨cs, rfl, hl, hn, q⟩ := h
    refine ⟨_, (pss_one (ps_ret (pe_notTK (K := K) rfl (pe_bmK (K := K) rfl PySem.F.plainAttrs_str PySem.F.slot_str_strip PySem.F.type_str_strip mt_stripChars (pv 0) (pa_cons (pe_gv T.gLETTERS (by rfl)) pa_nil))))), ?_⟩
    have hz : (Sx cs).length ≤ sizeLine := by rw [Sx_len, sizeLine_eq]; omega
    refine ⟨_, rfl, rfl, _, abcS, rfl, rfl, hz, false, ⟨?_, ?_⟩, q⟩
    · exact Nat.le_trans (len_stripChars _ _) hz
    · rw [strip_all hl]
      rfl
theorem ok_is_text {f : Addr} {fd : FuncData} (F : Fun K "is_text" "is_text" s_is_text f fd) (T : Tx K mg CM CJ) (D_all_letters : Df P w K mg base 1 "all_letters" spAllLetters) : FnOk P w K mg base CX0 2 f fd ["value"] spIsText := by
  refine F.ok sc_is_text (fun vs H Q E h => ?_) (fun cdv A outer s H vs Q E hr h => ?_)
  · obtain ⟨cs, rfl, _⟩ := h
    rfl
  · obtain ⟨cs, rfl, hl, hn, q⟩ := h
    refine ⟨_, (pss_one (ps_ret (pe_and (pe_callB call_isi (by rfl) T.isinstance (by decide +kernel) (pa_cons (pv 0) (pa_cons (pe_bltn (v := .ty "str") (by rfl) T.str (by decide +kernel) rfl) pa_nil))) (pe_and (pe_cmpR op_le (pe_callB call_len_str (by rfl) T.len (by decide +kernel) (pa_cons (pv 0) pa_nil)) (pe_gv T.gLONGEST (by rfl)) (nomark _)) (pe_one (pe_c D_all_letters hr (by decide) (by rfl) (pa_cons (pv 0) pa_nil))))))), ?_⟩
    have hz : (Sx cs).length ≤ sizeLine := by rw [Sx_len, sizeLine_eq]; omega
    refine ⟨_, rfl, _, .ty "str", .type "str", .type "str", true, rfl, .ty _, ty_str _, kit_ty (by decide +kernel), true, rfl, ?_⟩
    refine ⟨_, rfl, _, rfl, hz, _, _, rfl, rfl, true, ?_, ?_⟩
    · rw [Sx_len]
      exact dec_t (show (cs.length : Int) ≤ 2000 by omega)
    · exact ⟨_, rfl, cs, rfl, hl, hn, q⟩
theorem ok_is_image {f : Addr} {fd : FuncData} (F : Fun K "is_image" "is_image" s_is_image f fd) (T : Tx K mg CM CJ) (D_is_text : Df P w K mg base 2 "is_text" spIsText) : FnOk P w K mg base CX0 3 f fd ["value"] spIsImage := by
  refine F.ok sc_is_image (fun vs H Q E h => ?_) (fun cdv A outer s H vs Q E hr h => ?_)
  · obtain ⟨cs, rfl, _⟩ := h
    rfl
  · obtain ⟨cs, rfl, ⟨g1, g4, gl⟩, q⟩ := h
    refine ⟨_, (pss_one (ps_ret (pe_and (pe_c D_is_text hr (by decide) (by rfl) (pa_cons (pv 0) pa_nil)) (pe_one (pe_chain op_le op_le pe_int (pe_callB call_len_str (by rfl) T.len (by decide +kernel) (pa_cons (pv 0) pa_nil)) (pe_gv T.gLONGEST_TOLD (by rfl))))))), ?_⟩
    have hz : (Sx cs).length ≤ sizeLine := by rw [Sx_len, sizeLine_eq]; omega
    refine ⟨_, rfl, cs, rfl, gl, by omega, true, rfl, ?_⟩
    refine ⟨_, rfl, _, rfl, hz, _, _, rfl, rfl, true, ?_, ?_⟩
    · rw [Sx_len]
      exact dec_t (show (1 : Int) ≤ (cs.length : Int) by omega)
    · refine ⟨_, _, rfl, rfl, ?_⟩
      rw [Sx_len]
      have e := dec_t (show (cs.length : Int) ≤ 4 by omega)
      show Q (V.bl (decide ((cs.length : Int) ≤ 4))) H
      rw [e]
      exact q
/-- the letters that stay, as a table -/
def keepT (st : List Nat) : Tab := mergeT [] (st.map fun c => (c, [c]))
theorem keepT_good {cs st : List Nat} (hs : ∀ c ∈ st, c ∈ cs) (hl : ∀ c ∈ cs, isLt c) : GoodT cs (keepT st) := GoodT.merge GoodT.nil fun q hq => by
  obtain ⟨c, hc, rfl⟩ := List.mem_map.mp hq
  exact ⟨hs c hc, goodI1 (hs c hc)⟩
def toldT (st : List Nat) (t : Tab) : Tab := mergeT (mergeT [] (keepT st)) t
theorem toldT_good {cs st : List Nat} {t : Tab} (hs : ∀ c ∈ st, c ∈ cs) (hl : ∀ c ∈ cs, isLt c) (g : GoodT cs t) : GoodT cs (toldT st t) := by
  have g1 := keepT_good hs hl
  exact GoodT.merge (GoodT.merge GoodT.nil fun q hq => ⟨g1.key q hq, g1.img q hq⟩) fun q hq => ⟨g.key q hq, g.img q hq⟩
def spTold : Sp := fun vs H Q _ => ∃ (d : Addr) (cs st : List Nat) (t : Tab), vs = [.ref d, .str (Sx st)] ∧ H d = some (.dK (encT t)) ∧ GoodT cs t ∧ cs.length ≤ 26 ∧ (∀ c ∈ cs, isLt c) ∧ (∀ c ∈ st, c ∈ cs) ∧ st.length ≤ 500 ∧
  ∀ (r : Addr) (H' : Hp), Same H H' → H r = none → H' r = some (.dK (encT (toldT st t))) → Q (.ref r) H'
theorem Same.upd_back {H : Hp} {d : Addr} {o u : HO} (h : H d = some u) : upd (upd H d o) d u = H := by
  rw [upd_upd]
  funext b
  by_cases hb : b = d
  · rw [hb, upd_same, h]
  · rw [upd_ne hb]
theorem sx_at {st : List Nat} {i : Nat} {c : Nat} (h : (Sx st).cps[i]? = some c) : st[i]? = some c := by
  have : (Sx st).cps = st.toArray := rfl
  rw [this] at h
  simpa using h
theorem sx_size (st : List Nat) : (Sx st).cps.size = st.length := by
  show st.toArray.size = _
  simp
theorem look_in : ∀ {t : Tab} {c : Nat} {s : List Nat}, lookT t c = some s → (c, s) ∈ t := by
  intro t c s h
  unfold lookT at h
  cases e : t.find? (fun q => decide (q.1 = c)) with
  | none =>
    rw [e] at h
    cases h
  | some q =>
    rw [e] at h
    have h1 := List.find?_some e
    have h2 := List.mem_of_find?_eq_some e
    have h3 : q.1 = c := by simpa using h1
    have h4 : q.2 = s := by simpa using h
    rw [← h3, ← h4]
    exact h2
theorem keep_take {cs st : List Nat} (hs : ∀ c ∈ st, c ∈ cs) (hl : ∀ c ∈ cs, isLt c) (i : Nat) : GoodT cs (mergeT [] ((st.take i).map fun c => (c, [c]))) := keepT_good (st := st.take i) (fun c hc => hs c (List.mem_of_mem_take hc)) hl
theorem keep_succ {st : List Nat} {i c : Nat} (h : st[i]? = some c) : mergeT [] ((st.take (i + 1)).map fun c => (c, [c])) = putT (mergeT [] ((st.take i).map fun c => (c, [c]))) c [c] := by
  rw [List.take_add_one, h, List.map_append]
  unfold mergeT
  rw [List.foldl_append]
  rfl
theorem ok_told_images {f : Addr} {fd : FuncData} (F : Fun K "told_images" "told_images" s_told_images f fd) (T : Tx K mg CM CJ) (D_is_letter : Df P w K mg base 1 "is_letter" (spIsLetter K)) (D_is_text : Df P w K mg base 2 "is_text" spIsText)
    (D_is_image : Df P w K mg base 3 "is_image" spIsImage) : FnOk P w K mg base CX0 4 f fd ["images", "keeps"] spTold := by
  refine F.ok sc_told_images (fun vs H Q E h => ?_) (fun cdv A outer s H vs Q E hr h => ?_)
  · obtain ⟨d, cs, st, t, rfl, _⟩ := h
    rfl
  · obtain ⟨d, cs, st, t, rfl, hd, G, h26, hlt, hst, hs5, q⟩ := h
    refine ⟨_, (pss_cons (ps_if (pt_not (pt_val (pe_callB call_isi (by rfl) T.isinstance (by decide +kernel) (pa_cons (pv 0) (pa_cons (pe_bltn (v := .ty "dict") (by rfl) T.dict (by decide +kernel) rfl) pa_nil)))))
        (pss_one ps_never)
        pss_nil)
      (pss_cons (ps_lock (ps_for PassesOwn.never rfl (pi_keys (pv 0)) (pg_name (i := 2) sc_told_images.nd rfl (.inl rfl))
        (pss_one (ps_if (pt_not (pt_val (pe_c D_is_letter hr (by decide) (by rfl) (pa_cons (pv 2) pa_nil))))
          (pss_one ps_never)
          pss_nil))))
      (pss_cons (ps_for PassesOwn.never rfl (pi_str (pe_gv T.gLETTERS (by rfl))) (pg_name (i := 3) sc_told_images.nd rfl (.inl rfl))
        (pss_one (ps_if (PW.pt (pw_and (pt_cmp (pc_din (hu_of hr) (pv 3) (pv 0))) (pw_and1 (pt_not (pt_val (pe_c D_is_image hr (by decide) (by rfl) (pa_cons (pe_dget (hu_of hr) (pv 0) (pv 3) (fun _ _ => rfl)) pa_nil)))))))
          (pss_one ps_never)
          pss_nil)))
      (pss_cons (ps_if (pt_not (pt_val (pe_c D_is_text hr (by decide) (by rfl) (pa_cons (pv 1) pa_nil))))
        (pss_one ps_never)
        pss_nil)
      (pss_cons (ps_setDc (j := 4) (own := [("letter", 3)]) (g := gName 3) (by rfl) sc_told_images.nd rfl rfl (sw_trueD rfl rfl rfl (by decide +kernel)) (pi_str (pv 1)) (blkOk_by (own := [("letter", 3)]) (N := n_told_images) (sc := defScope s_told_images) (by decide +kernel)) (fun _ _ _ _ _ => (pg_name (i := 3) sc_told_images.nd rfl (.inl rfl))) (fun _ _ _ _ _ => pts_nil) (fun _ _ _ _ _ => (pv 3)) (fun _ _ _ _ _ => (pv 3)))
      (pss_one (ps_ret (pe_merge2 (pv 4) (pv 0))))))))), ?_⟩
    have tl := G.len
    -- isinstance(images, dict)
    refine ⟨_, rfl, _, .ty "dict", .type "dict", .type "dict", true, rfl, .ty _, .base (.dK hd), kit_ty (by decide +kernel), true, rfl, ?_⟩
    refine iteF ?_
    -- for key in images
    refine ⟨d, _, hd, True.intro, fun od => ⟨_, rfl, d, od, rfl, .inl ⟨_, upd_same, for_it walk_keys (fun i σ H2 => ∃ v2, σ = [some (.ref d), some (.str (Sx st)), v2, none, none] ∧ H2 = upd H d (.frz od (.dK (encT t)))) ⟨none, rfl, rfl⟩ ?_ ?_ ?_⟩⟩⟩
    · rintro i σ H2 hi ⟨v2, rfl, rfl⟩
      exact upd_same
    · rintro i x σ H2 H2' hi ⟨v2, rfl, rfl⟩ ⟨rfl, k, v, hk, rfl⟩
      obtain ⟨hit, rfl, rfl⟩ := enc_at hk
      have hc : t[i].1 ∈ abc := abc_mem.mpr (hlt _ (G.key _ (List.getElem_mem hit)))
      refine ⟨_, rfl, _, rfl, .inl ⟨t[i].1, rfl, ?_⟩⟩
      rw [decide_eq_true hc]
      exact ⟨true, rfl, iteF ⟨_, rfl, rfl⟩⟩
    · rintro σ H2 ⟨v2, rfl, rfl⟩
      refine ⟨upd_same, ?_⟩
      rw [Same.upd_back hd]
      -- for letter in LETTERS
      refine ⟨abcS, rfl, for_it walk_str (fun i σ H2 => ∃ v3, σ = [some (.ref d), some (.str (Sx st)), v2, v3, none] ∧ H = H2) ⟨none, rfl, rfl⟩ ?_ ?_ ?_⟩
      · rintro i σ H2 hi _
        trivial
      · rintro i x σ H2 H2' hi ⟨v3, rfl, rfl⟩ ⟨rfl, c, hc, rfl⟩
        refine ⟨_, rfl, _, rfl, d, _, rfl, DGet.k (k := Sum.inr (L1 c)) hd, _, rfl, ?_⟩
        rw [valV_enc]
        cases e : lookT t c with
        | none =>
          refine iteF ?_
          exact ⟨_, rfl, rfl⟩
        | some s =>
          refine iteT ?_
          refine ⟨_, rfl, _, rfl, d, V.str (Sx s), rfl, .inl ⟨_, Sum.inr (L1 c), .inl hd, rfl, by rw [valV_enc, e]; rfl⟩, s, rfl, ⟨(G.img _ (look_in e)).1, (G.img _ (look_in e)).2.1, fun z hz => hlt z ((G.img _ (look_in e)).2.2 z hz)⟩, true, rfl, ?_⟩
          exact ⟨_, rfl, rfl⟩
      · rintro σ H2 ⟨v3, rfl, rfl⟩
        -- is_text(keeps)
        refine ⟨_, rfl, st, rfl, fun c hc => hlt c (hst c hc), by omega, true, rfl, iteF ?_⟩
        -- kept
        refine ⟨_, rfl, Sx st, rfl, fun D nD => dc_it walk_str (fun i H3 => H3 = upd H D (.dK (encT (mergeT [] ((st.take i).map fun c => (c, [c])))))) ?_ ?_ ?_ ?_⟩
        · rfl
        · rintro i H3 hi _
          trivial
        · rintro i x H3 H3' hi rfl ⟨rfl, c, hc, rfl⟩
          have hc' := sx_at hc
          rw [sx_size] at hi
          have gk := keep_take (cs := cs) hst hlt i
          refine ⟨rfl, _, rfl, _, rfl, _, Sum.inr (L1 c), rfl, upd_same, by rw [encT_len]; have := gk.len; exact small1000 (by omega), ?_⟩
          rw [upd_upd]
          have ep : putK (encT (mergeT [] ((st.take i).map fun c => (c, [c])))) (Sum.inr (L1 c)) (V.str ⟨#[c]⟩) = encT (mergeT [] ((st.take (i + 1)).map fun c => (c, [c]))) := by
            rw [keep_succ hc']
            exact putK_enc _ c [c]
          rw [ep]
        · rintro H3 rfl
          rw [sx_size, List.take_length]
          have gk := keepT_good hst hlt
          have lk := gk.len
          have hdD : d ≠ D := ne_of_none hd nD
          -- {**kept, **images}
          have em : mergeK [] (encT (keepT st)) = encT (mergeT [] (keepT st)) := mergeK_enc (keepT st) []
          have gm : GoodT cs (mergeT [] (keepT st)) := GoodT.merge GoodT.nil fun x hx => ⟨gk.key x hx, gk.img x hx⟩
          have lm := gm.len
          refine fun r nr => ?_
          have hDr : D ≠ r := ne_of_none (H := upd H D (.dK (encT (keepT st)))) upd_same nr
          have hdr : d ≠ r := by
            refine ne_of_none (H := upd H D (.dK (encT (keepT st)))) (o := .dK (encT t)) ?_ nr
            rw [upd_ne hdD]
            exact hd
          refine ⟨_, rfl, D, encT (keepT st), rfl, hDr, upd_same, .inl ?_, by rw [encT_len]; omega, ?_⟩
          · rw [upd_ne hDr, upd_same]
            rfl
          · rw [em]
            refine ⟨_, rfl, d, encT (mergeT [] (keepT st)), encT t, rfl, hdr, upd_same, by rw [encT_len]; omega, .inl ?_, by rw [encT_len]; omega, ?_⟩
            · rw [upd_ne hdr, upd_ne hdr, upd_ne hdD]
              exact hd
            · rw [mergeK_enc]
              have s1 : Same H (upd H D (.dK (encT (keepT st)))) := fun b o e => by
                rw [upd_ne (ne_of_none e nD)]
                exact e
              have nrH : H r = none := s1.free nr
              refine q r _ (fun b o e => ?_) nrH upd_same
              have hb := ne_of_none e nrH
              rw [upd_ne hb, upd_ne hb, upd_ne hb]
              exact s1 b o e
end
end V8
set_option Elab.async false
set_option linter.all false
set_option maxRecDepth 100000
set_option maxHeartbeats 8000000
/-! The class Misreading, as far as the law asks it. -/
namespace V8
open PySem PySem.Spec PyProof.Rows L2
abbrev s_Misreading_init : Stmt := inClass (topS 31) 0
abbrev n_Misreading_init : List Str := ["self", "images", "keeps", "told", "letter"]
theorem sc_Misreading_init : FnScope ["self", "images", "keeps", "told", "letter"] ["self", "images", "keeps"] (defScope s_Misreading_init) := ⟨rfl, rfl, rfl, by decide +kernel, rfl, by decide +kernel, by decide +kernel⟩
abbrev s_Misreading_contains : Stmt := inClass (topS 31) 1
theorem sc_Misreading_contains : FnScope ["self", "x"] ["self", "x"] (defScope s_Misreading_contains) := ⟨rfl, rfl, rfl, by decide +kernel, rfl, by decide +kernel, by decide +kernel⟩
abbrev s_Misreading_iter : Stmt := inClass (topS 31) 3
theorem sc_Misreading_iter : FnScope ["self"] ["self"] (defScope s_Misreading_iter) := ⟨rfl, rfl, rfl, by decide +kernel, rfl, by decide +kernel, by decide +kernel⟩
abbrev s_Misreading_getitem : Stmt := inClass (topS 31) 4
theorem sc_Misreading_getitem : FnScope ["self", "at"] ["self", "at"] (defScope s_Misreading_getitem) := ⟨rfl, rfl, rfl, by decide +kernel, rfl, by decide +kernel, by decide +kernel⟩
abbrev s_Misreading_same : Stmt := inClass (topS 31) 15
theorem sc_Misreading_same : FnScope ["letters"] ["letters"] (defScope s_Misreading_same) := ⟨rfl, rfl, rfl, by decide +kernel, rfl, by decide +kernel, by decide +kernel⟩
abbrev s_Misreading_str : Stmt := inClass (topS 31) 16
abbrev n_Misreading_str : List Str := ["self", "letter"]
theorem sc_Misreading_str : FnScope ["self", "letter"] ["self"] (defScope s_Misreading_str) := ⟨rfl, rfl, rfl, by decide +kernel, rfl, by decide +kernel, by decide +kernel⟩
def keysOf (u : Tab) : List Nat := abc.filter fun c => (lookT u c).isSome
def ims (u : Tab) : Tab := (keysOf u).map fun c => (c, (lookT u c).getD [])
def chg (u : Tab) : List Nat := (keysOf u).filter fun c => decide (lookT u c ≠ some [c])
theorem kLI : ¬ (("_letters" : Str) = "_images") := by decide +kernel
theorem kLC : ¬ (("_letters" : Str) = "changed") := by decide +kernel
theorem kIC : ¬ (("_images" : Str) = "changed") := by decide +kernel
def f1 (a : Addr) : List (Str × V) := putF "_letters" (.ref a) []
def f2 (a b : Addr) : List (Str × V) := putF "_images" (.ref b) (f1 a)
def f3 (a b c : Addr) : List (Str × V) := putF "changed" (.ref c) (f2 a b)
theorem f1_L (a : Addr) : (f1 a).lookup ("_letters" : Str) = some (.ref a) := by
  unfold f1
  rw [lookup_putF, if_pos rfl]
theorem f2_L (a b : Addr) : (f2 a b).lookup ("_letters" : Str) = some (.ref a) := by
  unfold f2
  rw [lookup_putF, if_neg kLI]
  exact f1_L a
theorem f3_L (a b c : Addr) : (f3 a b c).lookup ("_letters" : Str) = some (.ref a) := by
  unfold f3
  rw [lookup_putF, if_neg kLC]
  exact f2_L a b
theorem f3_I (a b c : Addr) : (f3 a b c).lookup ("_images" : Str) = some (.ref b) := by
  unfold f3 f2
  rw [lookup_putF, if_neg kIC, lookup_putF, if_pos rfl]
theorem f1_len (a : Addr) : (f1 a).length < 1000 := by
  show 1 < 1000
  decide
theorem f2_len (a b : Addr) : (f2 a b).length < 1000 := by
  have e : f2 a b = [(("_letters" : Str), V.ref a), ("_images", V.ref b)] := by
    show (if ("_letters" : Str) = "_images" then [(("_letters" : Str), V.ref b)] else (("_letters" : Str), V.ref a) :: [(("_images" : Str), V.ref b)]) = _
    rw [if_neg kLI]
  rw [e]
  show 2 < 1000
  decide
/-- a Misreading stands at x: its images are those of the table u, letters ascending -/
structure MisAt (C : Addr) (H : Hp) (x : Addr) (u : Tab) : Prop where
  at_ : ∃ dx a b c, H x = some (.ins C dx (f3 a b c)) ∧ H a = some (.tup (lets (keysOf u))) ∧ H b = some (.dK (encT (ims u))) ∧ H c = some (.tup (lets (chg u)))
theorem MisAt.mono {C : Addr} {H H' : Hp} {x : Addr} {u : Tab} (m : MisAt C H x u) (k : ∀ b o, H b = some o → (∀ xs, o ≠ .lst xs) → H' b = some o) : MisAt C H' x u := by
  obtain ⟨dx, a, b, c, h1, h2, h3, h4⟩ := m.at_
  exact ⟨dx, a, b, c, k _ _ h1 (fun _ z => nomatch z), k _ _ h2 (fun _ z => nomatch z), k _ _ h3 (fun _ z => nomatch z), k _ _ h4 (fun _ z => nomatch z)⟩
/-- .. made of what is new behind H0 -/
structure MisN (C : Addr) (H0 H : Hp) (x : Addr) (u : Tab) : Prop where
  at_ : ∃ dx a b c, H x = some (.ins C dx (f3 a b c)) ∧ H a = some (.tup (lets (keysOf u))) ∧ H b = some (.dK (encT (ims u))) ∧ H c = some (.tup (lets (chg u))) ∧ H0 a = none ∧ H0 b = none ∧ H0 c = none
theorem MisN.mis {C : Addr} {H0 H : Hp} {x : Addr} {u : Tab} (m : MisN C H0 H x u) : MisAt C H x u := by
  obtain ⟨dx, a, b, c, h1, h2, h3, h4, _⟩ := m.at_
  exact ⟨dx, a, b, c, h1, h2, h3, h4⟩
theorem keysOf_sub (u : Tab) : ∀ c ∈ keysOf u, isLt c := fun c h => abc_mem.mp (List.mem_filter.mp h).1
theorem keysOf_len (u : Tab) : (keysOf u).length ≤ 26 := by
  have := List.length_filter_le (fun c => (lookT u c).isSome) abc
  rw [abc_len] at this
  exact this
theorem keysOf_nd (u : Tab) : (keysOf u).Nodup := abc_nd.filter _
def spInit (CM : Addr) : Sp := fun vs H Q _ => ∃ (x dx d : Addr) (cs st : List Nat) (t : Tab), vs = [.ref x, .ref d, .str (Sx st)] ∧ H x = some (.ins CM dx []) ∧ H d = some (.dK (encT t)) ∧ GoodT cs t ∧ ((toldT st t).length ≤ 12 ∧ cs.length ≤ 26) ∧ (∀ c ∈ cs, isLt c) ∧ (∀ c ∈ st, c ∈ cs) ∧ st.length ≤ 500 ∧
  ∀ H', MisN CM H H' x (toldT st t) → (∀ b o, H b = some o → b ≠ x → H' b = some o) → Q .non H'
section
variable {P : Program} {w : World} {K : PySem.W.Frag} {mg : Str → Option Value} {base : Heap} {CM CJ : Addr}
theorem some_put (u : Tab) (i : Nat) (c : Nat) (h : abc[i]? = some c) : (abc.take (i + 1)).filter (fun c => (lookT u c).isSome) = (abc.take i).filter (fun c => (lookT u c).isSome) ++ (if (lookT u c).isSome = true then [c] else []) := by
  rw [List.take_add_one, h, List.filter_append]
  congr 1
  show List.filter _ [c] = _
  by_cases e : (lookT u c).isSome = true
  · rw [if_pos e]
    exact List.filter_eq_self.mpr (fun x hx => by rw [List.mem_singleton.mp hx]; exact e)
  · rw [if_neg e]
    simp [e]
theorem ims_succ {ks : List Nat} {u : Tab} {i : Nat} {s : List Nat} (nd : ks.Nodup) (hi : i < ks.length) (e : (lookT u ks[i]).getD [] = s) : putT ((ks.take i).map fun c => (c, (lookT u c).getD [])) ks[i] s = (ks.take (i + 1)).map fun c => (c, (lookT u c).getD []) := by
  have hn : ¬ (((ks.take i).map fun c => (c, (lookT u c).getD [])).any fun q => decide (q.1 = ks[i])) = true := by
    intro h
    obtain ⟨q, hq, e1⟩ := List.any_eq_true.mp h
    obtain ⟨c, hc, rfl⟩ := List.mem_map.mp hq
    have e2 : c = ks[i] := by simpa using e1
    obtain ⟨j, hj, ej⟩ := List.getElem_of_mem hc
    rw [List.length_take] at hj
    rw [List.getElem_take] at ej
    have : j = i := (List.getElem_inj nd).mp (ej.trans e2)
    omega
  unfold putT
  rw [if_neg hn, List.take_add_one, List.getElem?_eq_getElem hi, List.map_append]
  show _ = _ ++ [(ks[i], (lookT u ks[i]).getD [])]
  rw [e]
theorem chg_succ {u : Tab} {i : Nat} {ks : List Nat} (hi : i < ks.length) : (ks.take (i + 1)).filter (fun c => decide (lookT u c ≠ some [c])) = (ks.take i).filter (fun c => decide (lookT u c ≠ some [c])) ++ (if decide (lookT u ks[i] ≠ some [ks[i]]) = true then [ks[i]] else []) := by
  rw [List.take_add_one, List.getElem?_eq_getElem hi, List.filter_append]
  congr 1
  show List.filter _ [ks[i]] = _
  rw [List.filter_cons]
  rfl
theorem ok_init {f : Addr} {fd : FuncData} {dvs : List V} (F : FunD K "__init__" "Misreading.__init__" (defArgs s_Misreading_init) (defBody s_Misreading_init) (defScope s_Misreading_init) dvs [] f fd) (T : Tx K mg CM CJ) (D_told_images : Df P w K mg base 4 "told_images" spTold) : FnOk P w K mg base CX0 5 f fd ["self", "images", "keeps"] (spInit CM) := by
  refine F.ok sc_Misreading_init (fun vs H Q E h => ?_) (fun cdv A outer s H vs Q E hr h => ?_)
  · obtain ⟨x, dx, d, cs, st, t, rfl, _⟩ := h
    rfl
  · obtain ⟨x, dx, d, cs, st, t, rfl, hx, hd, G, ⟨h12, h26⟩, hlt, hst, hs5, q⟩ := h
    refine ⟨_, (pss_cons (ps_set (i := 3) sc_Misreading_init.nd rfl (.inr rfl) (pe_ifExp (pt_val (pe_callB call_isi (by rfl) T.isinstance (by decide +kernel) (pa_cons (pv 1) (pa_cons (pe_gv T.gJoined (by rfl)) pa_nil)))) (pe_fldK (K := K) rfl (pv 1) rfl) (pe_c D_told_images hr (by decide) (by rfl) (pa_cons (pv 1) (pa_cons (pv 2) pa_nil)))))
      (pss_cons (ps_if (pt_cmpR op_gt (pe_callB call_lenD (by rfl) T.len (by decide +kernel) (pa_cons (pv 3) pa_nil)) (pe_gv T.gMOST_LETTERS (by rfl)) (nomark _))
        (pss_one ps_never)
        pss_nil)
      (pss_cons (ps_fld (pv 0) (pe_callTy (call_tuple_ofK (K := K) rfl) (by rfl) T.tuple (by decide +kernel) (pa_cons (pe_lc (own := [("letter", 4)]) (g := gName 4) (by rfl) sc_Misreading_init.nd (pi_str (pe_gv T.gLETTERS (by rfl))) (blkOk_by (own := [("letter", 4)]) (N := n_Misreading_init) (sc := defScope s_Misreading_init) (by decide +kernel)) (fun _ _ _ _ _ => (pg_name (i := 4) sc_Misreading_init.nd rfl (.inl rfl))) (fun _ _ _ _ _ => (pts_one (pt_cmp (pc_din (hu_of hr) (pv 4) (pv 3))))) (fun _ _ _ _ _ => (pv 4))) pa_nil)) rfl)
      (pss_cons (ps_fld (pv 0) (pe_dc (own := [("letter", 4)]) (g := gName 4) (by rfl) sc_Misreading_init.nd (pi_tup (pe_fldK (K := K) rfl (pv 0) rfl)) (blkOk_by (own := [("letter", 4)]) (N := n_Misreading_init) (sc := defScope s_Misreading_init) (by decide +kernel)) (fun _ _ _ _ _ => (pg_name (i := 4) sc_Misreading_init.nd rfl (.inl rfl))) (fun _ _ _ _ _ => pts_nil) (fun _ _ _ _ _ => (pv 4)) (fun _ _ _ _ _ => (pe_dget (hu_of hr) (pv 3) (pv 4) (fun _ _ => rfl)))) rfl)
      (pss_one (ps_fld (pv 0) (pe_callTy (call_tuple_ofK (K := K) rfl) (by rfl) T.tuple (by decide +kernel) (pa_cons (pe_lc (own := [("letter", 4)]) (g := gName 4) (by rfl) sc_Misreading_init.nd (pi_tup (pe_fldK (K := K) rfl (pv 0) rfl)) (blkOk_by (own := [("letter", 4)]) (N := n_Misreading_init) (sc := defScope s_Misreading_init) (by decide +kernel)) (fun _ _ _ _ _ => (pg_name (i := 4) sc_Misreading_init.nd rfl (.inl rfl))) (fun _ _ _ _ _ => (pts_one (pt_cmpR op_ne (pe_dget (hu_of hr) (pv 3) (pv 4) (fun _ _ => rfl)) (pv 4) (nomark _)))) (fun _ _ _ _ _ => (pv 4))) pa_nil)) rfl)))))), ?_⟩
    have gu := toldT_good hst hlt G
    have lu := h12
    -- told
    refine ⟨_, rfl, _, .ref CJ, .type "dict", .ref CJ, false, rfl, .own _, .base (.dK hd), T.dJ, false, rfl, ?_⟩
    refine iteF ?_
    refine ⟨_, rfl, _, rfl, d, cs, st, t, rfl, hd, G, by omega, hlt, hst, hs5, fun r H1 sm nr hr1 => ?_⟩
    generalize toldT st t = u at gu lu q hr1 ⊢
    have hx1 := sm _ _ hx
    -- len(told) > 12
    refine ⟨_, rfl, r, _, rfl, hr1, _, _, rfl, rfl, _, rfl, ?_⟩
    rw [encT_len, decide_eq_false (by show ¬ ((12 : Int) < (u.length : Int)); omega)]
    refine iteF ?_
    have hx0 : ∀ b o, H b = some o → b ≠ x → H1 b = some o := fun b o e _ => sm b o e
    -- self._letters
    refine ⟨abcS, rfl, fun D nD => lc_it walk_str (fun i H2 => H2 = upd H1 D (.lst (lets ((abc.take i).filter fun c => (lookT u c).isSome)))) rfl (fun _ _ _ _ => trivial) ?_ ?_⟩
    · rintro i z H2 H2' hi rfl ⟨rfl, c, hc, rfl⟩
      have hc' : abc[i]? = some c := by
        rw [← abcS_cps]
        simpa using hc
      have hrD : r ≠ D := ne_of_none hr1 nD
      refine ⟨rfl, _, rfl, _, rfl, r, _, rfl, DGet.k (k := Sum.inr (L1 c)) (by rw [upd_ne hrD]; exact hr1), _, rfl, ?_⟩
      rw [valV_enc]
      have hs := some_put u i c hc'
      by_cases e : (lookT u c).isSome = true
      · have e2 : (Option.map (fun s => V.str (Sx s)) (lookT u c)).isSome = true := by rw [Option.isSome_map]; exact e
        rw [e2]
        refine iteT ?_
        rw [if_pos e] at hs
        refine ⟨_, rfl, lets ((abc.take i).filter fun c => (lookT u c).isSome), upd_same, ?_, ?_⟩
        · rw [lets_len]
          have h1 := List.length_filter_le (fun c => (lookT u c).isSome) (abc.take i)
          have h2 : (abc.take i).length ≤ 26 := by rw [List.length_take, abc_len]; omega
          exact small1000 (by omega)
        · rw [upd_upd, hs, lets_snoc]
          rfl
      · have e2 : (Option.map (fun s => V.str (Sx s)) (lookT u c)).isSome = false := by
          rw [Option.isSome_map]
          exact Bool.eq_false_iff.mpr e
        rw [e2]
        refine iteF ?_
        rw [if_neg e, List.append_nil] at hs
        rw [hs]
    · rintro H2 rfl
      have hsz : abcS.cps.size = 26 := by decide +kernel
      rw [hsz]
      have ek : (abc.take 26).filter (fun c => (lookT u c).isSome) = keysOf u := by
        rw [List.take_of_length_le (by rw [abc_len]; exact Nat.le_refl _)]
        rfl
      rw [ek]
      refine ⟨D, _, rfl, .inl ⟨SqL.of upd_same, fun a na => ?_⟩⟩
      have hxD : x ≠ D := ne_of_none hx1 nD
      have hxa : x ≠ a := ne_of_none (H := upd H1 D (.lst (lets (keysOf u)))) (o := .ins CM dx []) (by rw [upd_ne hxD]; exact hx1) na
      have hrD : r ≠ D := ne_of_none hr1 nD
      have hra : r ≠ a := ne_of_none (H := upd H1 D (.lst (lets (keysOf u)))) (o := .dK (encT u)) (by rw [upd_ne hrD]; exact hr1) na
      have hrx : r ≠ x := ne_of hr1 hx1 (fun z => nomatch z)
      refine ⟨_, rfl, x, CM, dx, [], rfl, by rw [upd_ne hxa, upd_ne hxD]; exact hx1, T.cl, T.nL, by show 0 < 1000; decide, ?_⟩
      have fr3 : ∀ b o, H b = some o → b ≠ x → upd (upd (upd H1 D (.lst (lets (keysOf u)))) a (.tup (lets (keysOf u)))) x (.ins CM dx (f1 a)) b = some o := fun b o e hb => by
        have e1 := sm b o e
        have hbD := ne_of_none e1 nD
        rw [upd_ne hb, upd_ne (ne_of_none (H := upd H1 D (.lst (lets (keysOf u)))) (o := o) (by rw [upd_ne hbD]; exact e1) na), upd_ne hbD]
        exact e1
      have hx3 : upd (upd (upd H1 D (.lst (lets (keysOf u)))) a (.tup (lets (keysOf u)))) x (.ins CM dx (f1 a)) x = some (.ins CM dx (f1 a)) := upd_same
      have ha3 : upd (upd (upd H1 D (.lst (lets (keysOf u)))) a (.tup (lets (keysOf u)))) x (.ins CM dx (f1 a)) a = some (.tup (lets (keysOf u))) := by rw [upd_ne (Ne.symm hxa), upd_same]
      have hr3 : upd (upd (upd H1 D (.lst (lets (keysOf u)))) a (.tup (lets (keysOf u)))) x (.ins CM dx (f1 a)) r = some (.dK (encT u)) := by rw [upd_ne hrx, upd_ne hra, upd_ne hrD]; exact hr1
      show tSeq _ _ _ _ (upd (upd (upd H1 D (.lst (lets (keysOf u)))) a (.tup (lets (keysOf u)))) x (.ins CM dx (f1 a)))
      generalize upd (upd (upd H1 D (.lst (lets (keysOf u)))) a (.tup (lets (keysOf u)))) x (.ins CM dx (f1 a)) = H3 at fr3 hx3 ha3 hr3 ⊢
      have naH : H a = none := by
        cases e : H a with
        | none => rfl
        | some o =>
          have e1 := sm _ _ e
          have e2 : upd H1 D (.lst (lets (keysOf u))) a = some o := by rw [upd_ne (ne_of_none e1 nD)]; exact e1
          rw [e2] at na
          cases na
      clear na nD hxD hxa hrD hra
      -- self._images
      refine ⟨_, rfl, x, CM, dx, _, _, rfl, hx3, T.cl, T.nL, f1_L a, a, rfl, ⟨_, .inl (.inl ha3)⟩, fun D2 nD2 => dc_it (walk_tup (K := K) (a := a) (xs := lets (keysOf u))) (fun i H4 => H4 = upd H3 D2 (.dK (encT (((keysOf u).take i).map fun c => (c, (lookT u c).getD []))))) rfl ?_ ?_ ?_⟩
      · rintro i H4 hi rfl
        exact .inl (.inl (by rw [upd_ne (ne_of_none ha3 nD2)]; exact ha3))
      · rintro i z H4 H4' hi rfl ⟨rfl, hz⟩
        obtain ⟨hik, rfl⟩ := lets_get hz
        obtain ⟨s, es⟩ := Option.isSome_iff_exists.mp (List.mem_filter.mp (List.getElem_mem hik)).2
        refine ⟨rfl, _, rfl, _, rfl, _, rfl, r, V.str (Sx s), rfl, .inl ⟨_, Sum.inr (L1 (keysOf u)[i]), .inl (by rw [upd_ne (ne_of_none hr3 nD2)]; exact hr3), rfl, by rw [valV_enc, es]; rfl⟩, _, Sum.inr (L1 (keysOf u)[i]), rfl, upd_same, ?_, ?_⟩
        · rw [encT_len, List.length_map, List.length_take]
          have := keysOf_len u
          exact small1000 (by omega)
        · rw [upd_upd, putK_enc]
          congr 3
          exact ims_succ (keysOf_nd u) hik (by rw [es]; rfl)
      · rintro H4 rfl
        rw [lets_len, List.take_length]
        have hxD2 : x ≠ D2 := ne_of_none hx3 nD2
        have haD2 : a ≠ D2 := ne_of_none ha3 nD2
        have hrD2 : r ≠ D2 := ne_of_none hr3 nD2
        refine ⟨_, rfl, x, CM, dx, f1 a, rfl, by rw [upd_ne hxD2]; exact hx3, T.cl, T.nI, f1_len a, ?_⟩
        have hax : a ≠ x := ne_of ha3 hx3 (fun z => nomatch z)
        have nbH : H D2 = none := by
          cases e : H D2 with
          | none => rfl
          | some o =>
            have e1 := fr3 _ _ e (Ne.symm hxD2)
            rw [e1] at nD2
            cases nD2
        have fr5 : ∀ b o, H b = some o → b ≠ x → upd (upd H3 D2 (.dK (encT (ims u)))) x (.ins CM dx (f2 a D2)) b = some o := fun b o e hb => by
          have e1 := fr3 b o e hb
          rw [upd_ne hb, upd_ne (ne_of_none e1 nD2)]
          exact e1
        have hx5 : upd (upd H3 D2 (.dK (encT (ims u)))) x (.ins CM dx (f2 a D2)) x = some (.ins CM dx (f2 a D2)) := upd_same
        have ha5 : upd (upd H3 D2 (.dK (encT (ims u)))) x (.ins CM dx (f2 a D2)) a = some (.tup (lets (keysOf u))) := by rw [upd_ne hax, upd_ne haD2]; exact ha3
        have hr5 : upd (upd H3 D2 (.dK (encT (ims u)))) x (.ins CM dx (f2 a D2)) r = some (.dK (encT u)) := by rw [upd_ne hrx, upd_ne hrD2]; exact hr3
        have hd5 : upd (upd H3 D2 (.dK (encT (ims u)))) x (.ins CM dx (f2 a D2)) D2 = some (.dK (encT (ims u))) := by rw [upd_ne (Ne.symm hxD2), upd_same]
        show Ends.nx _ _ (upd (upd H3 D2 (.dK (encT (ims u)))) x (.ins CM dx (f2 a D2)))
        generalize upd (upd H3 D2 (.dK (encT (ims u)))) x (.ins CM dx (f2 a D2)) = H5 at fr5 hx5 ha5 hr5 hd5 ⊢
        -- self.changed
        refine ⟨_, rfl, x, CM, dx, _, _, rfl, hx5, T.cl, T.nL, f2_L a D2, a, rfl, ⟨_, .inl (.inl ha5)⟩, fun D3 nD3 => lc_it (walk_tup (K := K) (a := a) (xs := lets (keysOf u))) (fun i H6 => H6 = upd H5 D3 (.lst (lets (((keysOf u).take i).filter fun c => decide (lookT u c ≠ some [c]))))) rfl ?_ ?_ ?_⟩
        · rintro i H6 hi rfl
          exact .inl (.inl (by rw [upd_ne (ne_of_none ha5 nD3)]; exact ha5))
        · rintro i z H6 H6' hi rfl ⟨rfl, hz⟩
          obtain ⟨hik, rfl⟩ := lets_get hz
          obtain ⟨s, es⟩ := Option.isSome_iff_exists.mp (List.mem_filter.mp (List.getElem_mem hik)).2
          refine ⟨rfl, _, rfl, _, rfl, r, V.str (Sx s), rfl, .inl ⟨_, Sum.inr (L1 (keysOf u)[i]), .inl (by rw [upd_ne (ne_of_none hr5 nD3)]; exact hr5), rfl, by rw [valV_enc, es]; rfl⟩, _, rfl, rfl, _, rfl, ?_⟩
          have hs := chg_succ (u := u) hik
          by_cases e : s = [(keysOf u)[i]]
          · have e1 : lookT u (keysOf u)[i] = some [(keysOf u)[i]] := by rw [es, e]
            rw [if_neg (by simp [e1]), List.append_nil] at hs
            rw [decide_eq_true (show V.str (Sx s) = V.str (L1 (keysOf u)[i]) by rw [e]; rfl)]
            refine iteF ?_
            rw [hs]
          · have e1 : ¬ lookT u (keysOf u)[i] = some [(keysOf u)[i]] := by
              rw [es]
              exact fun z => e (Option.some.inj z)
            rw [if_pos (by simpa using e1)] at hs
            rw [decide_eq_false (show ¬ V.str (Sx s) = V.str (L1 (keysOf u)[i]) from fun z => e (Sx_inj (V.str.inj z)))]
            refine iteT ?_
            refine ⟨_, rfl, _, upd_same, ?_, ?_⟩
            · rw [lets_len]
              have h1 := List.length_filter_le (fun c => decide (lookT u c ≠ some [c])) ((keysOf u).take i)
              have h2 := keysOf_len u
              have h3 : ((keysOf u).take i).length ≤ (keysOf u).length := by rw [List.length_take]; omega
              exact small1000 (by omega)
            · rw [upd_upd, hs, lets_snoc]
        · rintro H6 rfl
          rw [lets_len, List.take_length]
          refine ⟨D3, _, rfl, .inl ⟨SqL.of upd_same, fun c nc => ?_⟩⟩
          have hxD3 : x ≠ D3 := ne_of_none hx5 nD3
          have up : ∀ b o, H5 b = some o → upd (upd H5 D3 (.lst (lets (chg u)))) c (.tup (lets (chg u))) b = some o := fun b o e => by
            have hb := ne_of_none e nD3
            rw [upd_ne (ne_of_none (H := upd H5 D3 (.lst (lets (chg u)))) (o := o) (by rw [upd_ne hb]; exact e) nc), upd_ne hb]
            exact e
          have hxc : x ≠ c := ne_of_none (H := upd H5 D3 (.lst (lets (chg u)))) (o := .ins CM dx (f2 a D2)) (by rw [upd_ne hxD3]; exact hx5) nc
          refine ⟨_, rfl, x, CM, dx, f2 a D2, rfl, up _ _ hx5, T.cl, T.nC, f2_len a D2, ?_⟩
          have ncH : H c = none := by
            have nc' : upd H5 D3 (.lst (lets (chg u))) c = none := nc
            cases e : H c with
            | none => rfl
            | some o =>
              have e3 := fr5 _ _ e (Ne.symm hxc)
              have e2 : upd H5 D3 (.lst (lets (chg u))) c = some o := by
                rw [upd_ne (ne_of_none e3 nD3)]
                exact e3
              rw [e2] at nc'
              cases nc'
          have hD2x : D2 ≠ x := ne_of hd5 hx5 (fun z => nomatch z)
          refine q _ ⟨dx, a, D2, c, upd_same, ?_, ?_, ?_, naH, nbH, ncH⟩ fun b o e hb => ?_
          · rw [upd_ne hax]
            exact up _ _ ha5
          · rw [upd_ne hD2x]
            exact up _ _ hd5
          · rw [upd_ne (Ne.symm hxc)]
            exact upd_same
          · rw [upd_ne hb]
            exact up _ _ (fr5 b o e hb)
end
end V8
set_option Elab.async false
set_option linter.all false
set_option maxRecDepth 100000
set_option maxHeartbeats 8000000
/-! Misreading: in, len, iteration, [ ]. -/
namespace V8
open PySem PySem.Spec PyProof.Rows L2
theorem lookT_map (f : Nat → List Nat) (c : Nat) : ∀ ks : List Nat, lookT (ks.map fun c => (c, f c)) c = if c ∈ ks then some (f c) else none
  | [] => by rw [if_neg List.not_mem_nil]; rfl
  | k :: ks => by
    have ih := lookT_map f c ks
    unfold lookT at ih ⊢
    rw [List.map_cons, List.find?_cons]
    by_cases h : k = c
    · subst h
      simp
    · simp only [h, decide_false]
      have e : (c ∈ k :: ks) ↔ c ∈ ks := by
        simp [Ne.symm h]
      rw [ih]
      by_cases h2 : c ∈ ks
      · rw [if_pos h2, if_pos (e.mpr h2)]
      · rw [if_neg h2, if_neg (fun z => h2 (e.mp z))]
theorem look_ims (u : Tab) (c : Nat) : lookT (ims u) c = if c ∈ keysOf u then some ((lookT u c).getD []) else none := lookT_map _ c _
theorem keysOf_mem {u : Tab} {c : Nat} : c ∈ keysOf u ↔ c ∈ abc ∧ (lookT u c).isSome = true := List.mem_filter
theorem look_ims_some {u : Tab} {c : Nat} (h : c ∈ keysOf u) : lookT (ims u) c = lookT u c := by
  rw [look_ims, if_pos h]
  obtain ⟨s, e⟩ := Option.isSome_iff_exists.mp (keysOf_mem.mp h).2
  rw [e]
  rfl
structure Ty (K : PySem.W.Frag) (mg : Str → Option Value) (CM CJ : Addr) : Prop extends Tx K mg CM CJ where
  mM : PySem.W.kitOne K (.ref CM) (.ref CM) = some true
  MJ : PySem.W.kitOne K (.ref CM) (.ref CJ) = some false
  Ms : PySem.W.kitOne K (.ref CM) (.type "str") = some false
  ls : PySem.W.kitOne K (.type "list") (.type "str") = some false
def spIn (K : PySem.W.Frag) (CM : Addr) : Sp := fun vs H Q _ => ∃ (x : Addr) (u : Tab) (y : V), vs = [.ref x, y] ∧ MisAt CM H x u ∧ ((∃ c, y = .str (L1 c) ∧ Q (.bl (decide (c ∈ keysOf u))) H) ∨ (∃ z, y = .str z ∧ z.length ≤ sizeLine ∧ z.length ≠ 1 ∧ Q (.bl false) H) ∨
  (∃ t, TyX K H y t ∧ PySem.W.kitOne K t (.type "str") = some false ∧ Q (.bl false) H))
def spGet (CM : Addr) : Sp := fun vs H Q _ => ∃ (x : Addr) (u : Tab) (c : Nat) (s : List Nat), vs = [.ref x, .str (L1 c)] ∧ MisAt CM H x u ∧ c ∈ keysOf u ∧ lookT u c = some s ∧ Q (.str (Sx s)) H
def snIter (CM : Addr) : Nat → Sp := fun n vs H Q _ => ∃ (x : Addr) (u : Tab), vs = [.ref x] ∧ MisAt CM H x u ∧ ∀ it a, H it = none → n ≤ it → H a = some (.tup (lets (keysOf u))) → Q (.ref it) (upd H it (ItT a it))
section
variable {P : Program} {w : World} {K : PySem.W.Frag} {mg : Str → Option Value} {base : Heap} {CM CJ : Addr}
theorem ok_in {f : Addr} {fd : FuncData} (F : Fun K "__contains__" "Misreading.__contains__" s_Misreading_contains f fd) (T : Tx K mg CM CJ) (D_is_letter : Df P w K mg base 1 "is_letter" (spIsLetter K)) : FnOk P w K mg base CX0 2 f fd ["self", "x"] (spIn K CM) := by
  refine F.ok sc_Misreading_contains (fun vs H Q E h => ?_) (fun cdv A outer s H vs Q E hr h => ?_)
  · obtain ⟨x, u, y, rfl, _⟩ := h
    rfl
  · obtain ⟨x, u, y, rfl, ⟨dx, a, b, c', hx, ha, hb, hc⟩, h⟩ := h
    refine ⟨_, (pss_one (ps_ret (pe_and (pe_c D_is_letter hr (by decide) (by rfl) (pa_cons (pv 1) pa_nil)) (pe_one (pe_cmp (pc_din (hu_of hr) (pv 1) (pe_fldK (K := K) rfl (pv 0) rfl)) rfl))))), ?_⟩
    rcases h with ⟨c, rfl, q⟩ | ⟨z, rfl, hz, h1, q⟩ | ⟨t, ty, e, q⟩
    · refine ⟨_, rfl, _, rfl, .inl ⟨c, rfl, _, rfl, ?_⟩⟩
      by_cases e : c ∈ abc
      · rw [decide_eq_true e]
        refine iteT ?_
        refine ⟨_, rfl, _, rfl, x, CM, dx, _, _, rfl, hx, T.cl, T.nI, f3_I a b c', b, _, rfl, DGet.k (k := Sum.inr (L1 c)) hb, ?_⟩
        rw [valV_enc, Option.isSome_map, look_ims]
        by_cases h : c ∈ keysOf u
        · rw [if_pos h]
          rw [decide_eq_true h] at q
          exact q
        · rw [if_neg h]
          rw [decide_eq_false h] at q
          exact q
      · rw [decide_eq_false e]
        refine iteF ?_
        rw [decide_eq_false (fun h => e (keysOf_mem.mp h).1)] at q
        exact q
    · refine ⟨_, rfl, _, rfl, .inr (.inl ⟨z, rfl, hz, h1, _, rfl, ?_⟩)⟩
      exact q
    · refine ⟨_, rfl, _, rfl, .inr (.inr ⟨t, ty, e, _, rfl, ?_⟩)⟩
      exact q
theorem ok_get {f : Addr} {fd : FuncData} (F : Fun K "__getitem__" "Misreading.__getitem__" s_Misreading_getitem f fd) (T : Tx K mg CM CJ) (D_is_letter : Df P w K mg base 1 "is_letter" (spIsLetter K)) : FnOk P w K mg base CX0 2 f fd ["self", "at"] (spGet CM) := by
  refine F.ok sc_Misreading_getitem (fun vs H Q E h => ?_) (fun cdv A outer s H vs Q E hr h => ?_)
  · obtain ⟨x, u, c, z, rfl, _⟩ := h
    rfl
  · obtain ⟨x, u, c, z, rfl, ⟨dx, a, b, c', hx, ha, hb, hc⟩, hm, hl, q⟩ := h
    refine ⟨_, (pss_cons (ps_if (pt_not (pt_val (pe_c D_is_letter hr (by decide) (by rfl) (pa_cons (pv 1) pa_nil))))
        (pss_one ps_never)
        pss_nil)
      (pss_cons (ps_if (pt_cmp (pc_dnotin (hu_of hr) (pv 1) (pe_fldK (K := K) rfl (pv 0) rfl)))
        (pss_one ps_never)
        pss_nil)
      (pss_one (ps_ret (pe_dget (hu_of hr) (pe_fldK (K := K) rfl (pv 0) rfl) (pv 1) (fun _ _ => rfl)))))), ?_⟩
    refine ⟨_, rfl, _, rfl, .inl ⟨c, rfl, ?_⟩⟩
    rw [decide_eq_true (keysOf_mem.mp hm).1]
    refine ⟨true, rfl, iteF ?_⟩
    refine ⟨_, rfl, _, rfl, x, CM, dx, _, _, rfl, hx, T.cl, T.nI, f3_I a b c', b, _, rfl, DGet.k (k := Sum.inr (L1 c)) hb, _, rfl, ?_⟩
    rw [valV_enc, Option.isSome_map, look_ims_some hm, hl]
    refine iteF ?_
    refine ⟨_, rfl, x, CM, dx, _, _, rfl, hx, T.cl, T.nI, f3_I a b c', _, rfl, b, V.str (Sx z), rfl, .inl ⟨_, Sum.inr (L1 c), .inl hb, rfl, by rw [valV_enc, look_ims_some hm, hl]; rfl⟩, ?_⟩
    exact q
end
end V8
set_option Elab.async false
set_option linter.all false
set_option maxRecDepth 100000
set_option maxHeartbeats 8000000
/-! Misreading: iteration, ==, str. -/
namespace V8
open PySem PySem.Spec PyProof.Rows L2
/-- the same images -/
def eqM (u v : Tab) : Prop := ∀ c ∈ abc, lookT u c = lookT v c
instance (u v : Tab) : Decidable (eqM u v) := inferInstanceAs (Decidable (∀ c ∈ abc, lookT u c = lookT v c))
theorem ims_len (u : Tab) : (ims u).length = (keysOf u).length := List.length_map ..
section
variable {P : Program} {w : World} {K : PySem.W.Frag} {mg : Str → Option Value} {base : Heap} {CM CJ : Addr}
theorem ok_iter {f : Addr} {fd : FuncData} (F : Fun K "__iter__" "Misreading.__iter__" s_Misreading_iter f fd) (T : Tx K mg CM CJ) : FnN P w K mg base CX0 1 f fd ["self"] (snIter CM) := by
  refine fnN_mk F sc_Misreading_iter (fun n vs H Q E h => ?_) (fun cdv A outer s H vs Q E hr h => ?_)
  · obtain ⟨x, u, rfl, _⟩ := h
    rfl
  · obtain ⟨x, u, rfl, ⟨dx, a, b, c, hx, ha, hb, hc⟩, q⟩ := h
    refine ⟨_, (pss_one (ps_ret (pe_callB call_iterT (by rfl) T.iter (by decide +kernel) (pa_cons (pe_fldK (K := K) rfl (pv 0) rfl) pa_nil)))), ?_⟩
    refine ⟨_, rfl, x, CM, dx, _, _, rfl, hx, T.cl, T.nL, f3_L a b c, a, _, rfl, .inl (.inl ha), fun it ni hi => ?_⟩
    exact q it a ni hi ha
end
end V8
set_option Elab.async false
set_option linter.all false
set_option maxRecDepth 100000
set_option maxHeartbeats 8000000
/-! The pen made; what is due. -/
namespace V8
open PySem PySem.Spec PyProof.Rows L2
def spPen (K : PySem.W.Frag) : Sp := fun vs H Q _ => ∃ (a : Addr) (ns : List Int), vs = [.ref a] ∧ SqL K H a (ns.map V.int) ∧ ns.length ≤ 63 ∧ ∀ (p l : Addr) (H' : Hp), H p = none → Same H H' → PenAt H' p l ns 1000000 → Q (.ref p) H'
section
variable {P : Program} {w : World} {K : PySem.W.Frag} {mg : Str → Option Value} {base : Heap} {CM CJ : Addr}
theorem ok_pen {f : Addr} {fd : FuncData} (F : Fun K "_law_pen" "_law_pen" s_pen f fd) (T : Blt mg) : FnOk P w K mg base CX0 1 f fd ["_law_script"] (spPen K) := by
  refine F.ok sc_pen (fun vs H Q E h => ?_) (fun cdv A outer s H vs Q E hr h => ?_)
  · obtain ⟨a, ns, rfl, _⟩ := h
    rfl
  · obtain ⟨a, ns, rfl, hS, hn, q⟩ := h
    refine ⟨_, (pss_one (ps_ret (pe_lst (pa_cons (pe_callTy (call_list_ofK (K := K) rfl) (by rfl) T.list (by decide +kernel) (pa_cons (pe_slice (sl_listK (K := K) rfl) (pv 0) po_none (po_some pe_int)) pa_nil)) (pa_cons pe_int (pa_cons pe_int pa_nil)))))), ?_⟩
    refine ⟨_, rfl, 63, rfl, a, ns.map V.int, rfl, hS, fun l1 n1 => ?_⟩
    have hc : cutV (ns.map V.int) none (some 63) = ns.map V.int := by
      have e : HT.sIx (ns.map V.int).length (ns.map V.int).length (some 63) = (ns.map V.int).length := by
        show HT.sIx _ _ (some ((63 : Nat) : Int)) = _
        rw [HT.sIx_nat, List.length_map]
        omega
      unfold cutV
      rw [HT.sIx_none, List.drop_zero, e]
      exact List.take_of_length_le (Nat.le_refl _)
    rw [hc]
    refine ⟨l1, ns.map V.int, rfl, .inl (SqL.of upd_same), fun l n2 => ⟨by show 3 ≤ sizeLine; decide, fun p n3 => ?_⟩⟩
    have h1 : l1 ≠ l := ne_of_none upd_same n2
    have hl : l ≠ p := ne_of_none upd_same n3
    have n2H : upd H l1 (.lst (ns.map V.int)) l = none := n2
    have sm : Same H (upd (upd (upd H l1 (.lst (ns.map V.int))) l (.lst (ns.map V.int))) p (.lst [.ref l, .int 0, .int 0])) := fun b o e => by
      have b1 := ne_of_none e n1
      have e1 : upd H l1 (.lst (ns.map V.int)) b = some o := by rw [upd_ne b1]; exact e
      have b2 := ne_of_none e1 n2
      have e2 : upd (upd H l1 (.lst (ns.map V.int))) l (.lst (ns.map V.int)) b = some o := by rw [upd_ne b2]; exact e1
      rw [upd_ne (ne_of_none e2 n3)]
      exact e2
    refine q p l _ ?_ sm ⟨⟨0, 0, upd_same, by omega, by omega, by omega⟩, by rw [upd_ne hl]; exact upd_same, hl, hn⟩
    cases e : H p with
    | none => rfl
    | some o =>
      have b1 := ne_of_none e n1
      have e1 : upd H l1 (.lst (ns.map V.int)) p = some o := by rw [upd_ne b1]; exact e
      have b2 := ne_of_none e1 n2
      rw [upd_ne b2, e1] at n3
      cases n3
end
end V8
set_option Elab.async false
set_option linter.all false
set_option maxRecDepth 100000
set_option maxHeartbeats 8000000
/-! Misreadings made by the class's name; same. -/
namespace V8
open PySem PySem.Spec PyProof.Rows L2
def mkR (CM : Addr) : List V → Hp → VK → Prop := fun vs H Q => ∃ (d : Addr) (cs st : List Nat) (t : Tab), vs = [.ref d, .str (Sx st)] ∧ H d = some (.dK (encT t)) ∧ GoodT cs t ∧ ((toldT st t).length ≤ 12 ∧ cs.length ≤ 26) ∧ (∀ c ∈ cs, isLt c) ∧ (∀ c ∈ st, c ∈ cs) ∧ st.length ≤ 500 ∧
  ∀ x H', H x = none → MisN CM H H' x (toldT st t) → Same H H' → Q (.ref x) H'
theorem misn_of {C : Addr} {H H' : Hp} {x dx : Addr} {u : Tab} {o o' : HO} (m : MisN C (upd (upd H dx o) x o') H' x u) (hx : H x = none) (hdx : H dx = none) : MisN C H H' x u := by
  obtain ⟨ex, a, b, c, h1, h2, h3, h4, n1, n2, n3⟩ := m.at_
  have back : ∀ b, upd (upd H dx o) x o' b = none → H b = none := fun b n => by
    cases e : H b with
    | none => rfl
    | some z =>
      rw [upd_ne (ne_of_none e hx), upd_ne (ne_of_none e hdx), e] at n
      cases n
  exact ⟨ex, a, b, c, h1, h2, h3, h4, back _ n1, back _ n2, back _ n3⟩
theorem mk_of {CM : Addr} {vs : List V} {H : Hp} {Q : VK} {E : XK} (h : mkR CM vs H Q) : ∀ x dx, H x = none → H dx = none → dx ≠ x → spInit CM (.ref x :: vs) (upd (upd H dx (.own x)) x (.ins CM dx [])) (fun v H2 => v = .non ∧ Q (.ref x) H2) E := by
  obtain ⟨d, cs, st, t, rfl, hd, G, h12, hlt, hst, hs5, q⟩ := h
  intro x dx hx hdx ne
  have hd2 : upd (upd H dx (.own x)) x (.ins CM dx []) d = some (.dK (encT t)) := by
    rw [upd_ne (ne_of_none hd hx), upd_ne (ne_of_none hd hdx)]
    exact hd
  refine ⟨x, dx, d, cs, st, t, rfl, upd_same, hd2, G, h12, hlt, hst, hs5, fun H' m fr => ⟨rfl, q x H' hx (misn_of m hx hdx) fun b o e => ?_⟩⟩
  have bx := ne_of_none e hx
  refine fr b o ?_ bx
  rw [upd_ne bx, upd_ne (ne_of_none e hdx)]
  exact e
def pI : List Str := ["self", "images", "keeps"]
/-- the class by its name -/
structure Mkr (P : Program) (w : World) (K : PySem.W.Frag) (mg : Str → Option Value) (base : Heap) (CM : Addr) : Prop where
  ex : ∃ (f : Addr) (fd : FuncData), Mk K CM f ∧ FnOk P w K mg base CX0 5 f fd pI (spInit CM) ∧ mg "Misreading" = some (.ref CM) ∧ Binds K fd pI [] ∧ (∃ ds, Vals [.str (Sx [])] ds ∧ Binds K fd pI ds) ∧
    KBn K fd pI 1 ["keeps", "images"] (fun us ws => us ++ ws.reverse) (fun vs zs => vs ++ zs.reverse) ∧ (∃ its : List Value, KBn K fd pI 1 ["images"] (fun us ws => us ++ ws ++ its) (fun vs zs => vs ++ zs ++ [.str (Sx [])])) ∧
    KBn K fd pI 2 ["keeps"] (fun us ws => us ++ ws) (fun vs zs => vs ++ zs)
def tMk2 (CM : Addr) (t : TA) : TE := fun σ H Q => t σ H fun vs H1 => mkR CM vs H1 Q
def tMk1 (CM : Addr) (t : TA) : TE := fun σ H Q => t σ H fun vs H1 => mkR CM (vs ++ [.str (Sx [])]) H1 Q
section
variable {X : Cx} {j : Nat} {CM : Addr} {p pos : Pos} {e : Expr} {es : List Expr} {kws : List Keyword} {t tk : TA}
theorem pe_mk2 (M : Mkr X.prog X.w X.K X.mg X.base CM) (hr : Room j X.A) (hj : 6 ≤ j) (hg : Gl X "Misreading") (ha : PA X (e :: es) t) (he : starEach (e :: es) X.env = (false, eval e X.env) :: starEach es X.env := by rfl) (hpl : (backTo pos (starEach es X.env)).any (·.1) = false := by rfl) :
    PE X (.Call (.Name "Misreading" p) (e :: es) [] pos) (tMk2 CM t) := by
  obtain ⟨f, fd, M, F, hm, b0, b1, k2, k1, k11⟩ := M.ex
  refine ⟨fun pins s σ H Q I h => ?_⟩
  refine wpAny_Call_Name_kw (ld_glob I hg hm ?_ (by decide))
  refine PySem.W.callWith_K (h₀ := X.base) I.ok.mod.kin M.kp (thn (ha.run pos pins s σ H _ I h) fun us s1 ⟨vs, H1, I1, r, q⟩ => ⟨I1.kIn, ?_⟩) he hpl
  exact run_make (dvs := []) (ds := []) M F (hr.mono hj) b0 .nil pass0 I1 r (by rw [List.append_nil]; exact mk_of q)
theorem pe_mk1 (M : Mkr X.prog X.w X.K X.mg X.base CM) (hr : Room j X.A) (hj : 6 ≤ j) (hg : Gl X "Misreading") (ha : PA X (e :: es) t) (he : starEach (e :: es) X.env = (false, eval e X.env) :: starEach es X.env := by rfl) (hpl : (backTo pos (starEach es X.env)).any (·.1) = false := by rfl) :
    PE X (.Call (.Name "Misreading" p) (e :: es) [] pos) (tMk1 CM t) := by
  obtain ⟨f, fd, M, F, hm, b0, ⟨ds, hd, b1⟩, k2, k1, k11⟩ := M.ex
  refine ⟨fun pins s σ H Q I h => ?_⟩
  refine wpAny_Call_Name_kw (ld_glob I hg hm ?_ (by decide))
  refine PySem.W.callWith_K (h₀ := X.base) I.ok.mod.kin M.kp (thn (ha.run pos pins s σ H _ I h) fun us s1 ⟨vs, H1, I1, r, q⟩ => ⟨I1.kIn, ?_⟩) he hpl
  exact run_make M F (hr.mono hj) b1 hd pass0 I1 r (mk_of q)
end
theorem vals_rev : ∀ {xs : List V} {us : List Value}, Vals xs us → Vals xs.reverse us.reverse
  | _, _, .nil => .nil
  | _, _, .cons h r => by
    rw [List.reverse_cons, List.reverse_cons]
    exact (vals_rev r).append (.cons h .nil)
/-- what K holds of the def, as the rules above want it -/
theorem mkr_of {P : Program} {w : World} {K : PySem.W.Frag} {mg : Str → Option Value} {base : Heap} {CM CJ f : Addr} {fd : FuncData} (F : FunD K "__init__" "Misreading.__init__" (defArgs s_Misreading_init) (defBody s_Misreading_init) (defScope s_Misreading_init) [.str (Sx [])] [] f fd) (T : Tx K mg CM CJ)
    (D_told_images : Df P w K mg base 4 "told_images" spTold) (M : Mk K CM f) (hm : mg "Misreading" = some (.ref CM)) : Mkr P w K mg base CM := by
  refine ⟨f, fd, M, ok_init F T D_told_images, hm, ?_, ?_, ?_, ?_, ?_⟩
  · obtain ⟨ds, h1, h2⟩ := F.binds1 (ps := pI) 3 1 (fun z => nomatch z) rfl (fun T kV doc pm an cdv ct us its h1 h2 => match us, its, h1, h2 with | [_, _, _], [_], _, _ => ⟨_, rfl, rfl⟩)
    cases h1
    exact h2
  · obtain ⟨ds, h1, h2⟩ := F.binds1 (ps := pI) 2 0 (fun z => nomatch z) rfl (fun T kV doc pm an cdv ct us its h1 h2 => match us, its, h1, h2 with | [_, _], [_], _, _ => ⟨_, rfl, rfl⟩)
    exact ⟨ds, h1, h2⟩
  · obtain ⟨its, h⟩ := F.kbindsD (ps := pI) 1 ["keeps", "images"] (fun us _ ws => us ++ ws.reverse) (fun z => nomatch z) (fun r1 _ r3 => r1.append (vals_rev r3)) (fun T kV doc pm an cdv ct us its ws h1 h2 h3 => match us, its, ws, h1, h2, h3 with | [_], [_], [_, _], _, _, _ => ⟨_, rfl, rfl⟩)
    exact h
  · obtain ⟨its, h⟩ := F.kbindsD (ps := pI) 1 ["images"] (fun us ds ws => us ++ ws ++ ds) (fun z => nomatch z) (fun r1 r2 r3 => (r1.append r3).append r2) (fun T kV doc pm an cdv ct us its ws h1 h2 h3 => match us, its, ws, h1, h2, h3 with | [_], [_], [_], _, _, _ => ⟨_, rfl, rfl⟩)
    exact ⟨its, h⟩
  · obtain ⟨its, h⟩ := F.kbindsD (ps := pI) 2 ["keeps"] (fun us _ ws => us ++ ws) (fun z => nomatch z) (fun r1 _ r3 => r1.append r3) (fun T kV doc pm an cdv ct us its ws h1 h2 h3 => match us, its, ws, h1, h2, h3 with | [_, _], [_], [_], _, _, _ => ⟨_, rfl, rfl⟩)
    exact h
end V8
set_option Elab.async false
set_option linter.all false
set_option maxRecDepth 100000
set_option maxHeartbeats 16000000
/-! Helps: lists compared, lists gathered, an own class iterated. -/
namespace V8
open PySem PySem.Spec PyProof.Rows L2
theorem dp_map {K : PySem.W.Frag} {H : Hp} {α : Type} (f : α → V) (g : α → PyData) (h : ∀ a, Dp K H (f a) (g a)) : ∀ l : List α, DpAll K H (l.map f) (l.map g)
  | [] => .nil
  | a :: r => .cons (h a) (dp_map f g h r)
theorem lay_map {α : Type} (g : α → PyData) : ∀ l : List α, (∀ a ∈ l, (g a).canLay0 = true) → PyData.canLayAll0 (l.map g) = true
  | [], _ => by simp [PyData.canLayAll0]
  | a :: r, h => by
    have ih := lay_map g r fun x hx => h x (List.mem_cons_of_mem _ hx)
    simp only [List.map_cons, PyData.canLayAll0, h a (List.mem_cons_self ..), Bool.true_and]
    exact ih
theorem depth_map {α : Type} (g : α → PyData) (h : ∀ a, (g a).depth = 0) : ∀ l : List α, PyData.depthAll (l.map g) = 0
  | [] => by simp [PyData.depthAll]
  | a :: r => by
    have ih := depth_map g h r
    simp only [List.map_cons, PyData.depthAll, h a]
    omega
theorem shaped_map {α : Type} (g : α → PyData) (l : List α) (h1 : ∀ a ∈ l, (g a).canLay0 = true) (h2 : ∀ a, (g a).depth = 0) : SeqAt.shaped (.list (l.map g)) = true := by
  have h3 : PyData.depth (.list (l.map g)) ≤ 64 := by
    simp only [PyData.depth, depth_map g h2]
    omega
  show (PyData.canLay0 (.list (l.map g)) && decide (PyData.depth (.list (l.map g)) ≤ 64)) = true
  rw [Bool.and_eq_true]
  exact ⟨by simp only [PyData.canLay0]; exact lay_map g l h1, decide_eq_true h3⟩
section
variable {K : PySem.W.Frag} {H : Hp} {a b : Addr} {Q : VK} {CM : Addr} {u : Tab}
theorem same_put {H H' : Hp} {D : Addr} {o : HO} (s : Same H H') (n : H' D = none) : Same H (upd H' D o) := fun b u e => by
  rw [upd_ne (ne_of_none (s b u e) n)]
  exact s b u e
theorem same_over {H H' : Hp} {D : Addr} {o : HO} (s : Same H H') (n : H D = none) : Same H (upd H' D o) := fun b u e => by
  rw [upd_ne (ne_of_none e n)]
  exact s b u e
theorem same_none {H H' : Hp} {D : Addr} (s : Same H H') (n : H' D = none) : H D = none := by
  cases e : H D with
  | none => rfl
  | some o =>
    rw [s _ _ e] at n
    cases n
theorem MisAt.same {C : Addr} {H H' : Hp} {x : Addr} {u : Tab} (m : MisAt C H x u) (s : Same H H') : MisAt C H' x u := m.mono fun b o e _ => s b o e
theorem dropH_upd {H : Hp} {it : Addr} {o : HO} (n : H it = none) : ItX.dropH (upd H it o) it = H := by
  funext b
  unfold ItX.dropH
  by_cases h : b = it
  · rw [if_pos h, h, n]
  · rw [if_neg h, upd_ne h]
end
end V8
set_option Elab.async false
set_option linter.all false
set_option maxRecDepth 100000
set_option maxHeartbeats 8000000
/-! Misreading: str. -/
namespace V8
open PySem PySem.Spec PyProof.Rows L2
theorem sx_add (a b : List Nat) : Sx a ++ Sx b = Sx (a ++ b) := by
  show (Str.mk (a.toArray ++ b.toArray)) = Str.mk _
  rw [List.append_toArray]
theorem colon : (":" : Str) = Sx [58] := by decide +kernel
theorem emp : Str.empty = Sx [] := rfl
def wordM (c : Nat) (s : List Nat) : Str := Sx (c :: 58 :: s)
def wordsM (u : Tab) (ks : List Nat) : List Str := ks.map fun c => wordM c ((lookT u c).getD [])
def strM (u : Tab) : Str := if keysOf u = [] then "-" else Txt.join " " (wordsM u (keysOf u))
def SmallT (u : Tab) : Prop := ∀ c s, lookT u c = some s → s.length ≤ 64
def spStr (CM : Addr) : Sp := fun vs H Q _ => ∃ (x : Addr) (u : Tab), vs = [.ref x] ∧ MisAt CM H x u ∧ SmallT u ∧ ∀ H', Same H H' → Q (.str (strM u)) H'
theorem sum_le (f : Str → Nat) (k : Nat) : ∀ l : List Str, (∀ x ∈ l, f x ≤ k) → (l.map f).sum ≤ k * l.length
  | [], _ => Nat.le_refl _
  | a :: r, h => by
    rw [List.map_cons, List.sum_cons, List.length_cons]
    have h1 := h a (List.mem_cons_self ..)
    have h2 := sum_le f k r fun x hx => h x (List.mem_cons_of_mem _ hx)
    rw [Nat.mul_succ]
    omega
theorem lets_isEmpty (cs : List Nat) : (lets cs).isEmpty = cs.isEmpty := by cases cs <;> rfl
section
variable {P : Program} {w : World} {K : PySem.W.Frag} {mg : Str → Option Value} {base : Heap} {CM CJ : Addr}
theorem ok_str {f : Addr} {fd : FuncData} (F : Fun K "__str__" "Misreading.__str__" s_Misreading_str f fd) (T : Ty K mg CM CJ) : FnOk P w K mg base CX0 1 f fd ["self"] (spStr CM) := by
  refine F.ok sc_Misreading_str (fun vs H Q E h => ?_) (fun cdv A outer s H vs Q E hr h => ?_)
  · obtain ⟨x, u, rfl, _⟩ := h
    rfl
  · obtain ⟨x, u, rfl, ⟨dx, a, b, c', hx, ha, hb, hc⟩, sm, q⟩ := h
    refine ⟨_, (pss_cons (ps_if (pt_not (pt_truth (pe_fldK (K := K) rfl (pv 0) rfl) (by intro _; rfl)))
        (pss_one (ps_ret pe_str))
        pss_nil)
      (pss_one (ps_ret (pe_joinK (K := K) rfl pe_str (pe_lc (own := [("letter", 1)]) (g := gName 1) (by rfl) sc_Misreading_str.nd (pi_tup (pe_fldK (K := K) rfl (pv 0) rfl)) (blkOk_by (own := [("letter", 1)]) (N := n_Misreading_str) (sc := defScope s_Misreading_str) (by decide +kernel)) (fun _ _ _ _ _ => (pg_name (i := 1) sc_Misreading_str.nd rfl (.inl rfl))) (fun _ _ _ _ _ => pts_nil) (fun _ _ _ _ _ => (pe_joinedT (pj_cons (pe_fmt (pv 1)) (pj_cons pe_str (pj_cons (pe_fmt (pe_dget (hu_of hr) (pe_fldK (K := K) rfl (pv 0) rfl) (pv 1) (fun _ _ => rfl))) pj_nil)))))))))), ?_⟩
    refine ⟨_, rfl, x, CM, dx, _, _, rfl, hx, T.cl, T.nL, f3_L a b c', _, .inr (.inl ⟨_, .inl (.inl ha), rfl⟩), ?_⟩
    rw [lets_isEmpty]
    by_cases e : keysOf u = []
    · have es : strM u = "-" := if_pos e
      rw [e]
      refine iteT ?_
      show Q (V.str "-") H
      rw [← es]
      exact q H (Same.refl H)
    · have es : strM u = Txt.join " " (wordsM u (keysOf u)) := if_neg e
      have ee : (keysOf u).isEmpty = false := by
        cases h : keysOf u with
        | nil => exact absurd h e
        | cons a r => rfl
      rw [ee]
      refine iteF ?_
      refine ⟨⟨_, rfl⟩, _, rfl, x, CM, dx, _, _, rfl, hx, T.cl, T.nL, f3_L a b c', a, rfl, ⟨_, .inl (.inl ha)⟩, fun D nD => lc_it (walk_tup (K := K) (a := a) (xs := lets (keysOf u))) (fun i H2 => H2 = upd H D (.lst ((wordsM u ((keysOf u).take i)).map V.str))) rfl ?_ ?_ ?_⟩
      · rintro i H2 hi rfl
        exact .inl (.inl (by rw [upd_ne (ne_of_none ha nD)]; exact ha))
      · rintro i z H2 H2' hi rfl ⟨rfl, hz⟩
        obtain ⟨hik, rfl⟩ := lets_get hz
        obtain ⟨s2, e2⟩ := Option.isSome_iff_exists.mp (List.mem_filter.mp (List.getElem_mem hik)).2
        have hx2 : upd H D (.lst ((wordsM u ((keysOf u).take i)).map V.str)) x = some (.ins CM dx (f3 a b c')) := by rw [upd_ne (ne_of_none hx nD)]; exact hx
        have hb2 : upd H D (.lst ((wordsM u ((keysOf u).take i)).map V.str)) b = some (.dK (encT (ims u))) := by rw [upd_ne (ne_of_none hb nD)]; exact hb
        have s64 := sm _ _ e2
        have l1 : (Str.empty ++ L1 (keysOf u)[i]) = Sx [(keysOf u)[i]] := by rw [emp, L1_Sx, sx_add]; rfl
        have l2 : ((Str.empty ++ L1 (keysOf u)[i]) ++ (":" : Str)) = Sx [(keysOf u)[i], 58] := by rw [l1, colon, sx_add]; rfl
        have l3 : (((Str.empty ++ L1 (keysOf u)[i]) ++ (":" : Str)) ++ Sx s2) = wordM (keysOf u)[i] s2 := by rw [l2, sx_add]; rfl
        refine ⟨rfl, _, rfl, .inl ⟨L1 (keysOf u)[i], rfl, by show 1 ≤ sizeLine; decide, L1 (keysOf u)[i], rfl, ?_, _, rfl, ?_, ?_⟩⟩
        · rw [l1]
          show 1 ≤ sizeLine
          decide
        · rw [l2]
          show 2 ≤ sizeLine
          decide
        · refine ⟨_, rfl, x, CM, dx, _, _, rfl, hx2, T.cl, T.nI, f3_I a b c', _, rfl, b, V.str (Sx s2), rfl, .inl ⟨_, Sum.inr (L1 (keysOf u)[i]), .inl hb2, rfl, by rw [valV_enc, look_ims_some (List.getElem_mem hik), e2]; rfl⟩, .inl ⟨Sx s2, rfl, ?_, Sx s2, rfl, ?_, _, upd_same, ?_, ?_⟩⟩
          · rw [Sx_len]
            exact Nat.le_of_lt (small1000 (by omega))
          · rw [l3]
            show (Sx _).length ≤ _
            rw [Sx_len, List.length_cons, List.length_cons]
            exact Nat.le_of_lt (small1000 (by omega))
          · rw [List.length_map]
            unfold wordsM
            rw [List.length_map, List.length_take]
            have := keysOf_len u
            exact small1000 (by omega)
          · rw [upd_upd, l3]
            congr 2
            unfold wordsM
            rw [List.take_add_one, List.getElem?_eq_getElem hik, List.map_append, List.map_append]
            show _ ++ [V.str (wordM (keysOf u)[i] s2)] = _ ++ [V.str (wordM (keysOf u)[i] ((lookT u (keysOf u)[i]).getD []))]
            rw [e2]
            rfl
      · rintro H2 rfl
        rw [lets_len, List.take_length]
        refine ⟨_, D, wordsM u (keysOf u), rfl, rfl, .inl (SqL.of upd_same), ?_, ?_⟩
        · have hk := keysOf_len u
          have h1 : ((wordsM u (keysOf u)).map fun x => x.length).sum ≤ _ := sum_le (fun x => x.length) 66 (wordsM u (keysOf u)) fun x hx => by
            obtain ⟨c, hc, rfl⟩ := List.mem_map.mp hx
            obtain ⟨s2, e2⟩ := Option.isSome_iff_exists.mp (keysOf_mem.mp hc).2
            rw [e2]
            show (Sx _).length ≤ _
            rw [Sx_len, List.length_cons, List.length_cons]
            have := sm _ _ e2
            show s2.length + 1 + 1 ≤ _
            omega
          have h2 : (wordsM u (keysOf u)).length = (keysOf u).length := List.length_map ..
          rw [h2] at h1 ⊢
          show _ + _ * 1 ≤ _
          have h3 : 66 * (keysOf u).length ≤ 66 * 26 := Nat.mul_le_mul_left _ hk
          omega
        · rw [← es]
          exact q _ fun b o e => by
            rw [upd_ne (ne_of_none e nD)]
            exact e
end
end V8
set_option Elab.async false
set_option linter.all false
set_option maxRecDepth 100000
set_option maxHeartbeats 16000000
/-! Whether a misreading is right. -/
namespace V8
open PySem PySem.Spec PyProof.Rows L2
theorem ok_sx {cs : List Nat} (h : ∀ c ∈ cs, isLt c) : PyData.strOk (Sx cs) = true := by
  have e : (Sx cs).cps = cs.toArray := rfl
  unfold PyData.strOk
  rw [e, List.all_toArray, List.all_eq_true]
  intro c hc
  have := (h c hc).2
  exact decide_eq_true (show c < 0x110000 by omega)
theorem join_Sx : ∀ ss : List (List Nat), Txt.join Str.empty (ss.map Sx) = Sx ss.flatten := by
  intro ss
  rw [TL.join_eq]
  have h : TL.tl (Str.join Str.empty (ss.map Sx)) = ss.flatten := by
    rw [TL.tl_join]
    have : ∀ l : List (List Nat), TL.joinL (TL.tl Str.empty) ((l.map Sx).map TL.tl) = l.flatten := by
      intro l
      induction l with
      | nil => rfl
      | cons c r ih =>
        cases r with
        | nil =>
          show TL.tl (Sx c) = [c].flatten
          simp
          rfl
        | cons d r =>
          show TL.tl (Sx c) ++ (TL.tl Str.empty ++ TL.joinL (TL.tl Str.empty) ((((d :: r).map Sx).map TL.tl))) = _
          rw [ih]
          rfl
    exact this ss
  have e2 : (Str.join Str.empty (ss.map Sx)).cps.toList = ss.flatten := h
  show Str.join Str.empty (ss.map Sx) = Sx _
  unfold Sx at e2 ⊢
  cases hx : Str.join Str.empty (ss.map fun cs => (⟨cs.toArray⟩ : Str)) with
  | mk a =>
    rw [hx] at e2
    have e3 : a.toList = ss.flatten := e2
    rw [← e3]
/-- iteration of the class's own -/
structure ItM (P : Program) (w : World) (K : PySem.W.Frag) (mg : Str → Option Value) (base : Heap) (k : Nat) (C : Addr) (sn : Nat → Sp) : Prop where
  ex : ∃ (f : Addr) (fd : FuncData) (ps : List Str), FnN P w K mg base CX0 k f fd ps sn ∧ Own K C "__iter__" f ∧ Binds K fd ps []
theorem pi_ownI {X : Cx} {k j : Nat} {C : Addr} {sn : Nat → Sp} {tg l : Expr} {tl : TE} (c : ItM X.prog X.w X.K X.mg X.base k C sn) (hr : Room j X.A) (hk : k ≤ j) (hl : PE X l tl) : PI X tg l (iOwn X.K C X.s_0.heap.objs.size sn E0 tl) := by
  obtain ⟨f, fd, ps, F, o, b⟩ := c.ex
  exact pi_own F b pass0 o (hr.mono hk) hl
end V8
set_option Elab.async false
set_option linter.all false
set_option maxRecDepth 100000
set_option maxHeartbeats 16000000
/-! same; whether a misreading is equal to what has the same images, and to nothing else. -/
namespace V8
open PySem PySem.Spec PyProof.Rows L2
def spSame (CM : Addr) : Sp := fun vs H Q _ => ∃ (cs st : List Nat), vs = [.str (Sx st)] ∧ cs.length ≤ 12 ∧ (∀ c ∈ cs, isLt c) ∧ (∀ c ∈ st, c ∈ cs) ∧ st.length ≤ 500 ∧ ∀ x H', H x = none → MisAt CM H' x (toldT st []) → Same H H' → Q (.ref x) H'
structure Sms (P : Program) (w : World) (K : PySem.W.Frag) (mg : Str → Option Value) (base : Heap) (CM : Addr) : Prop where
  ex : ∃ (p g : Addr) (fd : FuncData) (mc : Value), ClX.CRead K CM mc ∧ SMet K CM mc "same" p g ∧ FnOk P w K mg base CX0 7 g fd ["letters"] (spSame CM) ∧ Binds K fd ["letters"] [] ∧ KBinds K fd ["letters"] ["letters"] (fun us ws => us ++ ws) (fun vs zs => vs ++ zs)
section
variable {X : Cx} {j : Nat} {CM : Addr} {o e : Expr} {es : List Expr} {pos apos : Pos} {ta : TE} {t : TA} {pl : Sem Bool}
theorem pe_sm (c : Sms X.prog X.w X.K X.mg X.base CM) (hr : Room j X.A) (hj : 7 ≤ j) (he : PE X o ta) (ha : PA X (e :: es) t)
    (hst : starEach (e :: es) X.env = (false, eval e X.env) :: starEach es X.env := by rfl) (hpl : (backTo pos (starEach es X.env)).any (·.1) = false := by rfl)
    (ht : eval (.Call (.Attribute o "same" apos) (e :: es) [] pos) X.env = (do
      let ov ← eval o X.env
      standAt apos.atName
      let (f, first) ← holding [ov] (getMethod ov "same" pl)
      callWith pos f first (backTo pos (starEach (e :: es) X.env)) (backToKw pos (keywordEach [] X.env))) := by rfl) :
    PE X (.Call (.Attribute o "same" apos) (e :: es) [] pos) (tSMeth CM (spSame CM) E0 ta t) := by
  obtain ⟨p, g, fd, mc, r, m, F, b, kb⟩ := c.ex
  exact pe_smeth (pl := pl) he r m F (hr.mono hj) b pass0 ha hst hpl ht
end
/-! ### tables -/
theorem putT_new {t : Tab} {c : Nat} {s : List Nat} (h : c ∉ t.map (·.1)) : putT t c s = t ++ [(c, s)] := by
  unfold putT
  rw [if_neg]
  intro z
  obtain ⟨q, hq, e⟩ := List.any_eq_true.mp z
  have e' : q.1 = c := by simpa using e
  exact h (List.mem_map.mpr ⟨q, hq, e'⟩)
theorem mergeT_app : ∀ {t a : Tab}, ((a ++ t).map (·.1)).Nodup → mergeT a t = a ++ t
  | [], a, _ => by rw [List.append_nil]; rfl
  | q :: t, a, h => by
    have hq : q.1 ∉ a.map (·.1) := by
      rw [List.map_append, List.nodup_append] at h
      intro z
      exact h.2.2 _ z q.1 (by simp) rfl
    show mergeT (putT a q.1 q.2) t = _
    rw [putT_new hq, mergeT_app (t := t) (a := a ++ [(q.1, q.2)])]
    · rw [List.append_assoc]
      rfl
    · rw [List.append_assoc]
      exact h
theorem mergeT_nil {t : Tab} (h : (t.map (·.1)).Nodup) : mergeT [] t = t := mergeT_app (a := []) h
theorem toldT_nil {t : Tab} (h : (t.map (·.1)).Nodup) : toldT [] t = t := mergeT_nil h
theorem look_mem : ∀ {t : Tab} {c : Nat} {s : List Nat}, (t.map (·.1)).Nodup → (c, s) ∈ t → lookT t c = some s := by
  intro t c s nd h
  obtain ⟨i, hi, e⟩ := List.getElem_of_mem h
  have z := look_at nd hi
  rw [e] at z
  exact z
theorem rev_nd {t : Tab} (n : (t.map (·.1)).Nodup) : (t.reverse.map (·.1)).Nodup := by
  rw [List.map_reverse]
  exact (List.reverse_perm _).nodup_iff.mpr n
theorem GoodT.rev {cs : List Nat} {t : Tab} (g : GoodT cs t) : GoodT cs t.reverse := ⟨rev_nd g.nd, fun q h => g.key q (List.mem_reverse.mp h), fun q h => g.img q (List.mem_reverse.mp h)⟩
def dropT (t : Tab) (c : Nat) : Tab := t.filter fun q => decide (q.1 ≠ c)
theorem GoodT.drop {cs : List Nat} {t : Tab} (g : GoodT cs t) (c : Nat) : GoodT cs (dropT t c) := ⟨(List.filter_sublist.map _).nodup g.nd, fun q h => g.key q (List.mem_filter.mp h).1, fun q h => g.img q (List.mem_filter.mp h).1⟩
theorem enc_inj {a b : Option (List Nat)} (h : a.map (fun s => V.str (Sx s)) = b.map fun s => V.str (Sx s)) : a = b := by
  cases a with
  | none =>
    cases b with
    | none => rfl
    | some y => cases h
  | some x =>
    cases b with
    | none => cases h
    | some y => rw [Sx_inj (V.str.inj (Option.some.inj h))]
theorem look_put (t : Tab) (c : Nat) (s : List Nat) (c' : Nat) : lookT (putT t c s) c' = if c' = c then some s else lookT t c' := by
  have e := valV_put (encT t) (Sum.inr (L1 c)) (Sum.inr (L1 c')) (V.str (Sx s))
  rw [putK_enc, valV_enc, valV_enc] at e
  refine enc_inj ?_
  rw [e]
  by_cases h : c' = c
  · rw [if_pos h, if_pos ((key_iff _ _).mpr h)]
    rfl
  · rw [if_neg h, if_neg fun z => h ((key_iff _ _).mp z)]
theorem pen_same {H H' : Hp} {p l : Addr} {ns : List Int} {n : Nat} (P : PenAt H p l ns n) (s : Same H H') : PenAt H' p l ns n := by
  obtain ⟨⟨a, g, h1, h2, h3, h4⟩, i, e, sh⟩ := P
  exact ⟨⟨a, g, s _ _ h1, h2, h3, h4⟩, s _ _ i, e, sh⟩
theorem mis_fr {C : Addr} {H H' : Hp} {x p l : Addr} {u : Tab} {ns : List Int} {n : Nat} (m : MisAt C H x u) (P : PenAt H p l ns n) (f : Fr p H H') : MisAt C H' x u := m.mono fun b o e hl => f b o e fun z => by
  obtain ⟨xs, hp⟩ := P.pen
  rw [z] at e
  rw [hp] at e
  exact hl xs (Option.some.inj e).symm
section
variable {P : Program} {w : World} {K : PySem.W.Frag} {mg : Str → Option Value} {base : Heap} {CM CJ : Addr}
theorem MisAt.ins {C : Addr} {H : Hp} {x : Addr} {u : Tab} (m : MisAt C H x u) : ∃ dx fs, H x = some (.ins C dx fs) := by
  obtain ⟨dx, a, b, c, h, _⟩ := m.at_
  exact ⟨dx, _, h⟩
end
end V8
set_option Elab.async false
set_option linter.all false
set_option maxRecDepth 100000
set_option maxHeartbeats 8000000
/-! Misreadings as functions from letters to images. -/
namespace V8
open PySem PySem.Spec PyProof.Rows L2
/-! functions from letters to images -/
abbrev Fu := Nat → Option (List Nat)
def imF (f : Fu) : List Nat → Option (List Nat)
  | [] => some []
  | c :: cs => (f c).bind fun a => (imF f cs).map (a ++ ·)
theorem imF_app (f : Fu) : ∀ a b : List Nat, imF f (a ++ b) = (imF f a).bind fun x => (imF f b).map (x ++ ·)
  | [], b => by
    show imF f b = (imF f b).map ([] ++ ·)
    cases imF f b <;> rfl
  | c :: a, b => by
    show (f c).bind (fun z => (imF f (a ++ b)).map (z ++ ·)) = ((f c).bind fun z => (imF f a).map (z ++ ·)).bind _
    rw [imF_app f a b]
    cases f c with
    | none => rfl
    | some z =>
      cases imF f a with
      | none => rfl
      | some x =>
        cases imF f b with
        | none => rfl
        | some y =>
          show some (z ++ (x ++ y)) = some ((z ++ x) ++ y)
          rw [List.append_assoc]
def cF (f g : Fu) : Fu := fun c => (f c).bind (imF g)
theorem imF_cF (f g : Fu) : ∀ w : List Nat, imF (cF f g) w = (imF f w).bind (imF g)
  | [] => rfl
  | c :: w => by
    show ((f c).bind (imF g)).bind (fun a => (imF (cF f g) w).map (a ++ ·)) = ((f c).bind fun a => (imF f w).map (a ++ ·)).bind (imF g)
    rw [imF_cF f g w]
    cases f c with
    | none => rfl
    | some z =>
      cases h : imF f w with
      | none =>
        show (imF g z).bind (fun a => Option.map (a ++ ·) none) = none
        cases imF g z <;> rfl
      | some x =>
        show (imF g z).bind (fun a => (imF g x).map (a ++ ·)) = imF g (z ++ x)
        rw [imF_app]
/-- letters that stay -/
def idF (cs : List Nat) : Fu := fun c => if c ∈ cs then some [c] else none
theorem imF_id {cs : List Nat} : ∀ {w : List Nat}, (∀ c ∈ w, c ∈ cs) → imF (idF cs) w = some w
  | [], _ => rfl
  | c :: w, h => by
    show (if c ∈ cs then some [c] else none).bind (fun a => (imF (idF cs) w).map (a ++ ·)) = _
    rw [if_pos (h c (List.mem_cons_self ..)), imF_id fun x hx => h x (List.mem_cons_of_mem _ hx)]
    rfl
/-- over letters cs alone, in images too -/
structure Ovr (cs : List Nat) (f : Fu) : Prop where
  key : ∀ c s, f c = some s → c ∈ cs
  img : ∀ c s, f c = some s → ∀ d ∈ s, d ∈ cs
theorem cF_id {cs : List Nat} {f : Fu} (o : Ovr cs f) : cF f (idF cs) = f := by
  funext c
  show (f c).bind (imF (idF cs)) = f c
  cases h : f c with
  | none => rfl
  | some s => exact imF_id (o.img c s h)
theorem imF_over {cs : List Nat} {f : Fu} (o : Ovr cs f) : ∀ {w s : List Nat}, imF f w = some s → ∀ d ∈ s, d ∈ cs
  | [], s, h, d, hd => by
    cases Option.some.inj h
    cases hd
  | c :: w, s, h, d, hd => by
    have h' : (f c).bind (fun a => (imF f w).map (a ++ ·)) = some s := h
    cases e : f c with
    | none =>
      rw [e] at h'
      cases h'
    | some z =>
      cases e2 : imF f w with
      | none =>
        rw [e, e2] at h'
        cases h'
      | some x =>
        rw [e, e2] at h'
        have h3 : z ++ x = s := Option.some.inj h'
        rw [← h3] at hd
        rcases List.mem_append.mp hd with q | q
        · exact o.img c z e d q
        · exact imF_over o e2 d q
/-- images of at most n letters -/
def Bnd (n : Nat) (f : Fu) : Prop := ∀ c s, f c = some s → s.length ≤ n
theorem imF_len {n : Nat} {f : Fu} (b : Bnd n f) : ∀ {w s : List Nat}, imF f w = some s → s.length ≤ n * w.length
  | [], s, h => by
    cases Option.some.inj h
    exact Nat.zero_le _
  | c :: w, s, h => by
    have h' : (f c).bind (fun a => (imF f w).map (a ++ ·)) = some s := h
    cases e : f c with
    | none =>
      rw [e] at h'
      cases h'
    | some z =>
      cases e2 : imF f w with
      | none =>
        rw [e, e2] at h'
        cases h'
      | some x =>
        rw [e, e2] at h'
        have h3 : z ++ x = s := Option.some.inj h'
        have h1 := b c z e
        have h2 := imF_len b e2
        rw [← h3, List.length_append, List.length_cons, Nat.mul_succ]
        omega
theorem Bnd.comp {a b : Nat} {f g : Fu} (hf : Bnd a f) (hg : Bnd b g) : Bnd (b * a) (cF f g) := fun c s h => by
  have h' : (f c).bind (imF g) = some s := h
  cases e : f c with
  | none =>
    rw [e] at h'
    cases h'
  | some z =>
    rw [e] at h'
    exact Nat.le_trans (imF_len hg h') (Nat.mul_le_mul_left _ (hf c z e))
theorem Bnd.le {a b : Nat} {f : Fu} (h : Bnd a f) (l : a ≤ b) : Bnd b f := fun c s e => Nat.le_trans (h c s e) l
theorem Bnd.id {cs : List Nat} : Bnd 1 (idF cs) := fun c s h => by
  have h' : (if c ∈ cs then some [c] else none) = some s := h
  by_cases e : c ∈ cs
  · rw [if_pos e] at h'
    cases Option.some.inj h'
    exact Nat.le_refl _
  · rw [if_neg e] at h'
    cases h'
theorem Ovr.id {cs : List Nat} : Ovr cs (idF cs) := by
  refine ⟨fun c s h => ?_, fun c s h d hd => ?_⟩ <;>
  · have h' : (if c ∈ cs then some [c] else none) = some s := h
    by_cases e : c ∈ cs
    · first
      | exact e
      | rw [if_pos e] at h'
        cases Option.some.inj h'
        rw [List.mem_singleton.mp hd]
        exact e
    · rw [if_neg e] at h'
      cases h'
/-- cut to the letters of a text -/
def oF (f : Fu) (w : List Nat) : Fu := fun c => if c ∈ w then f c else none
theorem imF_oF (f : Fu) (w : List Nat) : ∀ {ws : List Nat}, (∀ c ∈ ws, c ∈ w) → imF (oF f w) ws = imF f ws
  | [], _ => rfl
  | c :: ws, h => by
    show (if c ∈ w then f c else none).bind (fun a => (imF (oF f w) ws).map (a ++ ·)) = (f c).bind (fun a => (imF f ws).map (a ++ ·))
    rw [if_pos (h c (List.mem_cons_self ..)), imF_oF f w fun x hx => h x (List.mem_cons_of_mem _ hx)]
theorem Bnd.only {n : Nat} {f : Fu} (b : Bnd n f) (w : List Nat) : Bnd n (oF f w) := fun c s h => by
  have h' : (if c ∈ w then f c else none) = some s := h
  by_cases e : c ∈ w
  · rw [if_pos e] at h'
    exact b c s h'
  · rw [if_neg e] at h'
    cases h'
theorem Ovr.only {cs : List Nat} {f : Fu} (o : Ovr cs f) (w : List Nat) : Ovr cs (oF f w) := by
  have h : ∀ c s, oF f w c = some s → f c = some s := fun c s h => by
    have h' : (if c ∈ w then f c else none) = some s := h
    by_cases e : c ∈ w
    · rw [if_pos e] at h'
      exact h'
    · rw [if_neg e] at h'
      cases h'
  exact ⟨fun c s e => o.key c s (h c s e), fun c s e => o.img c s (h c s e)⟩
/-- each letter of the one has the same image by the other -/
def leF (f g : Fu) : Prop := ∀ c s, f c = some s → g c = some s
theorem oF_le (f : Fu) (w : List Nat) : leF (oF f w) f := fun c s h => by
  have h' : (if c ∈ w then f c else none) = some s := h
  by_cases e : c ∈ w
  · rw [if_pos e] at h'
    exact h'
  · rw [if_neg e] at h'
    cases h'
/-- both together -/
def uF (f g : Fu) : Fu := fun c => (g c).orElse fun _ => f c
theorem imF_none {f : Fu} : ∀ {w : List Nat}, imF f w = none ↔ ∃ c ∈ w, f c = none
  | [] => by
    constructor
    · intro h
      cases h
    · rintro ⟨c, h, _⟩
      cases h
  | c :: w => by
    have ih := imF_none (f := f) (w := w)
    show (f c).bind (fun a => (imF f w).map (a ++ ·)) = none ↔ _
    cases e : f c with
    | none => exact ⟨fun _ => ⟨c, List.mem_cons_self .., e⟩, fun _ => rfl⟩
    | some z =>
      constructor
      · intro h
        cases e2 : imF f w with
        | some x =>
          rw [e2] at h
          cases h
        | none =>
          obtain ⟨d, h1, h2⟩ := ih.mp e2
          exact ⟨d, List.mem_cons_of_mem _ h1, h2⟩
      · rintro ⟨d, h1, h2⟩
        rcases List.mem_cons.mp h1 with q | q
        · rw [q, e] at h2
          cases h2
        · rw [ih.mpr ⟨d, q, h2⟩]
          rfl
theorem imF_some {f : Fu} : ∀ {w : List Nat}, (∀ c ∈ w, (f c).isSome = true) → imF f w = some ((w.map fun c => (f c).getD []).flatten)
  | [], _ => rfl
  | c :: w, h => by
    show (f c).bind (fun a => (imF f w).map (a ++ ·)) = _
    rw [imF_some fun x hx => h x (List.mem_cons_of_mem _ hx)]
    have h1 := h c (List.mem_cons_self ..)
    cases e : f c with
    | none =>
      rw [e] at h1
      cases h1
    | some z =>
      show some (z ++ _) = _
      rw [List.map_cons, List.flatten_cons, e]
      rfl
/-! what a Misreading's table tells -/
def lk (u : Tab) : Fu := fun c => if c ∈ abc then lookT u c else none
theorem lk_mem {u : Tab} {c : Nat} : c ∈ keysOf u ↔ (lk u c).isSome = true := by
  rw [keysOf_mem]
  show _ ↔ (if c ∈ abc then lookT u c else none).isSome = true
  by_cases h : c ∈ abc
  · rw [if_pos h]
    exact ⟨fun z => z.2, fun z => ⟨h, z⟩⟩
  · rw [if_neg h]
    exact ⟨fun z => absurd z.1 h, fun z => by cases z⟩
theorem lk_look {u : Tab} {c : Nat} (h : c ∈ keysOf u) : lookT u c = lk u c := by
  show _ = (if c ∈ abc then lookT u c else none)
  rw [if_pos (keysOf_mem.mp h).1]
theorem lk_some {u : Tab} {c : Nat} {s : List Nat} (h : lk u c = some s) : c ∈ keysOf u ∧ lookT u c = some s := by
  have m : c ∈ keysOf u := lk_mem.mpr (by rw [h]; rfl)
  exact ⟨m, (lk_look m).trans h⟩
theorem lk_not {u : Tab} {c : Nat} (h : c ∉ keysOf u) : lk u c = none := by
  cases e : lk u c with
  | none => rfl
  | some s => exact absurd (lk_some e).1 h
theorem keys_abc {u : Tab} {c : Nat} (h : c ∈ keysOf u) : c ∈ abc := (keysOf_mem.mp h).1
/-- a table told over letters cs -/
theorem good_over {cs : List Nat} {t : Tab} (g : GoodT cs t) : Ovr cs (lk t) := ⟨fun c s h => g.key _ (look_in (lk_some h).2), fun c s h => (g.img _ (look_in (lk_some h).2)).2.2⟩
theorem good_bnd {cs : List Nat} {t : Tab} (g : GoodT cs t) : Bnd 4 (lk t) := fun c s h => (g.img _ (look_in (lk_some h).2)).2.1
theorem imF_look {u : Tab} {cs : List Nat} (h : ∀ c ∈ cs, c ∈ keysOf u) : imF (lk u) cs = some ((cs.map fun c => (lookT u c).getD []).flatten) := by
  rw [imF_some fun c hc => lk_mem.mp (h c hc)]
  have e : (cs.map fun c => (lk u c).getD []) = cs.map fun c => (lookT u c).getD [] := List.map_congr_left fun c hc => by rw [lk_look (h c hc)]
  rw [e]
theorem imF_keys {u : Tab} {cs r : List Nat} (h : imF (lk u) cs = some r) : ∀ c ∈ cs, c ∈ keysOf u := fun c hc => by
  by_cases m : c ∈ keysOf u
  · exact m
  · have e := imF_none.mpr ⟨c, hc, lk_not m⟩
    rw [h] at e
    cases e
/-- tables put together letter by letter -/
theorem look_app {t : Tab} {c : Nat} {s : List Nat} (h : c ∉ t.map (·.1)) (c' : Nat) : lookT (t ++ [(c, s)]) c' = if c' = c then some s else lookT t c' := by
  rw [← putT_new h, look_put]
/-- the table that f makes of the letters ks -/
def mkT (f : Fu) (ks : List Nat) : Tab := ks.filterMap fun c => (f c).map fun s => (c, s)
theorem mkT_keys (f : Fu) (ks : List Nat) : ∀ c ∈ (mkT f ks).map (·.1), c ∈ ks := fun c h => by
  obtain ⟨q, hq, rfl⟩ := List.mem_map.mp h
  obtain ⟨d, hd, e⟩ := List.mem_filterMap.mp hq
  cases z : f d with
  | none =>
    rw [z] at e
    cases e
  | some s =>
    rw [z] at e
    have e' : (d, s) = q := Option.some.inj e
    rw [← e']
    exact hd
theorem mkT_len (f : Fu) (ks : List Nat) : (mkT f ks).length ≤ ks.length := List.length_filterMap_le _ _
theorem mkT_snoc (f : Fu) (ks : List Nat) (c : Nat) : mkT f (ks ++ [c]) = mkT f ks ++ (match f c with | some s => [(c, s)] | none => []) := by
  unfold mkT
  rw [List.filterMap_append]
  congr 1
  cases e : f c with
  | none => simp [e]
  | some s => simp [e]
theorem look_cons (k : Nat) (s : List Nat) (t : Tab) (c : Nat) : lookT ((k, s) :: t) c = if k = c then some s else lookT t c := by
  unfold lookT
  rw [List.find?_cons]
  by_cases h : k = c
  · rw [if_pos h]
    simp [h]
  · rw [if_neg h]
    simp [h]
theorem mkT_cons (f : Fu) (k : Nat) (ks : List Nat) : mkT f (k :: ks) = (match f k with | some s => [(k, s)] | none => []) ++ mkT f ks := by
  unfold mkT
  rw [List.filterMap_cons]
  cases e : f k with
  | none => rfl
  | some s => rfl
theorem mkT_look (f : Fu) : ∀ {ks : List Nat}, ks.Nodup → ∀ c, lookT (mkT f ks) c = if c ∈ ks then f c else none
  | [], _, c => by rw [if_neg List.not_mem_nil]; rfl
  | k :: ks, nd, c => by
    have nd1 := List.nodup_cons.mp nd
    have ih' := mkT_look f nd1.2 c
    rw [mkT_cons]
    cases e : f k with
    | none =>
      show lookT (mkT f ks) c = _
      rw [ih']
      by_cases h2 : c = k
      · rw [h2, if_neg nd1.1, if_pos (List.mem_cons_self ..), e]
      · by_cases h : c ∈ ks
        · rw [if_pos h, if_pos (List.mem_cons_of_mem _ h)]
        · rw [if_neg h, if_neg (fun z => (List.mem_cons.mp z).elim h2 h)]
    | some s =>
      show lookT ((k, s) :: mkT f ks) c = _
      rw [look_cons, ih']
      by_cases h2 : k = c
      · rw [if_pos h2, ← h2, if_pos (List.mem_cons_self ..), e]
      · rw [if_neg h2]
        by_cases h : c ∈ ks
        · rw [if_pos h, if_pos (List.mem_cons_of_mem _ h)]
        · rw [if_neg h, if_neg (fun z => (List.mem_cons.mp z).elim (fun y => h2 y.symm) h)]
theorem mkT_lk {f : Fu} {ks : List Nat} (nd : ks.Nodup) (h : ∀ c s, f c = some s → c ∈ ks ∧ c ∈ abc) : lk (mkT f ks) = f := by
  funext c
  show (if c ∈ abc then lookT (mkT f ks) c else none) = f c
  rw [mkT_look f nd]
  cases e : f c with
  | none => by_cases a : c ∈ abc <;> by_cases b : c ∈ ks <;> simp [a, b, e]
  | some s =>
    obtain ⟨a, b⟩ := h c s e
    rw [if_pos b, if_pos a]
end V8
set_option Elab.async false
set_option linter.all false
set_option maxRecDepth 100000
set_option maxHeartbeats 8000000
/-! The program's small tests; a Misreading of what other ones have joined. -/
namespace V8
open PySem PySem.Spec PyProof.Rows L2
abbrev s_check_text : Stmt := topS 24
theorem sc_check_text : FnScope ["value"] ["value"] (defScope s_check_text) := ⟨rfl, rfl, rfl, by decide +kernel, rfl, by decide +kernel, by decide +kernel⟩
abbrev s_check_other : Stmt := topS 35
theorem sc_check_other : FnScope ["other"] ["other"] (defScope s_check_other) := ⟨rfl, rfl, rfl, by decide +kernel, rfl, by decide +kernel, by decide +kernel⟩
abbrev s_Joined_init : Stmt := inClass (topS 30) 0
theorem sc_Joined_init : FnScope ["self", "images"] ["self", "images"] (defScope s_Joined_init) := ⟨rfl, rfl, rfl, by decide +kernel, rfl, by decide +kernel, by decide +kernel⟩
abbrev s_Misreading_first_barred : Stmt := inClass (topS 31) 7
theorem sc_Misreading_first_barred : FnScope ["self", "text", "at", "letter"] ["self", "text"] (defScope s_Misreading_first_barred) := ⟨rfl, rfl, rfl, by decide +kernel, rfl, by decide +kernel, by decide +kernel⟩
abbrev s_Misreading_image : Stmt := inClass (topS 31) 8
abbrev n_Misreading_image : List Str := ["self", "text", "letter"]
theorem sc_Misreading_image : FnScope ["self", "text", "letter"] ["self", "text"] (defScope s_Misreading_image) := ⟨rfl, rfl, rfl, by decide +kernel, rfl, by decide +kernel, by decide +kernel⟩
structure Tz (K : PySem.W.Frag) (mg : Str → Option Value) (CM CJ : Addr) : Prop extends Ty K mg CM CJ where
  enumerate : mg "enumerate" = none
  all : mg "all" = none
  bool : mg "bool" = none
  gLONGEST_JOINED : GV mg "LONGEST_JOINED" (.int 64)
  clJ : Cls K CJ
  nJ : NoAttr K CJ "images"
  jA : PySem.W.findIn K (.ref CJ) "__class__" = some (some (.builtin "object.__class__"))
  jD : PySem.W.mroIn K CJ (.type "object") = some true
  ip : IntP K CM
  JJ : PySem.W.kitOne K (.ref CJ) (.ref CJ) = some true
def spChkT : Sp := fun vs H Q _ => ∃ cs : List Nat, vs = [.str (Sx cs)] ∧ (∀ c ∈ cs, isLt c) ∧ cs.length ≤ 2000 ∧ Q .non H
def spChkO (CM : Addr) : Sp := fun vs H Q _ => ∃ z u, vs = [.ref z] ∧ MisAt CM H z u ∧ Q .non H
def fJ (d : Addr) : List (Str × V) := putF "images" (.ref d) []
theorem fJ_i (d : Addr) : (fJ d).lookup ("images" : Str) = some (.ref d) := by
  unfold fJ
  rw [lookup_putF, if_pos rfl]
def spJ (CJ : Addr) : Sp := fun vs H Q _ => ∃ (j dj d : Addr), vs = [.ref j, .ref d] ∧ H j = some (.ins CJ dj []) ∧ Q .non (upd H j (.ins CJ dj (fJ d)))
def spInitJ (CM CJ : Addr) : Sp := fun vs H Q _ => ∃ (x dx j dj d : Addr) (t : Tab), vs = [.ref x, .ref j, .str (Sx [])] ∧ H x = some (.ins CM dx []) ∧ H j = some (.ins CJ dj (fJ d)) ∧ H d = some (.dK (encT t)) ∧ t.length ≤ 12 ∧
  ∀ H', MisN CM H H' x t → (∀ b o, H b = some o → b ≠ x → H' b = some o) → Q .non H'
def spFB (CM : Addr) : Sp := fun vs H Q _ => ∃ (x : Addr) (u : Tab) (cs : List Nat), vs = [.ref x, .str (Sx cs)] ∧ MisAt CM H x u ∧ cs.length ≤ 4000 ∧ (∀ r H', imF (lk u) cs = some r → Same H H' → Q .non H') ∧ (∀ (i : Nat) H', i < cs.length → imF (lk u) cs = none → Same H H' → Q (.int i) H')
def spImg (CM : Addr) : Sp := fun vs H Q _ => ∃ (x : Addr) (u : Tab) (cs r : List Nat), vs = [.ref x, .str (Sx cs)] ∧ MisAt CM H x u ∧ Bnd 64 (lk u) ∧ imF (lk u) cs = some r ∧ cs.length ≤ 2000 ∧ ∀ H', Same H H' → Q (.str (Sx r)) H'
section
variable {P : Program} {w : World} {K : PySem.W.Frag} {mg : Str → Option Value} {base : Heap} {CM CJ : Addr}
theorem ok_check_text {f : Addr} {fd : FuncData} (F : Fun K "check_text" "check_text" s_check_text f fd) (T : Tx K mg CM CJ) (D_is_text : Df P w K mg base 2 "is_text" spIsText) : FnOk P w K mg base CX0 3 f fd ["value"] spChkT := by
  refine F.ok sc_check_text (fun vs H Q E h => ?_) (fun cdv A outer s H vs Q E hr h => ?_)
  · obtain ⟨cs, rfl, _⟩ := h
    rfl
  · obtain ⟨cs, rfl, hl, hn, q⟩ := h
    refine ⟨_, (pss_one (ps_if (pt_not (pt_val (pe_c D_is_text hr (by decide) (by rfl) (pa_cons (pv 0) pa_nil))))
        (pss_one ps_never)
        pss_nil)), ?_⟩
    exact ⟨_, rfl, cs, rfl, hl, hn, true, rfl, iteF q⟩
theorem ok_check_other {f : Addr} {fd : FuncData} (F : Fun K "check_other" "check_other" s_check_other f fd) (T : Ty K mg CM CJ) : FnOk P w K mg base CX0 1 f fd ["other"] (spChkO CM) := by
  refine F.ok sc_check_other (fun vs H Q E h => ?_) (fun cdv A outer s H vs Q E hr h => ?_)
  · obtain ⟨z, u, rfl, _⟩ := h
    rfl
  · obtain ⟨z, u, rfl, M, q⟩ := h
    refine ⟨_, (pss_one (ps_if (pt_not (pt_val (pe_callB call_isi (by rfl) T.isinstance (by decide +kernel) (pa_cons (pv 0) (pa_cons (pe_gv T.gMisreading (by rfl)) pa_nil)))))
        (pss_one ps_never)
        pss_nil)), ?_⟩
    obtain ⟨dx, fs, hx⟩ := M.ins
    exact ⟨_, rfl, _, .ref CM, .ref CM, .ref CM, true, rfl, .own _, .base (.ins hx T.cl T.tA T.tB T.tC T.tD), T.mM, true, rfl, iteF q⟩
theorem ok_Joined {f : Addr} {fd : FuncData} (F : Fun K "__init__" "Joined.__init__" s_Joined_init f fd) (T : Tz K mg CM CJ) : FnOk P w K mg base CX0 1 f fd ["self", "images"] (spJ CJ) := by
  refine F.ok sc_Joined_init (fun vs H Q E h => ?_) (fun cdv A outer s H vs Q E hr h => ?_)
  · obtain ⟨j, dj, d, rfl, _⟩ := h
    rfl
  · obtain ⟨j, dj, d, rfl, hj, q⟩ := h
    refine ⟨_, (pss_one (ps_fld (pv 0) (pv 1) rfl)), ?_⟩
    exact ⟨_, rfl, _, rfl, j, CJ, dj, [], rfl, hj, T.clJ, T.nJ, by decide, q⟩
theorem ok_initJ {f : Addr} {fd : FuncData} {dvs : List V} (F : FunD K "__init__" "Misreading.__init__" (defArgs s_Misreading_init) (defBody s_Misreading_init) (defScope s_Misreading_init) dvs [] f fd) (T : Tz K mg CM CJ) (D_told_images : Df P w K mg base 4 "told_images" spTold) : FnOk P w K mg base CX0 5 f fd ["self", "images", "keeps"] (spInitJ CM CJ) := by
  refine F.ok sc_Misreading_init (fun vs H Q E h => ?_) (fun cdv A outer s H vs Q E hr h => ?_)
  · obtain ⟨x, dx, j, dj, d, t, rfl, _⟩ := h
    rfl
  · obtain ⟨x, dx, j, dj, r, u, rfl, hx, hj, hr1, lu, q⟩ := h
    refine ⟨_, (pss_cons (ps_set (i := 3) sc_Misreading_init.nd rfl (.inr rfl) (pe_ifExp (pt_val (pe_callB call_isi (by rfl) T.isinstance (by decide +kernel) (pa_cons (pv 1) (pa_cons (pe_gv T.gJoined (by rfl)) pa_nil)))) (pe_fldK (K := K) rfl (pv 1) rfl) (pe_c D_told_images hr (by decide) (by rfl) (pa_cons (pv 1) (pa_cons (pv 2) pa_nil)))))
      (pss_cons (ps_if (pt_cmpR op_gt (pe_callB call_lenD (by rfl) T.len (by decide +kernel) (pa_cons (pv 3) pa_nil)) (pe_gv T.gMOST_LETTERS (by rfl)) (nomark _))
        (pss_one ps_never)
        pss_nil)
      (pss_cons (ps_fld (pv 0) (pe_callTy (call_tuple_ofK (K := K) rfl) (by rfl) T.tuple (by decide +kernel) (pa_cons (pe_lc (own := [("letter", 4)]) (g := gName 4) (by rfl) sc_Misreading_init.nd (pi_str (pe_gv T.gLETTERS (by rfl))) (blkOk_by (own := [("letter", 4)]) (N := n_Misreading_init) (sc := defScope s_Misreading_init) (by decide +kernel)) (fun _ _ _ _ _ => (pg_name (i := 4) sc_Misreading_init.nd rfl (.inl rfl))) (fun _ _ _ _ _ => (pts_one (pt_cmp (pc_din (hu_of hr) (pv 4) (pv 3))))) (fun _ _ _ _ _ => (pv 4))) pa_nil)) rfl)
      (pss_cons (ps_fld (pv 0) (pe_dc (own := [("letter", 4)]) (g := gName 4) (by rfl) sc_Misreading_init.nd (pi_tup (pe_fldK (K := K) rfl (pv 0) rfl)) (blkOk_by (own := [("letter", 4)]) (N := n_Misreading_init) (sc := defScope s_Misreading_init) (by decide +kernel)) (fun _ _ _ _ _ => (pg_name (i := 4) sc_Misreading_init.nd rfl (.inl rfl))) (fun _ _ _ _ _ => pts_nil) (fun _ _ _ _ _ => (pv 4)) (fun _ _ _ _ _ => (pe_dget (hu_of hr) (pv 3) (pv 4) (fun _ _ => rfl)))) rfl)
      (pss_one (ps_fld (pv 0) (pe_callTy (call_tuple_ofK (K := K) rfl) (by rfl) T.tuple (by decide +kernel) (pa_cons (pe_lc (own := [("letter", 4)]) (g := gName 4) (by rfl) sc_Misreading_init.nd (pi_tup (pe_fldK (K := K) rfl (pv 0) rfl)) (blkOk_by (own := [("letter", 4)]) (N := n_Misreading_init) (sc := defScope s_Misreading_init) (by decide +kernel)) (fun _ _ _ _ _ => (pg_name (i := 4) sc_Misreading_init.nd rfl (.inl rfl))) (fun _ _ _ _ _ => (pts_one (pt_cmpR op_ne (pe_dget (hu_of hr) (pv 3) (pv 4) (fun _ _ => rfl)) (pv 4) (nomark _)))) (fun _ _ _ _ _ => (pv 4))) pa_nil)) rfl)))))), ?_⟩
    refine ⟨_, rfl, _, .ref CJ, .ref CJ, .ref CJ, true, rfl, .own _, .base (.ins hj T.clJ T.jA T.tB T.tC T.jD), T.JJ, true, rfl, ?_⟩
    refine iteT ?_
    refine ⟨_, rfl, j, CJ, dj, _, _, rfl, hj, T.clJ, T.nJ, fJ_i r, ?_⟩
    obtain ⟨H1, e1⟩ : ∃ H1, H1 = H := ⟨H, rfl⟩
    have sm : Same H H1 := by
      rw [e1]
      exact Same.refl H
    have hx1 := sm _ _ hx
    replace hr1 := sm _ _ hr1
    have h12 : (12 : Nat) ≤ 12 := Nat.le_refl _
    show tSeq _ _ _ _ H
    rw [show tSeq _ _ _ _ H = tSeq _ _ _ _ H1 from by rw [e1]]
    clear e1
    -- len(told) > 12
    refine ⟨_, rfl, r, _, rfl, hr1, _, _, rfl, rfl, _, rfl, ?_⟩
    rw [encT_len, decide_eq_false (by show ¬ ((12 : Int) < (u.length : Int)); omega)]
    refine iteF ?_
    have hx0 : ∀ b o, H b = some o → b ≠ x → H1 b = some o := fun b o e _ => sm b o e
    -- self._letters
    refine ⟨abcS, rfl, fun D nD => lc_it walk_str (fun i H2 => H2 = upd H1 D (.lst (lets ((abc.take i).filter fun c => (lookT u c).isSome)))) rfl (fun _ _ _ _ => trivial) ?_ ?_⟩
    · rintro i z H2 H2' hi rfl ⟨rfl, c, hc, rfl⟩
      have hc' : abc[i]? = some c := by
        rw [← abcS_cps]
        simpa using hc
      have hrD : r ≠ D := ne_of_none hr1 nD
      refine ⟨rfl, _, rfl, _, rfl, r, _, rfl, DGet.k (k := Sum.inr (L1 c)) (by rw [upd_ne hrD]; exact hr1), _, rfl, ?_⟩
      rw [valV_enc]
      have hs := some_put u i c hc'
      by_cases e : (lookT u c).isSome = true
      · have e2 : (Option.map (fun s => V.str (Sx s)) (lookT u c)).isSome = true := by rw [Option.isSome_map]; exact e
        rw [e2]
        refine iteT ?_
        rw [if_pos e] at hs
        refine ⟨_, rfl, lets ((abc.take i).filter fun c => (lookT u c).isSome), upd_same, ?_, ?_⟩
        · rw [lets_len]
          have h1 := List.length_filter_le (fun c => (lookT u c).isSome) (abc.take i)
          have h2 : (abc.take i).length ≤ 26 := by rw [List.length_take, abc_len]; omega
          exact small1000 (by omega)
        · rw [upd_upd, hs, lets_snoc]
          rfl
      · have e2 : (Option.map (fun s => V.str (Sx s)) (lookT u c)).isSome = false := by
          rw [Option.isSome_map]
          exact Bool.eq_false_iff.mpr e
        rw [e2]
        refine iteF ?_
        rw [if_neg e, List.append_nil] at hs
        rw [hs]
    · rintro H2 rfl
      have hsz : abcS.cps.size = 26 := by decide +kernel
      rw [hsz]
      have ek : (abc.take 26).filter (fun c => (lookT u c).isSome) = keysOf u := by
        rw [List.take_of_length_le (by rw [abc_len]; exact Nat.le_refl _)]
        rfl
      rw [ek]
      refine ⟨D, _, rfl, .inl ⟨SqL.of upd_same, fun a na => ?_⟩⟩
      have hxD : x ≠ D := ne_of_none hx1 nD
      have hxa : x ≠ a := ne_of_none (H := upd H1 D (.lst (lets (keysOf u)))) (o := .ins CM dx []) (by rw [upd_ne hxD]; exact hx1) na
      have hrD : r ≠ D := ne_of_none hr1 nD
      have hra : r ≠ a := ne_of_none (H := upd H1 D (.lst (lets (keysOf u)))) (o := .dK (encT u)) (by rw [upd_ne hrD]; exact hr1) na
      have hrx : r ≠ x := ne_of hr1 hx1 (fun z => nomatch z)
      refine ⟨_, rfl, x, CM, dx, [], rfl, by rw [upd_ne hxa, upd_ne hxD]; exact hx1, T.cl, T.nL, by show 0 < 1000; decide, ?_⟩
      have fr3 : ∀ b o, H b = some o → b ≠ x → upd (upd (upd H1 D (.lst (lets (keysOf u)))) a (.tup (lets (keysOf u)))) x (.ins CM dx (f1 a)) b = some o := fun b o e hb => by
        have e1 := sm b o e
        have hbD := ne_of_none e1 nD
        rw [upd_ne hb, upd_ne (ne_of_none (H := upd H1 D (.lst (lets (keysOf u)))) (o := o) (by rw [upd_ne hbD]; exact e1) na), upd_ne hbD]
        exact e1
      have hx3 : upd (upd (upd H1 D (.lst (lets (keysOf u)))) a (.tup (lets (keysOf u)))) x (.ins CM dx (f1 a)) x = some (.ins CM dx (f1 a)) := upd_same
      have ha3 : upd (upd (upd H1 D (.lst (lets (keysOf u)))) a (.tup (lets (keysOf u)))) x (.ins CM dx (f1 a)) a = some (.tup (lets (keysOf u))) := by rw [upd_ne (Ne.symm hxa), upd_same]
      have hr3 : upd (upd (upd H1 D (.lst (lets (keysOf u)))) a (.tup (lets (keysOf u)))) x (.ins CM dx (f1 a)) r = some (.dK (encT u)) := by rw [upd_ne hrx, upd_ne hra, upd_ne hrD]; exact hr1
      show tSeq _ _ _ _ (upd (upd (upd H1 D (.lst (lets (keysOf u)))) a (.tup (lets (keysOf u)))) x (.ins CM dx (f1 a)))
      generalize upd (upd (upd H1 D (.lst (lets (keysOf u)))) a (.tup (lets (keysOf u)))) x (.ins CM dx (f1 a)) = H3 at fr3 hx3 ha3 hr3 ⊢
      have naH : H a = none := by
        cases e : H a with
        | none => rfl
        | some o =>
          have e1 := sm _ _ e
          have e2 : upd H1 D (.lst (lets (keysOf u))) a = some o := by rw [upd_ne (ne_of_none e1 nD)]; exact e1
          rw [e2] at na
          cases na
      clear na nD hxD hxa hrD hra
      -- self._images
      refine ⟨_, rfl, x, CM, dx, _, _, rfl, hx3, T.cl, T.nL, f1_L a, a, rfl, ⟨_, .inl (.inl ha3)⟩, fun D2 nD2 => dc_it (walk_tup (K := K) (a := a) (xs := lets (keysOf u))) (fun i H4 => H4 = upd H3 D2 (.dK (encT (((keysOf u).take i).map fun c => (c, (lookT u c).getD []))))) rfl ?_ ?_ ?_⟩
      · rintro i H4 hi rfl
        exact .inl (.inl (by rw [upd_ne (ne_of_none ha3 nD2)]; exact ha3))
      · rintro i z H4 H4' hi rfl ⟨rfl, hz⟩
        obtain ⟨hik, rfl⟩ := lets_get hz
        obtain ⟨s, es⟩ := Option.isSome_iff_exists.mp (List.mem_filter.mp (List.getElem_mem hik)).2
        refine ⟨rfl, _, rfl, _, rfl, _, rfl, r, V.str (Sx s), rfl, .inl ⟨_, Sum.inr (L1 (keysOf u)[i]), .inl (by rw [upd_ne (ne_of_none hr3 nD2)]; exact hr3), rfl, by rw [valV_enc, es]; rfl⟩, _, Sum.inr (L1 (keysOf u)[i]), rfl, upd_same, ?_, ?_⟩
        · rw [encT_len, List.length_map, List.length_take]
          have := keysOf_len u
          exact small1000 (by omega)
        · rw [upd_upd, putK_enc]
          congr 3
          exact ims_succ (keysOf_nd u) hik (by rw [es]; rfl)
      · rintro H4 rfl
        rw [lets_len, List.take_length]
        have hxD2 : x ≠ D2 := ne_of_none hx3 nD2
        have haD2 : a ≠ D2 := ne_of_none ha3 nD2
        have hrD2 : r ≠ D2 := ne_of_none hr3 nD2
        refine ⟨_, rfl, x, CM, dx, f1 a, rfl, by rw [upd_ne hxD2]; exact hx3, T.cl, T.nI, f1_len a, ?_⟩
        have hax : a ≠ x := ne_of ha3 hx3 (fun z => nomatch z)
        have nbH : H D2 = none := by
          cases e : H D2 with
          | none => rfl
          | some o =>
            have e1 := fr3 _ _ e (Ne.symm hxD2)
            rw [e1] at nD2
            cases nD2
        have fr5 : ∀ b o, H b = some o → b ≠ x → upd (upd H3 D2 (.dK (encT (ims u)))) x (.ins CM dx (f2 a D2)) b = some o := fun b o e hb => by
          have e1 := fr3 b o e hb
          rw [upd_ne hb, upd_ne (ne_of_none e1 nD2)]
          exact e1
        have hx5 : upd (upd H3 D2 (.dK (encT (ims u)))) x (.ins CM dx (f2 a D2)) x = some (.ins CM dx (f2 a D2)) := upd_same
        have ha5 : upd (upd H3 D2 (.dK (encT (ims u)))) x (.ins CM dx (f2 a D2)) a = some (.tup (lets (keysOf u))) := by rw [upd_ne hax, upd_ne haD2]; exact ha3
        have hr5 : upd (upd H3 D2 (.dK (encT (ims u)))) x (.ins CM dx (f2 a D2)) r = some (.dK (encT u)) := by rw [upd_ne hrx, upd_ne hrD2]; exact hr3
        have hd5 : upd (upd H3 D2 (.dK (encT (ims u)))) x (.ins CM dx (f2 a D2)) D2 = some (.dK (encT (ims u))) := by rw [upd_ne (Ne.symm hxD2), upd_same]
        show Ends.nx _ _ (upd (upd H3 D2 (.dK (encT (ims u)))) x (.ins CM dx (f2 a D2)))
        generalize upd (upd H3 D2 (.dK (encT (ims u)))) x (.ins CM dx (f2 a D2)) = H5 at fr5 hx5 ha5 hr5 hd5 ⊢
        -- self.changed
        refine ⟨_, rfl, x, CM, dx, _, _, rfl, hx5, T.cl, T.nL, f2_L a D2, a, rfl, ⟨_, .inl (.inl ha5)⟩, fun D3 nD3 => lc_it (walk_tup (K := K) (a := a) (xs := lets (keysOf u))) (fun i H6 => H6 = upd H5 D3 (.lst (lets (((keysOf u).take i).filter fun c => decide (lookT u c ≠ some [c]))))) rfl ?_ ?_ ?_⟩
        · rintro i H6 hi rfl
          exact .inl (.inl (by rw [upd_ne (ne_of_none ha5 nD3)]; exact ha5))
        · rintro i z H6 H6' hi rfl ⟨rfl, hz⟩
          obtain ⟨hik, rfl⟩ := lets_get hz
          obtain ⟨s, es⟩ := Option.isSome_iff_exists.mp (List.mem_filter.mp (List.getElem_mem hik)).2
          refine ⟨rfl, _, rfl, _, rfl, r, V.str (Sx s), rfl, .inl ⟨_, Sum.inr (L1 (keysOf u)[i]), .inl (by rw [upd_ne (ne_of_none hr5 nD3)]; exact hr5), rfl, by rw [valV_enc, es]; rfl⟩, _, rfl, rfl, _, rfl, ?_⟩
          have hs := chg_succ (u := u) hik
          by_cases e : s = [(keysOf u)[i]]
          · have e1 : lookT u (keysOf u)[i] = some [(keysOf u)[i]] := by rw [es, e]
            rw [if_neg (by simp [e1]), List.append_nil] at hs
            rw [decide_eq_true (show V.str (Sx s) = V.str (L1 (keysOf u)[i]) by rw [e]; rfl)]
            refine iteF ?_
            rw [hs]
          · have e1 : ¬ lookT u (keysOf u)[i] = some [(keysOf u)[i]] := by
              rw [es]
              exact fun z => e (Option.some.inj z)
            rw [if_pos (by simpa using e1)] at hs
            rw [decide_eq_false (show ¬ V.str (Sx s) = V.str (L1 (keysOf u)[i]) from fun z => e (Sx_inj (V.str.inj z)))]
            refine iteT ?_
            refine ⟨_, rfl, _, upd_same, ?_, ?_⟩
            · rw [lets_len]
              have h1 := List.length_filter_le (fun c => decide (lookT u c ≠ some [c])) ((keysOf u).take i)
              have h2 := keysOf_len u
              have h3 : ((keysOf u).take i).length ≤ (keysOf u).length := by rw [List.length_take]; omega
              exact small1000 (by omega)
            · rw [upd_upd, hs, lets_snoc]
        · rintro H6 rfl
          rw [lets_len, List.take_length]
          refine ⟨D3, _, rfl, .inl ⟨SqL.of upd_same, fun c nc => ?_⟩⟩
          have hxD3 : x ≠ D3 := ne_of_none hx5 nD3
          have up : ∀ b o, H5 b = some o → upd (upd H5 D3 (.lst (lets (chg u)))) c (.tup (lets (chg u))) b = some o := fun b o e => by
            have hb := ne_of_none e nD3
            rw [upd_ne (ne_of_none (H := upd H5 D3 (.lst (lets (chg u)))) (o := o) (by rw [upd_ne hb]; exact e) nc), upd_ne hb]
            exact e
          have hxc : x ≠ c := ne_of_none (H := upd H5 D3 (.lst (lets (chg u)))) (o := .ins CM dx (f2 a D2)) (by rw [upd_ne hxD3]; exact hx5) nc
          refine ⟨_, rfl, x, CM, dx, f2 a D2, rfl, up _ _ hx5, T.cl, T.nC, f2_len a D2, ?_⟩
          have ncH : H c = none := by
            have nc' : upd H5 D3 (.lst (lets (chg u))) c = none := nc
            cases e : H c with
            | none => rfl
            | some o =>
              have e3 := fr5 _ _ e (Ne.symm hxc)
              have e2 : upd H5 D3 (.lst (lets (chg u))) c = some o := by
                rw [upd_ne (ne_of_none e3 nD3)]
                exact e3
              rw [e2] at nc'
              cases nc'
          have hD2x : D2 ≠ x := ne_of hd5 hx5 (fun z => nomatch z)
          refine q _ ⟨dx, a, D2, c, upd_same, ?_, ?_, ?_, naH, nbH, ncH⟩ fun b o e hb => ?_
          · rw [upd_ne hax]
            exact up _ _ ha5
          · rw [upd_ne hD2x]
            exact up _ _ hd5
          · rw [upd_ne (Ne.symm hxc)]
            exact upd_same
          · rw [upd_ne hb]
            exact up _ _ (fr5 b o e hb)
end
end V8
set_option Elab.async false
set_option linter.all false
set_option maxRecDepth 100000
set_option maxHeartbeats 8000000
/-! first_barred, image. -/
namespace V8
open PySem PySem.Spec PyProof.Rows L2
section
variable {P : Program} {w : World} {K : PySem.W.Frag} {mg : Str → Option Value} {base : Heap} {CM CJ : Addr}
theorem ok_first_barred {f : Addr} {fd : FuncData} (F : Fun K "first_barred" "Misreading.first_barred" s_Misreading_first_barred f fd) (T : Tz K mg CM CJ) : FnOk P w K mg base CX0 1 f fd ["self", "text"] (spFB CM) := by
  refine F.ok sc_Misreading_first_barred (fun vs H Q E h => ?_) (fun cdv A outer s H vs Q E hr h => ?_)
  · obtain ⟨x, u, cs, rfl, _⟩ := h
    rfl
  · obtain ⟨x, u, cs, rfl, ⟨dx, a, b, c', hx, ha, hb, hc⟩, h4, q1, q2⟩ := h
    refine ⟨_, (pss_cons (ps_for PassesOwn.never rfl (pi_enumS (by rfl) T.enumerate (pa_cons (pv 1) pa_nil)) (pg_tup (by rfl) (pgs_cons (pg_name (i := 2) sc_Misreading_first_barred.nd rfl (.inl rfl)) (pgs_cons (pg_name (i := 3) sc_Misreading_first_barred.nd rfl (.inl rfl)) pgs_nil)))
        (pss_one (ps_if (pt_cmp (pc_dnotin (hu_of hr) (pv 3) (pe_fldK (K := K) rfl (pv 0) rfl)))
          (pss_one (ps_ret (pv 2)))
          pss_nil)))
      (pss_one (ps_ret pe_non))), ?_⟩
    refine ⟨_, rfl, Sx cs, rfl, for_it walk_enumS (fun i σ H2 => (∃ v2 v3 : Option V, σ = [some (.ref x), some (.str (Sx cs)), v2, v3]) ∧ Same H H2 ∧ ∀ c ∈ cs.take i, c ∈ keysOf u) ⟨⟨none, none, rfl⟩, Same.refl H, fun c h => by simp at h⟩ (fun _ _ _ _ _ => trivial) ?_ ?_⟩
    · rintro i z σ H2 H2' hi ⟨⟨v2, v3, rfl⟩, s2, hk⟩ ⟨tq, c, rfl, ntq, rfl, hc0⟩
      have hc1 := sx_at hc0
      obtain ⟨hi', ec⟩ := List.getElem?_eq_some_iff.mp hc1
      refine ⟨tq, _, rfl, .inl (.inl upd_same), rfl, _, _, rfl, _, _, rfl, rfl, ?_⟩
      have s3 := same_put (s := s2) (o := .tup [.int (i : Nat), .str ⟨#[c]⟩]) ntq
      refine ⟨_, rfl, _, rfl, x, CM, dx, _, _, rfl, s3 _ _ hx, T.cl, T.nI, f3_I a b c', b, _, rfl, DGet.k (k := Sum.inr (L1 c)) (s3 _ _ hb), _, rfl, ?_⟩
      rw [valV_enc, Option.isSome_map, look_ims]
      by_cases m : c ∈ keysOf u
      · rw [if_pos m]
        refine iteF ⟨⟨_, _, rfl⟩, s3, fun d hd => ?_⟩
        rw [List.take_add_one, hc1] at hd
        rcases List.mem_append.mp hd with h | h
        · exact hk d h
        · rw [List.mem_singleton.mp h]
          exact m
      · rw [if_neg m]
        refine iteT ⟨_, rfl, q2 i _ hi' ?_ s3⟩
        exact imF_none.mpr ⟨c, ec ▸ List.getElem_mem hi', lk_not m⟩
    · rintro σ H2 ⟨⟨v2, v3, rfl⟩, s2, hk⟩
      rw [sx_size, List.take_length] at hk
      exact q1 _ H2 (imF_look hk) s2
theorem ok_image {f : Addr} {fd : FuncData} (F : Fun K "image" "Misreading.image" s_Misreading_image f fd) (T : Tz K mg CM CJ) : FnOk P w K mg base CX0 1 f fd ["self", "text"] (spImg CM) := by
  refine F.ok sc_Misreading_image (fun vs H Q E h => ?_) (fun cdv A outer s H vs Q E hr h => ?_)
  · obtain ⟨x, u, cs, r, rfl, _⟩ := h
    rfl
  · obtain ⟨x, u, cs, r, rfl, ⟨dx, a, b, c', hx, ha, hb, hc⟩, sm, er, h2, q⟩ := h
    refine ⟨_, (pss_one (ps_ret (pe_joinK (K := K) rfl pe_str (pe_lc (own := [("letter", 2)]) (g := gName 2) (by rfl) sc_Misreading_image.nd (pi_str (pv 1)) (blkOk_by (own := [("letter", 2)]) (N := n_Misreading_image) (sc := defScope s_Misreading_image) (by decide +kernel)) (fun _ _ _ _ _ => (pg_name (i := 2) sc_Misreading_image.nd rfl (.inl rfl))) (fun _ _ _ _ _ => pts_nil) (fun _ _ _ _ _ => (pe_dget (hu_of hr) (pe_fldK (K := K) rfl (pv 0) rfl) (pv 2) (fun _ _ => rfl))))))), ?_⟩
    have hin := imF_keys er
    have e0 := imF_look hin
    rw [e0] at er
    have e1 := Option.some.inj er
    obtain ⟨ss, ess⟩ : ∃ ss, ss = cs.map fun c => (lookT u c).getD [] := ⟨_, rfl⟩
    rw [← ess] at e1
    have hz : ∀ (i : Nat) (hi : i < cs.length), ((ss.map Sx).map V.str)[i]? = some (V.str (Sx ((lookT u cs[i]).getD []))) := fun i hi => by
      rw [ess, List.getElem?_map, List.getElem?_map, List.getElem?_map, List.getElem?_eq_getElem hi]
      rfl
    have hl : ((ss.map Sx).map V.str).length = cs.length := by
      rw [ess, List.length_map, List.length_map, List.length_map]
    refine ⟨⟨_, rfl⟩, _, rfl, Sx cs, rfl, fun D nD => lc_it walk_str (fun i H2 => H2 = upd H D (.lst (((ss.map Sx).map V.str).take i))) rfl (fun _ _ _ _ => trivial) ?_ ?_⟩
    · rintro i z H2 H2' hi rfl ⟨rfl, c, hc0, rfl⟩
      have hc1 := sx_at hc0
      obtain ⟨hi', ec⟩ := List.getElem?_eq_some_iff.mp hc1
      have hm : c ∈ keysOf u := hin c (ec ▸ List.getElem_mem hi')
      obtain ⟨s2, e2⟩ := Option.isSome_iff_exists.mp (keysOf_mem.mp hm).2
      have s1 : Same H (upd H D (.lst (((ss.map Sx).map V.str).take i))) := same_put (s := fun _ _ e => e) nD
      have hz2 := hz i hi'
      rw [ec, e2] at hz2
      refine ⟨rfl, _, rfl, x, CM, dx, _, _, rfl, s1 _ _ hx, T.cl, T.nI, f3_I a b c', _, rfl, b, V.str (Sx s2), rfl, .inl ⟨_, Sum.inr (L1 c), .inl (s1 _ _ hb), rfl, by rw [valV_enc, look_ims_some hm, e2]; rfl⟩, ?_⟩
      refine ⟨_, upd_same, ?_, ?_⟩
      · rw [List.length_take, sizeLine_eq]
        omega
      · rw [upd_upd, List.take_add_one, hz2]
        rfl
    · rintro H2 rfl
      rw [sx_size, List.take_of_length_le (by rw [hl]; exact Nat.le_refl _)]
      refine ⟨Str.empty, D, ss.map Sx, rfl, rfl, .inl (SqL.of upd_same), ?_, ?_⟩
      · have h1 : ((ss.map Sx).map fun x => x.length).sum ≤ _ := sum_le (fun x => x.length) 64 _ fun y hy => by
          obtain ⟨s3, hs3, rfl⟩ := List.mem_map.mp hy
          rw [ess] at hs3
          obtain ⟨c, hc, rfl⟩ := List.mem_map.mp hs3
          obtain ⟨s2, e2⟩ := Option.isSome_iff_exists.mp (keysOf_mem.mp (hin c hc)).2
          rw [Sx_len, e2]
          exact sm c _ (by rw [← lk_look (hin c hc)]; exact e2)
        have h3 : (ss.map Sx).length = cs.length := by
          rw [ess, List.length_map, List.length_map]
        rw [h3] at h1 ⊢
        show _ + _ * 0 ≤ _
        have h4 : 64 * cs.length ≤ 64 * 2000 := Nat.mul_le_mul_left _ h2
        omega
      · rw [join_Sx, e1]
        exact q _ (same_put (s := fun _ _ e => e) nD)
end
end V8
set_option Elab.async false
set_option linter.all false
set_option maxRecDepth 100000
set_option maxHeartbeats 8000000
/-! Joined and Misreadings of it made. -/
namespace V8
open PySem PySem.Spec PyProof.Rows L2
structure MkrJ (P : Program) (w : World) (K : PySem.W.Frag) (mg : Str → Option Value) (base : Heap) (CJ : Addr) : Prop where
  ex : ∃ (f : Addr) (fd : FuncData), Mk K CJ f ∧ FnOk P w K mg base CX0 1 f fd ["self", "images"] (spJ CJ) ∧ mg "Joined" = some (.ref CJ) ∧ Binds K fd ["self", "images"] []
structure MkrM (P : Program) (w : World) (K : PySem.W.Frag) (mg : Str → Option Value) (base : Heap) (CM CJ : Addr) : Prop where
  ex : ∃ (f : Addr) (fd : FuncData), Mk K CM f ∧ FnOk P w K mg base CX0 5 f fd pI (spInitJ CM CJ) ∧ mg "Misreading" = some (.ref CM) ∧ ∃ ds, Vals [.str (Sx [])] ds ∧ Binds K fd pI ds
def tMkJ (CJ : Addr) (t : TA) : TE := fun σ H Q => t σ H fun vs H1 => ∃ d, vs = [.ref d] ∧ ∀ j dj H', H1 j = none → H' j = some (.ins CJ dj (fJ d)) → Same H1 H' → Q (.ref j) H'
def tMkMJ (CM CJ : Addr) (t : TA) : TE := fun σ H Q => t σ H fun vs H1 => ∃ j dj d tb, vs = [.ref j] ∧ H1 j = some (.ins CJ dj (fJ d)) ∧ H1 d = some (.dK (encT tb)) ∧ tb.length ≤ 12 ∧ ∀ x H', H1 x = none → MisAt CM H' x tb → Same H1 H' → Q (.ref x) H'
section
variable {X : Cx} {j : Nat} {CM CJ : Addr} {p pos : Pos} {e : Expr} {es : List Expr} {t : TA}
theorem pe_mkJ (M : MkrJ X.prog X.w X.K X.mg X.base CJ) (hr : Room j X.A) (hj : 2 ≤ j) (hg : Gl X "Joined") (ha : PA X (e :: es) t) (he : starEach (e :: es) X.env = (false, eval e X.env) :: starEach es X.env := by rfl) (hpl : (backTo pos (starEach es X.env)).any (·.1) = false := by rfl) :
    PE X (.Call (.Name "Joined" p) (e :: es) [] pos) (tMkJ CJ t) := by
  obtain ⟨f, fd, M, F, hm, b0⟩ := M.ex
  refine ⟨fun pins s σ H Q I h => ?_⟩
  refine wpAny_Call_Name_kw (ld_glob I hg hm ?_ (by decide))
  refine PySem.W.callWith_K (h₀ := X.base) I.ok.mod.kin M.kp (thn (ha.run pos pins s σ H _ I h) fun us s1 ⟨vs, H1, I1, r, q⟩ => ⟨I1.kIn, ?_⟩) he hpl
  obtain ⟨d, rfl, q⟩ := q
  refine run_make (dvs := []) (ds := []) M F (hr.mono hj) b0 .nil pass0 I1 r fun x dx hx hdx ne => ?_
  rw [List.append_nil]
  refine ⟨x, dx, d, rfl, upd_same, rfl, q x dx _ hx upd_same fun b o eo => ?_⟩
  have b1 := ne_of_none eo hx
  rw [upd_ne b1, upd_ne b1, upd_ne (ne_of_none eo hdx)]
  exact eo
theorem pe_mkMJ (M : MkrM X.prog X.w X.K X.mg X.base CM CJ) (hr : Room j X.A) (hj : 6 ≤ j) (hg : Gl X "Misreading") (ha : PA X (e :: es) t) (he : starEach (e :: es) X.env = (false, eval e X.env) :: starEach es X.env := by rfl) (hpl : (backTo pos (starEach es X.env)).any (·.1) = false := by rfl) :
    PE X (.Call (.Name "Misreading" p) (e :: es) [] pos) (tMkMJ CM CJ t) := by
  obtain ⟨f, fd, M, F, hm, ds, hd, b1⟩ := M.ex
  refine ⟨fun pins s σ H Q I h => ?_⟩
  refine wpAny_Call_Name_kw (ld_glob I hg hm ?_ (by decide))
  refine PySem.W.callWith_K (h₀ := X.base) I.ok.mod.kin M.kp (thn (ha.run pos pins s σ H _ I h) fun us s1 ⟨vs, H1, I1, r, q⟩ => ⟨I1.kIn, ?_⟩) he hpl
  obtain ⟨j, dj, d, tb, rfl, hj1, hd1, l12, q⟩ := q
  refine run_make M F (hr.mono hj) b1 hd pass0 I1 r fun x dx hx hdx ne => ?_
  have up : ∀ b o, H1 b = some o → upd (upd H1 dx (.own x)) x (.ins CM dx []) b = some o := fun b o eo => by
    rw [upd_ne (ne_of_none eo hx), upd_ne (ne_of_none eo hdx)]
    exact eo
  refine ⟨x, dx, j, dj, d, tb, rfl, upd_same, up _ _ hj1, up _ _ hd1, l12, fun H' m fr => ⟨rfl, q x H' hx m.mis fun b o eo => fr b o (up _ _ eo) (ne_of_none eo hx)⟩⟩
end
/-- what K holds of the def, as the rule above wants it -/
theorem mkrM_of {P : Program} {w : World} {K : PySem.W.Frag} {mg : Str → Option Value} {base : Heap} {CM CJ f : Addr} {fd : FuncData} (F : FunD K "__init__" "Misreading.__init__" (defArgs s_Misreading_init) (defBody s_Misreading_init) (defScope s_Misreading_init) [.str (Sx [])] [] f fd) (T : Tz K mg CM CJ)
    (D_told_images : Df P w K mg base 4 "told_images" spTold) (M : Mk K CM f) (hm : mg "Misreading" = some (.ref CM)) : MkrM P w K mg base CM CJ := by
  refine ⟨f, fd, M, ok_initJ F T D_told_images, hm, ?_⟩
  obtain ⟨ds, h1, h2⟩ := F.binds1 (ps := pI) 2 0 (fun z => nomatch z) rfl (fun T kV doc pm an cdv ct us its h1 h2 => match us, its, h1, h2 with | [_, _], [_], _, _ => ⟨_, rfl, rfl⟩)
  exact ⟨ds, h1, h2⟩
end V8
set_option Elab.async false
set_option linter.all false
set_option maxRecDepth 100000
set_option maxHeartbeats 8000000
/-! one >> other. -/
namespace V8
open PySem PySem.Spec PyProof.Rows L2
abbrev s_Misreading_rshift : Stmt := inClass (topS 31) 9
theorem sc_Misreading_rshift : FnScope ["self", "other", "images", "letter", "middle"] ["self", "other"] (defScope s_Misreading_rshift) := ⟨rfl, rfl, rfl, by decide +kernel, rfl, by decide +kernel, by decide +kernel⟩
theorem f3_no {a b c : Addr} {m : Str} (h1 : ¬ m = "_letters") (h2 : ¬ m = "_images") (h3 : ¬ m = "changed") : (f3 a b c).lookup m = none := by
  unfold f3 f2 f1
  rw [lookup_putF, if_neg h3, lookup_putF, if_neg h2, lookup_putF, if_neg h1]
  rfl
theorem keys_le {u : Tab} {cs : List Nat} (o : Ovr cs (lk u)) : (keysOf u).length ≤ cs.length := nd_len (keysOf_nd u) fun c hc => by
  obtain ⟨s, e⟩ := Option.isSome_iff_exists.mp (lk_mem.mp hc)
  exact o.key c s e
/-- a Misreading made anew of f -/
def Makes (CM : Addr) (H : Hp) (f : Fu) (Q : VK) : Prop := ∀ z H' t, H z = none → MisAt CM H' z t → lk t = f → Same H H' → Q (.ref z) H'
def spRsh (CM : Addr) : Sp := fun vs H Q _ => ∃ (x y : Addr) (u v : Tab) (cs : List Nat), vs = [.ref x, .ref y] ∧ MisAt CM H x u ∧ MisAt CM H y v ∧ Bnd 64 (lk u) ∧ Bnd 64 (lk v) ∧ Bnd 64 (cF (lk u) (lk v)) ∧ Ovr cs (lk u) ∧ cs.length ≤ 12 ∧ Makes CM H (cF (lk u) (lk v)) Q
section
variable {P : Program} {w : World} {K : PySem.W.Frag} {mg : Str → Option Value} {base : Heap} {CM CJ : Addr}
theorem ok_rshift {f : Addr} {fd : FuncData} (F : Fun K "__rshift__" "Misreading.__rshift__" s_Misreading_rshift f fd) (T : Tz K mg CM CJ) (D_check_other : Df P w K mg base 1 "check_other" (spChkO CM)) (D_first_barred : Mf P w K mg base 1 CM "first_barred" (spFB CM)) (D_image : Mf P w K mg base 1 CM "image" (spImg CM))
    (D_mkJ : MkrJ P w K mg base CJ) (D_mkMJ : MkrM P w K mg base CM CJ) : FnOk P w K mg base CX0 7 f fd ["self", "other"] (spRsh CM) := by
  refine F.ok sc_Misreading_rshift (fun vs H Q E h => ?_) (fun cdv A outer s H vs Q E hr h => ?_)
  · obtain ⟨x, y, u, v, cs, rfl, _⟩ := h
    rfl
  · obtain ⟨x, y, u, v, cs, rfl, mx, my, bu, bv, bc, ov, h12, q⟩ := h
    refine ⟨_, (pss_cons (ps_expr (pe_c D_check_other hr (by decide) (by rfl) (pa_cons (pv 1) pa_nil)))
      (pss_cons (ps_set (i := 2) sc_Misreading_rshift.nd rfl (.inl rfl) pe_dnewK)
      (pss_cons (ps_for PassesOwn.never rfl (pi_tup (pe_fldK (K := K) rfl (pv 0) rfl)) (pg_name (i := 3) sc_Misreading_rshift.nd rfl (.inl rfl))
        (pss_cons (ps_set (i := 4) sc_Misreading_rshift.nd rfl (.inl rfl) (pe_dget (hu_of hr) (pe_fldK (K := K) rfl (pv 0) rfl) (pv 3) (fun _ _ => rfl)))
        (pss_one (ps_if (pt_cmpR op_isN (pe_mt T.cl D_first_barred hr (by decide) (pv 1) (pa_cons (pv 4) pa_nil)) pe_non (nomark _))
          (pss_cons (ps_dput (hu_of hr) (pv 2) (pv 3) (pe_mt T.cl D_image hr (by decide) (pv 1) (pa_cons (pv 4) pa_nil)) rfl)
          (pss_one (ps_if (pt_cmpR op_gt (pe_callB call_len_str (by rfl) T.len (by decide +kernel) (pa_cons (pe_dget (hu_of hr) (pv 2) (pv 3) (fun _ _ => rfl)) pa_nil)) (pe_gv T.gLONGEST_JOINED (by rfl)) (nomark _))
            (pss_one ps_never)
            pss_nil)))
          pss_nil))))
      (pss_one (ps_ret (pe_mkMJ D_mkMJ hr (by decide) (by rfl) (pa_cons (pe_mkJ D_mkJ hr (by decide) (by rfl) (pa_cons (pv 2) pa_nil)) pa_nil))))))), ?_⟩
    have kl := keys_le ov
    obtain ⟨dx, a, b, c', hx, ha, hb, hc⟩ := id mx.at_
    refine ⟨_, rfl, y, v, rfl, my, fun D nD => ?_⟩
    have s0 := same_put (s := Same.refl H) (o := .dK (encT [])) nD
    refine ⟨_, rfl, x, CM, dx, _, _, rfl, s0 _ _ hx, T.cl, T.nL, f3_L a b c', a, rfl, ⟨_, .inl (.inl (s0 _ _ ha))⟩, for_it (walk_tup (K := K) (a := a) (xs := lets (keysOf u))) (fun i σ H2 => (∃ v3 v4 : Option V, σ = [some (.ref x), some (.ref y), some (.ref D), v3, v4]) ∧ Same H H2 ∧ H2 D = some (.dK (encT (mkT (cF (lk u) (lk v)) ((keysOf u).take i))))) ⟨⟨none, none, rfl⟩, s0, upd_same⟩ ?_ ?_ ?_⟩
    · rintro i σ H2 hi ⟨_, s2, _⟩
      exact .inl (.inl (s2 _ _ ha))
    · rintro i z σ H2 H2' hi ⟨⟨v3, v4, rfl⟩, s2, hD⟩ ⟨rfl, hz⟩
      obtain ⟨hik, rfl⟩ := lets_get hz
      have hm := List.getElem_mem hik
      obtain ⟨s, e2⟩ := Option.isSome_iff_exists.mp (keysOf_mem.mp hm).2
      have e3 : lk u (keysOf u)[i] = some s := by rw [← lk_look hm]; exact e2
      have s64 := bu _ _ e3
      refine ⟨_, rfl, x, CM, dx, _, _, rfl, s2 _ _ hx, T.cl, T.nI, f3_I a b c', _, rfl, b, V.str (Sx s), rfl, .inl ⟨_, Sum.inr (L1 (keysOf u)[i]), .inl (s2 _ _ hb), rfl, by rw [valV_enc, look_ims_some hm, e2]; rfl⟩, ?_⟩
      obtain ⟨dy, a2, b2, c2, hy, ha2, hb2, hc2⟩ := id my.at_
      refine ⟨_, rfl, y, dy, _, rfl, s2 _ _ hy, f3_no (by decide +kernel) (by decide +kernel) (by decide +kernel), _, rfl, y, v, s, rfl, my.same s2, by omega, fun r H3 er s3 => ?_, fun k H3 hk en s3 => ?_⟩
      · -- the image is let
        have hn2 := mkT_snoc (cF (lk u) (lk v)) ((keysOf u).take i) (keysOf u)[i]
        have hcf : cF (lk u) (lk v) (keysOf u)[i] = some r := by
          show (lk u (keysOf u)[i]).bind (imF (lk v)) = some r
          rw [e3]
          exact er
        have r64 := bc _ _ hcf
        rw [hcf] at hn2
        refine ⟨rfl, true, rfl, iteT ?_⟩
        refine ⟨_, rfl, y, dy, _, rfl, s3 _ _ (s2 _ _ hy), f3_no (by decide +kernel) (by decide +kernel) (by decide +kernel), _, rfl, y, v, s, r, rfl, (my.same s2).same s3, bv, er, by omega, fun H4 s4 => ?_⟩
        have hD4 := s4 _ _ (s3 _ _ hD)
        have tl := mkT_len (cF (lk u) (lk v)) ((keysOf u).take i)
        rw [List.length_take] at tl
        refine ⟨_, rfl, _, rfl, D, _, rfl, DPut.k (k := Sum.inr (L1 (keysOf u)[i])) hD4 (by rw [encT_len]; exact small1000 (by omega)), ?_⟩
        have eT : (keysOf u).take (i + 1) = (keysOf u).take i ++ [(keysOf u)[i]] := by
          rw [List.take_add_one, List.getElem?_eq_getElem hik]
          rfl
        have nk : (keysOf u)[i] ∉ (mkT (cF (lk u) (lk v)) ((keysOf u).take i)).map (·.1) := fun z => by
          have h1 := mkT_keys _ _ _ z
          have nd := keysOf_nd u
          rw [← List.take_append_drop (i + 1) (keysOf u), eT] at nd
          exact (List.nodup_append.mp (List.nodup_append.mp nd).1).2.2 _ h1 _ (by simp) rfl
        have ep : putK (encT (mkT (cF (lk u) (lk v)) ((keysOf u).take i))) (Sum.inr (L1 (keysOf u)[i])) (V.str (Sx r)) = encT (mkT (cF (lk u) (lk v)) ((keysOf u).take (i + 1))) := by
          rw [putK_enc, putT_new nk, eT, hn2]
        rw [ep]
        have s5 : Same H (upd H4 D (.dK (encT (mkT (cF (lk u) (lk v)) ((keysOf u).take (i + 1)))))) := same_over (s := fun b o e => s4 _ _ (s3 _ _ (s2 _ _ e))) nD
        have hD5 : upd H4 D (.dK (encT (mkT (cF (lk u) (lk v)) ((keysOf u).take (i + 1))))) D = some (.dK (encT (mkT (cF (lk u) (lk v)) ((keysOf u).take (i + 1))))) := upd_same
        have lkn : lookT (mkT (cF (lk u) (lk v)) ((keysOf u).take (i + 1))) (keysOf u)[i] = some r := by
          rw [eT, hn2, look_app nk, if_pos rfl]
        refine ⟨_, rfl, _, rfl, D, V.str (Sx r), rfl, .inl ⟨_, Sum.inr (L1 (keysOf u)[i]), .inl hD5, rfl, by rw [valV_enc, lkn]; rfl⟩, _, rfl, by rw [Sx_len, sizeLine_eq]; omega, _, _, rfl, rfl, _, rfl, ?_⟩
        rw [Sx_len, decide_eq_false (by show ¬ ((64 : Int) < (r.length : Int)); omega)]
        exact iteF ⟨⟨_, _, rfl⟩, s5, hD5⟩
      · -- it is barred
        refine ⟨rfl, false, rfl, iteF ⟨⟨_, _, rfl⟩, fun b o e => s3 _ _ (s2 _ _ e), ?_⟩⟩
        have hcf : cF (lk u) (lk v) (keysOf u)[i] = none := by
          show (lk u (keysOf u)[i]).bind (imF (lk v)) = none
          rw [e3]
          exact en
        rw [List.take_add_one, List.getElem?_eq_getElem hik]
        show H3 D = some (.dK (encT (mkT _ ((keysOf u).take i ++ [(keysOf u)[i]]))))
        rw [mkT_snoc, hcf]
        show H3 D = some (.dK (encT (mkT _ ((keysOf u).take i) ++ [])))
        rw [List.append_nil]
        exact s3 _ _ hD
    · rintro σ H2 ⟨⟨v3, v4, rfl⟩, s2, hD⟩
      rw [lets_len, List.take_length] at hD
      have tl := mkT_len (cF (lk u) (lk v)) (keysOf u)
      refine ⟨_, rfl, D, rfl, fun j dj H3 nj hj s3 => ?_⟩
      refine ⟨j, dj, D, _, rfl, hj, s3 _ _ hD, by omega, fun z H4 nz mz s4 => ?_⟩
      refine q z H4 _ (same_none (s := fun b o e => s3 _ _ (s2 _ _ e)) nz) mz (mkT_lk (keysOf_nd u) fun c s h => ?_) fun b o e => s4 _ _ (s3 _ _ (s2 _ _ e))
      have hm : c ∈ keysOf u := lk_mem.mpr (by
        have h' : (lk u c).bind (imF (lk v)) = some s := h
        cases e : lk u c with
        | none =>
          rw [e] at h'
          cases h'
        | some z => rfl)
      exact ⟨hm, keys_abc hm⟩
end
end V8
set_option Elab.async false
set_option linter.all false
set_option maxRecDepth 100000
set_option maxHeartbeats 8000000
/-! Values of any kind copied. -/
namespace V8
open PySem PySem.Spec PyProof.Rows L2
abbrev s_copied : Stmt := topS 1
abbrev n_copied : List Str := ["value", "part", "key"]
theorem sc_copied : FnScope ["value", "part", "key"] ["value"] (defScope s_copied) := ⟨rfl, rfl, rfl, by decide +kernel, rfl, by decide +kernel, by decide +kernel⟩
theorem valV_at : ∀ {kvs : List (Key × V)} {i : Nat} {k : Key} {v : V}, (kvs.map (·.1)).Nodup → kvs[i]? = some (k, v) → valV kvs k = some v
  | [], i, k, v, _, h => by simp at h
  | p :: r, 0, k, v, _, h => by
    obtain rfl : p = (k, v) := by simpa using h
    simp [valV]
  | p :: r, i + 1, k, v, nd, h => by
    have h2 : r[i]? = some (k, v) := by simpa using h
    have nd2 := List.nodup_cons.mp (by simpa using nd : (p.1 :: r.map (·.1)).Nodup)
    have ne : ¬ p.1 = k := fun z => nd2.1 (z ▸ List.mem_map.mpr ⟨(k, v), List.mem_of_getElem? h2, rfl⟩)
    have ih := valV_at nd2.2 h2
    unfold valV at ih ⊢
    rw [List.find?_cons_of_neg (by simpa using ne)]
    exact ih
theorem not_take {kvs : List (Key × V)} {i : Nat} {k : Key} {v : V} (nd : (kvs.map (·.1)).Nodup) (h : kvs[i]? = some (k, v)) : k ∉ (kvs.take i).map (·.1) := by
  obtain ⟨hi, e⟩ := List.getElem?_eq_some_iff.mp h
  intro z
  rw [← List.take_append_drop i kvs, List.map_append, List.drop_eq_getElem_cons hi, e, List.map_cons] at nd
  exact (List.nodup_append.mp nd).2.2 _ z _ List.mem_cons_self rfl
/-- names that the text does not take -/
structure Tq (mg : Str → Option Value) : Prop extends Blt mg where
  isinstance : mg "isinstance" = none
  repr : mg "repr" = none
  enumerate : mg "enumerate" = none
/-- no list, tuple, dict, object -/
def Flat (x : V) : Prop := (∃ z, x = .str z) ∨ (∃ i, x = .int i) ∨ x = .non ∨ ∃ b, x = .bl b
theorem Flat.ty {K : PySem.W.Frag} {x : V} (f : Flat x) : ∃ t, (∀ H : Hp, TyX K H x t) ∧ PySem.W.kitOne K t (.type "list") = some false ∧ PySem.W.kitOne K t (.type "tuple") = some false ∧ PySem.W.kitOne K t (.type "dict") = some false := by
  rcases f with ⟨z, rfl⟩ | ⟨i, rfl⟩ | rfl | ⟨b, rfl⟩
  · exact ⟨_, fun _ => ty_str _, kit_ty (by decide +kernel), kit_ty (by decide +kernel), kit_ty (by decide +kernel)⟩
  · exact ⟨_, fun _ => .base (.int i), kit_ty (by decide +kernel), kit_ty (by decide +kernel), kit_ty (by decide +kernel)⟩
  · exact ⟨_, fun _ => .base .non, kit_ty (by decide +kernel), kit_ty (by decide +kernel), kit_ty (by decide +kernel)⟩
  · exact ⟨_, fun _ => .base (.bl b), kit_ty (by decide +kernel), kit_ty (by decide +kernel), kit_ty (by decide +kernel)⟩
theorem Flat.pyw {H H2 : Hp} {x : V} {d : PyData} (f : Flat x) (p : PyW H x d) : PyW H2 x d := by
  rcases f with ⟨z, rfl⟩ | ⟨i, rfl⟩ | rfl | ⟨b, rfl⟩ <;> cases p <;> constructor
theorem flats_pyw {H H2 : Hp} : ∀ {xs : List V} {ds : List PyData}, (∀ y ∈ xs, Flat y) → PyWs H xs ds → PyWs H2 xs ds
  | _, _, _, .nil => .nil
  | _, _, f, .cons h r => .cons ((f _ (List.mem_cons_self ..)).pyw h) (flats_pyw (fun y hy => f y (List.mem_cons_of_mem _ hy)) r)
/-- a flat value is handed back as it is -/
def spCopied (K : PySem.W.Frag) : Sp := fun vs H Q _ => ∃ (x : V) (t : Value), vs = [x] ∧ TyX K H x t ∧ PySem.W.kitOne K t (.type "list") = some false ∧ PySem.W.kitOne K t (.type "tuple") = some false ∧ PySem.W.kitOne K t (.type "dict") = some false ∧ Q x H
/-- flat, or a tuple, list or dict of such -/
def Told2 (H : Hp) (x : V) : Prop := Flat x ∨ (∃ a xs, x = .ref a ∧ (H a = some (.tup xs) ∨ H a = some (.lst xs)) ∧ xs.length ≤ 100 ∧ ∀ y ∈ xs, Flat y) ∨ ∃ a kvs, x = .ref a ∧ H a = some (.dK kvs) ∧ kvs.length ≤ 15 ∧ (kvs.map (·.1)).Nodup ∧ ∀ y ∈ kvs.map (·.2), Flat y
theorem Told2.same {H H2 : Hp} {x : V} (t : Told2 H x) (s : Same H H2) : Told2 H2 x := by
  rcases t with f | ⟨a, xs, e, h, l, g⟩ | ⟨a, kvs, e, h, l, n, g⟩
  · exact .inl f
  · exact .inr (.inl ⟨a, xs, e, h.imp (s _ _) (s _ _), l, g⟩)
  · exact .inr (.inr ⟨a, kvs, e, s _ _ h, l, n, g⟩)
theorem putK_new {kvs : List (Key × V)} {k : Key} {v : V} (h : k ∉ kvs.map (·.1)) : putK kvs k v = kvs ++ [(k, v)] := by
  unfold putK
  rw [if_neg]
  intro z
  obtain ⟨p, hp, e⟩ := List.any_eq_true.mp z
  have e2 : p.1 = k := by simpa using e
  exact h (e2 ▸ List.mem_map.mpr ⟨p, hp, rfl⟩)
def spCopyW : Sp := fun vs H Q _ => ∃ (x : V) (d : PyData), vs = [x] ∧ Told2 H x ∧ PyW H x d ∧ ∀ y H', Same H H' → PyW H' y d → Q y H'
section
variable {P : Program} {w : World} {K : PySem.W.Frag} {mg : Str → Option Value} {base : Heap}
theorem ok_copied {f : Addr} {fd : FuncData} (F : Fun K "copied" "copied" s_copied f fd) (T : Tq mg) (D_copied : Df P w K mg base 0 "copied" fun _ _ _ _ => False) : FnOk P w K mg base CX0 1 f fd ["value"] (spCopied K) := by
  refine F.ok sc_copied (fun vs H Q E h => ?_) (fun cdv A outer s H vs Q E hr h => ?_)
  · obtain ⟨x, t, rfl, _⟩ := h
    rfl
  · obtain ⟨x, t, rfl, ty, e1, e2, e3, q⟩ := h
    refine ⟨_, (pss_cons (ps_if (pt_val (pe_callB call_isi (by rfl) T.isinstance (by decide +kernel) (pa_cons (pv 0) (pa_cons (pe_bltn (v := .ty "list") (by rfl) T.list (by decide +kernel) rfl) pa_nil))))
        (pss_one (ps_ret (pe_lc (own := [("part", 1)]) (g := gName 1) (by rfl) sc_copied.nd (pi_list (pv 0)) (blkOk_by (own := [("part", 1)]) (N := n_copied) (sc := defScope s_copied) (by decide +kernel)) (fun _ _ _ _ _ => (pg_name (i := 1) sc_copied.nd rfl (.inl rfl))) (fun _ _ _ _ _ => pts_nil) (fun _ _ _ _ _ => (pe_c D_copied hr (by decide) (by rfl) (pa_cons (pv 1) pa_nil))))))
        pss_nil)
      (pss_cons (ps_if (pt_val (pe_callB call_isi (by rfl) T.isinstance (by decide +kernel) (pa_cons (pv 0) (pa_cons (pe_bltn (v := .ty "tuple") (by rfl) T.tuple (by decide +kernel) rfl) pa_nil))))
        (pss_one (ps_ret (pe_callTy (call_tuple_ofK (K := K) rfl) (by rfl) T.tuple (by decide +kernel) (pa_cons (pe_lc (own := [("part", 1)]) (g := gName 1) (by rfl) sc_copied.nd (pi_tup (pv 0)) (blkOk_by (own := [("part", 1)]) (N := n_copied) (sc := defScope s_copied) (by decide +kernel)) (fun _ _ _ _ _ => (pg_name (i := 1) sc_copied.nd rfl (.inl rfl))) (fun _ _ _ _ _ => pts_nil) (fun _ _ _ _ _ => (pe_c D_copied hr (by decide) (by rfl) (pa_cons (pv 1) pa_nil)))) pa_nil))))
        pss_nil)
      (pss_cons (ps_if (pt_val (pe_callB call_isi (by rfl) T.isinstance (by decide +kernel) (pa_cons (pv 0) (pa_cons (pe_bltn (v := .ty "dict") (by rfl) T.dict (by decide +kernel) rfl) pa_nil))))
        (pss_one (ps_ret (pe_lock (pe_dc (own := [("key", 2)]) (g := gName 2) (by rfl) sc_copied.nd (pi_keys (pv 0)) (blkOk_by (own := [("key", 2)]) (N := n_copied) (sc := defScope s_copied) (by decide +kernel)) (fun _ _ _ _ _ => (pg_name (i := 2) sc_copied.nd rfl (.inl rfl))) (fun _ _ _ _ _ => pts_nil) (fun _ _ _ _ _ => (pv 2)) (fun _ _ _ _ _ => (pe_c D_copied hr (by decide) (by rfl) (pa_cons (pe_dget (hu_of hr) (pv 0) (pv 2) (fun _ _ => rfl)) pa_nil)))))))
        pss_nil)
      (pss_one (ps_ret (pv 0)))))), ?_⟩
    refine ⟨_, rfl, _, .ty "list", t, .type "list", false, rfl, .ty _, ty, e1, false, rfl, iteF ?_⟩
    refine ⟨_, rfl, _, .ty "tuple", t, .type "tuple", false, rfl, .ty _, ty, e2, false, rfl, iteF ?_⟩
    refine ⟨_, rfl, _, .ty "dict", t, .type "dict", false, rfl, .ty _, ty, e3, false, rfl, iteF ?_⟩
    exact ⟨_, rfl, q⟩
theorem ok_copyW {f : Addr} {fd : FuncData} (F : Fun K "copied" "copied" s_copied f fd) (T : Tq mg) (D_copied : Df P w K mg base 1 "copied" (spCopied K)) : FnOk P w K mg base CX0 2 f fd ["value"] spCopyW := by
  refine F.ok sc_copied (fun vs H Q E h => ?_) (fun cdv A outer s H vs Q E hr h => ?_)
  · obtain ⟨x, d, rfl, _⟩ := h
    rfl
  · obtain ⟨x, d, rfl, tl, pv0, q⟩ := h
    refine ⟨_, (pss_cons (ps_if (pt_val (pe_callB call_isi (by rfl) T.isinstance (by decide +kernel) (pa_cons (pv 0) (pa_cons (pe_bltn (v := .ty "list") (by rfl) T.list (by decide +kernel) rfl) pa_nil))))
        (pss_one (ps_ret (pe_lc (own := [("part", 1)]) (g := gName 1) (by rfl) sc_copied.nd (pi_list (pv 0)) (blkOk_by (own := [("part", 1)]) (N := n_copied) (sc := defScope s_copied) (by decide +kernel)) (fun _ _ _ _ _ => (pg_name (i := 1) sc_copied.nd rfl (.inl rfl))) (fun _ _ _ _ _ => pts_nil) (fun _ _ _ _ _ => (pe_c D_copied hr (by decide) (by rfl) (pa_cons (pv 1) pa_nil))))))
        pss_nil)
      (pss_cons (ps_if (pt_val (pe_callB call_isi (by rfl) T.isinstance (by decide +kernel) (pa_cons (pv 0) (pa_cons (pe_bltn (v := .ty "tuple") (by rfl) T.tuple (by decide +kernel) rfl) pa_nil))))
        (pss_one (ps_ret (pe_callTy (call_tuple_ofK (K := K) rfl) (by rfl) T.tuple (by decide +kernel) (pa_cons (pe_lc (own := [("part", 1)]) (g := gName 1) (by rfl) sc_copied.nd (pi_tup (pv 0)) (blkOk_by (own := [("part", 1)]) (N := n_copied) (sc := defScope s_copied) (by decide +kernel)) (fun _ _ _ _ _ => (pg_name (i := 1) sc_copied.nd rfl (.inl rfl))) (fun _ _ _ _ _ => pts_nil) (fun _ _ _ _ _ => (pe_c D_copied hr (by decide) (by rfl) (pa_cons (pv 1) pa_nil)))) pa_nil))))
        pss_nil)
      (pss_cons (ps_if (pt_val (pe_callB call_isi (by rfl) T.isinstance (by decide +kernel) (pa_cons (pv 0) (pa_cons (pe_bltn (v := .ty "dict") (by rfl) T.dict (by decide +kernel) rfl) pa_nil))))
        (pss_one (ps_ret (pe_lock (pe_dc (own := [("key", 2)]) (g := gName 2) (by rfl) sc_copied.nd (pi_keys (pv 0)) (blkOk_by (own := [("key", 2)]) (N := n_copied) (sc := defScope s_copied) (by decide +kernel)) (fun _ _ _ _ _ => (pg_name (i := 2) sc_copied.nd rfl (.inl rfl))) (fun _ _ _ _ _ => pts_nil) (fun _ _ _ _ _ => (pv 2)) (fun _ _ _ _ _ => (pe_c D_copied hr (by decide) (by rfl) (pa_cons (pe_dget (hu_of hr) (pv 0) (pv 2) (fun _ _ => rfl)) pa_nil)))))))
        pss_nil)
      (pss_one (ps_ret (pv 0)))))), ?_⟩
    rcases tl with f | ⟨a, xs, rfl, ha | ha, l, fl⟩ | ⟨a, kvs, rfl, ha, l, nd, fl⟩
    · obtain ⟨t, ty, e1, e2, e3⟩ := f.ty (K := K)
      refine ⟨_, rfl, _, .ty "list", t, .type "list", false, rfl, .ty _, ty _, e1, false, rfl, iteF ?_⟩
      refine ⟨_, rfl, _, .ty "tuple", t, .type "tuple", false, rfl, .ty _, ty _, e2, false, rfl, iteF ?_⟩
      refine ⟨_, rfl, _, .ty "dict", t, .type "dict", false, rfl, .ty _, ty _, e3, false, rfl, iteF ?_⟩
      exact ⟨_, rfl, q _ _ (Same.refl H) pv0⟩
    · refine ⟨_, rfl, _, .ty "list", .type "tuple", .type "list", false, rfl, .ty _, .base (.tup ha), kit_ty (by decide +kernel), false, rfl, iteF ?_⟩
      refine ⟨_, rfl, _, .ty "tuple", .type "tuple", .type "tuple", true, rfl, .ty _, .base (.tup ha), kit_ty (by decide +kernel), true, rfl, iteT ?_⟩
      refine ⟨_, rfl, a, rfl, ⟨_, .inl (.inl ha)⟩, fun D nD => lc_it (walk_tup (K := K) (a := a) (xs := xs)) (fun i H2 => H2 = upd H D (.lst (xs.take i))) rfl ?_ ?_ ?_⟩
      · rintro i H2 hi rfl
        exact .inl (.inl (by rw [upd_ne (ne_of_none ha nD)]; exact ha))
      · rintro i y H2 H3 hi rfl ⟨rfl, hy⟩
        obtain ⟨hi', ey⟩ := List.getElem?_eq_some_iff.mp hy
        obtain ⟨t, ty, e1, e2, e3⟩ := (fl y (ey ▸ List.getElem_mem hi')).ty (K := K)
        refine ⟨rfl, _, rfl, y, t, rfl, ty _, e1, e2, e3, _, upd_same, ?_, ?_⟩
        · rw [List.length_take, sizeLine_eq]
          omega
        · rw [upd_upd, List.take_add_one, hy]
          rfl
      · rintro H2 rfl
        rw [List.take_length]
        refine ⟨D, xs, rfl, .inl ⟨SqL.of upd_same, fun b nb => ?_⟩⟩
        cases pv0 with
        | tup h r =>
          rw [ha] at h
          cases h
          exact q _ _ (same_put (s := same_put (s := Same.refl H) nD) nb) (.tup upd_same (flats_pyw fl r))
        | lst h r =>
          rw [ha] at h
          cases h
        | dic h r =>
          rw [ha] at h
          cases h
    · refine ⟨_, rfl, _, .ty "list", .type "list", .type "list", true, rfl, .ty _, .base (.lst ha), kit_ty (by decide +kernel), true, rfl, iteT ?_⟩
      refine ⟨_, rfl, a, rfl, ⟨_, SqL.of ha⟩, fun D nD => lc_it (walk_list (K := K) (a := a) (xs := xs)) (fun i H2 => H2 = upd H D (.lst (xs.take i))) rfl ?_ ?_ ?_⟩
      · rintro i H2 hi rfl
        exact SqL.of (by rw [upd_ne (ne_of_none ha nD)]; exact ha)
      · rintro i y H2 H3 hi rfl ⟨rfl, hy⟩
        obtain ⟨hi', ey⟩ := List.getElem?_eq_some_iff.mp hy
        obtain ⟨t, ty, e1, e2, e3⟩ := (fl y (ey ▸ List.getElem_mem hi')).ty (K := K)
        refine ⟨rfl, _, rfl, y, t, rfl, ty _, e1, e2, e3, _, upd_same, ?_, ?_⟩
        · rw [List.length_take, sizeLine_eq]
          omega
        · rw [upd_upd, List.take_add_one, hy]
          rfl
      · rintro H2 rfl
        rw [List.take_length]
        cases pv0 with
        | tup h r =>
          rw [ha] at h
          cases h
        | lst h r =>
          rw [ha] at h
          cases h
          exact q _ _ (same_put (s := Same.refl H) nD) (.lst upd_same (flats_pyw fl r))
        | dic h r =>
          rw [ha] at h
          cases h
    · refine ⟨_, rfl, _, .ty "list", .type "dict", .type "list", false, rfl, .ty _, .base (.dK ha), kit_ty (by decide +kernel), false, rfl, iteF ?_⟩
      refine ⟨_, rfl, _, .ty "tuple", .type "dict", .type "tuple", false, rfl, .ty _, .base (.dK ha), kit_ty (by decide +kernel), false, rfl, iteF ?_⟩
      refine ⟨_, rfl, _, .ty "dict", .type "dict", .type "dict", true, rfl, .ty _, .base (.dK ha), kit_ty (by decide +kernel), true, rfl, iteT ?_⟩
      refine ⟨a, _, ha, True.intro, fun od => ⟨_, rfl, a, od, rfl, .inl ⟨_, upd_same, fun D nD => dc_it (walk_keys (d := a) (o := od) (kvs := kvs)) (fun i H2 => H2 = upd (upd H a (.frz od (.dK kvs))) D (.dK (kvs.take i))) rfl ?_ ?_ ?_⟩⟩⟩
      · rintro i H2 hi rfl
        rw [upd_ne (ne_of_none upd_same nD)]
        exact upd_same
      · rintro i x H2 H3 hi rfl ⟨rfl, k, v, hk, rfl⟩
        obtain ⟨hi', ek⟩ := List.getElem?_eq_some_iff.mp hk
        obtain ⟨t, ty, e1, e2, e3⟩ := (fl v (List.mem_map.mpr ⟨(k, v), ek ▸ List.getElem_mem hi', rfl⟩)).ty (K := K)
        have ad : a ≠ D := ne_of_none (show upd H a (.frz od (.dK kvs)) a = _ from upd_same) nD
        refine ⟨rfl, _, rfl, _, rfl, _, rfl, a, v, rfl, .inl ⟨kvs, k, .inr ⟨od, by rw [upd_ne ad]; exact upd_same⟩, rfl, (valV_at nd hk).symm⟩, v, t, rfl, ty _, e1, e2, e3, kvs.take i, k, rfl, upd_same, ?_, ?_⟩
        · rw [List.length_take, sizeLine_eq]
          omega
        · rw [upd_upd, putK_new (not_take nd hk), List.take_add_one, hk]
          rfl
      · rintro H2 rfl
        rw [List.take_length]
        have ad : a ≠ D := ne_of_none (show upd H a (.frz od (.dK kvs)) a = _ from upd_same) nD
        have nD2 : H D = none := by
          rw [upd_ne (Ne.symm ad)] at nD
          exact nD
        have eH : upd (upd (upd H a (.frz od (.dK kvs))) D (.dK kvs)) a (.dK kvs) = upd H D (.dK kvs) := by
          funext b
          by_cases h1 : b = a
          · rw [h1, upd_same, upd_ne ad, ha]
          · by_cases h2 : b = D
            · rw [h2, upd_ne (Ne.symm ad), upd_same, upd_same]
            · rw [upd_ne h1, upd_ne h2, upd_ne h1, upd_ne h2]
        refine ⟨by rw [upd_ne ad]; exact upd_same, ?_⟩
        rw [eH]
        cases pv0 with
        | tup h r =>
          rw [ha] at h
          cases h
        | lst h r =>
          rw [ha] at h
          cases h
        | dic h r =>
          rw [ha] at h
          cases h
          exact q _ _ (same_put (s := Same.refl H) nD2) (.dic upd_same (flats_pyw fl r))
end
end V8
set_option Elab.async false
set_option linter.all false
/-! Meetings of two lists of words with labels, and words told apart: no program yet. -/
namespace MZ
abbrev Wd := List Nat
/-- a word and its label -/
abbrev Pr := Wd × Nat
def cat (xs : List Pr) : Wd := (xs.map (·.1)).flatten
def lab (xs : List Pr) : List Nat := xs.map (·.2)
theorem cat_nil : cat [] = [] := rfl
theorem cat_cons (x : Pr) (xs : List Pr) : cat (x :: xs) = x.1 ++ cat xs := rfl
theorem cat_app (xs ys : List Pr) : cat (xs ++ ys) = cat xs ++ cat ys := by
  unfold cat
  rw [List.map_append, List.flatten_append]
theorem lab_app (xs ys : List Pr) : lab (xs ++ ys) = lab xs ++ lab ys := List.map_append ..
theorem cat_one (x : Pr) : cat [x] = x.1 := by rw [cat_cons, cat_nil, List.append_nil]
/-- where a row comes to, or the start, or the end -/
inductive Pl where
  | start
  | fin
  | rest (one : Bool) (w : Wd)
  deriving DecidableEq
/-- where the row that is not ahead comes to with a word -/
def behind (a : Bool) (r w : Wd) : Option Pl :=
  if w = r then some .fin
  else if w.isPrefixOf r then some (.rest a (r.drop w.length))
  else if r.isPrefixOf w then some (.rest (!a) (w.drop r.length))
  else none
/-- a step: who takes, its label, where to -/
abbrev Mo := Bool × Nat × Pl
def moves (P S : List Pr) : Pl → List Mo
  | .fin => []
  | .start => P.map fun q => (true, q.2, .rest true q.1)
  | .rest a r => (if a = true then S else P).filterMap fun q => (behind a r q.1).map fun t => (!a, q.2, t)
/-- the labels of both rows with one more -/
def put (t : Bool) (l : Nat) (w : List Nat × List Nat) : List Nat × List Nat := if t = true then (w.1 ++ [l], w.2) else (w.1, w.2 ++ [l])
/-- a way from a place to another one, with its labels behind some -/
inductive Way (P S : List Pr) (o : Pl) : Pl → List Nat × List Nat → Prop where
  | nil : Way P S o o ([], [])
  | step {p : Pl} {w : List Nat × List Nat} {t : Bool} {l : Nat} {q : Pl} : Way P S o p w → (t, l, q) ∈ moves P S p → Way P S o q (put t l w)
theorem behind_cases {a : Bool} {r w : Wd} {t : Pl} (h : behind a r w = some t) : (w = r ∧ t = .fin) ∨ (∃ z, z ≠ [] ∧ r = w ++ z ∧ t = .rest a z) ∨ ∃ z, z ≠ [] ∧ w = r ++ z ∧ t = .rest (!a) z := by
  unfold behind at h
  split at h
  · exact .inl ⟨by assumption, (Option.some.inj h).symm⟩
  · rename_i ne
    split at h
    · rename_i p
      obtain ⟨z, rfl⟩ := List.isPrefixOf_iff_prefix.mp p
      refine .inr (.inl ⟨z, fun e => ?_, rfl, ?_⟩)
      · subst e
        exact ne (List.append_nil _).symm
      · rw [← Option.some.inj h, List.drop_left]
    · split at h
      · rename_i p
        obtain ⟨z, rfl⟩ := List.isPrefixOf_iff_prefix.mp p
        refine .inr (.inr ⟨z, fun e => ?_, rfl, ?_⟩)
        · subst e
          exact ne (List.append_nil _)
        · rw [← Option.some.inj h, List.drop_left]
      · cases h
theorem behind_eq (a : Bool) (r : Wd) : behind a r r = some .fin := if_pos rfl
theorem behind_lt (a : Bool) {r w z : Wd} (h : r = w ++ z) (hz : z ≠ []) : behind a r w = some (.rest a z) := by
  subst h
  unfold behind
  rw [if_neg, if_pos (List.isPrefixOf_iff_prefix.mpr ⟨z, rfl⟩), List.drop_left]
  intro e
  exact hz (List.append_cancel_left ((List.append_nil w).trans e)).symm
theorem behind_gt (a : Bool) {r w z : Wd} (h : w = r ++ z) (hz : z ≠ []) : behind a r w = some (.rest (!a) z) := by
  subst h
  unfold behind
  rw [if_neg, if_neg, if_pos (List.isPrefixOf_iff_prefix.mpr ⟨z, rfl⟩), List.drop_left]
  · intro p
    obtain ⟨y, e⟩ := List.isPrefixOf_iff_prefix.mp p
    rw [List.append_assoc] at e
    have e2 := List.append_cancel_left (e.trans (List.append_nil r).symm)
    exact hz (List.append_eq_nil_iff.mp e2).1
  · intro e
    exact hz (List.append_cancel_left (e.trans (List.append_nil r).symm))
/-- what stands at a place: the rows' texts so far -/
def At (p : Pl) (x y : Wd) : Prop := match p with
  | .start => x = [] ∧ y = []
  | .fin => x = y
  | .rest true r => x = y ++ r
  | .rest false r => y = x ++ r
/-- the words behind the labels of a way -/
theorem way_words {P S : List Pr} {p : Pl} {w : List Nat × List Nat} (h : Way P S .start p w) : ∃ xs ys, (∀ x ∈ xs, x ∈ P) ∧ (∀ y ∈ ys, y ∈ S) ∧ lab xs = w.1 ∧ lab ys = w.2 ∧ At p (cat xs) (cat ys) := by
  induction h with
  | nil => exact ⟨[], [], by simp, by simp, rfl, rfl, rfl, rfl⟩
  | @step p w t l q h m ih =>
    obtain ⟨xs, ys, hx, hy, lx, ly, at_⟩ := ih
    cases p with
    | fin => cases m
    | start =>
      obtain ⟨x, hxP, e⟩ := List.mem_map.mp m
      cases e
      obtain ⟨e1, e2⟩ := at_
      refine ⟨xs ++ [x], ys, fun z hz => ?_, hy, by rw [lab_app, lx]; rfl, ly, ?_⟩
      · rcases List.mem_append.mp hz with h | h
        · exact hx z h
        · rw [List.mem_singleton.mp h]
          exact hxP
      · show cat (xs ++ [x]) = cat ys ++ x.1
        rw [cat_app, e1, e2, cat_one]
    | rest a r =>
      obtain ⟨z, hz, e⟩ := List.mem_filterMap.mp m
      obtain ⟨q', eb, e2⟩ := Option.map_eq_some_iff.mp e
      cases e2
      cases a with
      | true =>
        have hz : z ∈ S := hz
        have at_ : cat xs = cat ys ++ r := at_
        refine ⟨xs, ys ++ [z], hx, fun y hy2 => ?_, lx, by rw [lab_app, ly]; rfl, ?_⟩
        · rcases List.mem_append.mp hy2 with h | h
          · exact hy y h
          · rw [List.mem_singleton.mp h]
            exact hz
        · rw [cat_app, cat_one]
          rcases behind_cases eb with ⟨e3, rfl⟩ | ⟨v, _, e3, rfl⟩ | ⟨v, _, e3, rfl⟩
          · show cat xs = _
            rw [at_, e3]
          · show cat xs = _ ++ v
            rw [at_, e3, List.append_assoc]
          · show _ = cat xs ++ v
            rw [at_, e3, List.append_assoc]
      | false =>
        have hz : z ∈ P := hz
        have at_ : cat ys = cat xs ++ r := at_
        refine ⟨xs ++ [z], ys, fun y hy2 => ?_, hy, by rw [lab_app, lx]; rfl, ly, ?_⟩
        · rcases List.mem_append.mp hy2 with h | h
          · exact hx y h
          · rw [List.mem_singleton.mp h]
            exact hz
        · rw [cat_app, cat_one]
          rcases behind_cases eb with ⟨e3, rfl⟩ | ⟨v, _, e3, rfl⟩ | ⟨v, _, e3, rfl⟩
          · show _ = cat ys
            rw [at_, e3]
          · show cat ys = _ ++ v
            rw [at_, e3, List.append_assoc]
          · show _ = cat ys ++ v
            rw [at_, e3, List.append_assoc]
theorem Way.trans {P S : List Pr} {o p q : Pl} {w v : List Nat × List Nat} (h : Way P S o p w) (k : Way P S p q v) : Way P S o q (w.1 ++ v.1, w.2 ++ v.2) := by
  induction k with
  | nil =>
    rw [List.append_nil, List.append_nil]
    exact h
  | @step r v t l q k m ih =>
    have z := ih.step m
    cases t with
    | true =>
      have e : put true l (w.1 ++ v.1, w.2 ++ v.2) = (w.1 ++ (put true l v).1, w.2 ++ (put true l v).2) := by
        show ((w.1 ++ v.1) ++ [l], _) = (w.1 ++ (v.1 ++ [l]), _)
        rw [List.append_assoc]
        rfl
      exact e ▸ z
    | false =>
      have e : put false l (w.1 ++ v.1, w.2 ++ v.2) = (w.1 ++ (put false l v).1, w.2 ++ (put false l v).2) := by
        show (_, (w.2 ++ v.2) ++ [l]) = (_, w.2 ++ (v.2 ++ [l]))
        rw [List.append_assoc]
        rfl
      exact e ▸ z
/-- from a rest on: the rows' words lead to the end, if what is ahead is taken up -/
theorem way_on {P S : List Pr} (hP : ∀ q ∈ P, q.1 ≠ []) (hS : ∀ q ∈ S, q.1 ≠ []) : ∀ (n : Nat) (a : Bool) (r : Wd) (xs ys : List Pr), xs.length + ys.length ≤ n → r ≠ [] → (∀ x ∈ xs, x ∈ P) → (∀ y ∈ ys, y ∈ S) → (if a = true then r ++ cat xs = cat ys else r ++ cat ys = cat xs) →
    ∃ xs1 xs2 ys1 ys2, xs = xs1 ++ xs2 ∧ ys = ys1 ++ ys2 ∧ Way P S (.rest a r) .fin (lab xs1, lab ys1) ∧ cat xs2 = cat ys2
  | 0, a, r, xs, ys, hn, hr, hx, hy, e => by
    have e1 : xs = [] := List.eq_nil_of_length_eq_zero (by omega)
    have e2 : ys = [] := List.eq_nil_of_length_eq_zero (by omega)
    subst e1 e2
    cases a with
    | true =>
      have e : r ++ [] = [] := e
      rw [List.append_nil] at e
      exact absurd e hr
    | false =>
      have e : r ++ [] = [] := e
      rw [List.append_nil] at e
      exact absurd e hr
  | n + 1, true, r, xs, ys, hn, hr, hx, hy, e => by
    have e : r ++ cat xs = cat ys := e
    cases ys with
    | nil =>
      rw [cat_nil] at e
      exact absurd (List.append_eq_nil_iff.mp e).1 hr
    | cons y ys =>
      rw [cat_cons] at e
      have hyS := hy y List.mem_cons_self
      have hys := fun z hz => hy z (List.mem_cons_of_mem _ hz)
      rw [List.length_cons] at hn
      have mv : ∀ {t : Pl}, behind true r y.1 = some t → (false, y.2, t) ∈ moves P S (.rest true r) := fun {t} h => List.mem_filterMap.mpr ⟨y, hyS, by rw [h]; rfl⟩
      rcases List.append_eq_append_iff.mp e with ⟨z, e1, e2⟩ | ⟨z, e1, e2⟩
      · -- y.1 = r ++ z
        by_cases hz : z = []
        · subst hz
          rw [List.append_nil] at e1
          refine ⟨[], xs, [y], ys, rfl, rfl, ?_, by rw [e2]; rfl⟩
          have h := Way.step (P := P) (S := S) (.nil (o := .rest true r)) (mv (by rw [e1]; exact behind_eq true r))
          exact h
        · obtain ⟨x1, x2, y1, y2, ex, ey, k, e3⟩ := way_on hP hS n false z xs ys (by omega) hz hx hys (by show z ++ cat ys = cat xs; exact e2.symm)
          refine ⟨x1, x2, y :: y1, y2, ex, by rw [ey]; rfl, ?_, e3⟩
          have h := (Way.step (P := P) (S := S) (.nil (o := .rest true r)) (mv (behind_gt true e1 hz))).trans k
          exact h
      · -- r = y.1 ++ z
        by_cases hz : z = []
        · subst hz
          rw [List.append_nil] at e1
          refine ⟨[], xs, [y], ys, rfl, rfl, ?_, e2.symm⟩
          have h := Way.step (P := P) (S := S) (.nil (o := .rest true r)) (mv (by rw [← e1]; exact behind_eq true r))
          exact h
        · obtain ⟨x1, x2, y1, y2, ex, ey, k, e3⟩ := way_on hP hS n true z xs ys (by omega) hz hx hys (by show z ++ cat xs = cat ys; exact e2.symm)
          refine ⟨x1, x2, y :: y1, y2, ex, by rw [ey]; rfl, ?_, e3⟩
          have h := (Way.step (P := P) (S := S) (.nil (o := .rest true r)) (mv (behind_lt true e1 hz))).trans k
          exact h
  | n + 1, false, r, xs, ys, hn, hr, hx, hy, e => by
    have e : r ++ cat ys = cat xs := e
    cases xs with
    | nil =>
      rw [cat_nil] at e
      exact absurd (List.append_eq_nil_iff.mp e).1 hr
    | cons x xs =>
      rw [cat_cons] at e
      have hxP := hx x List.mem_cons_self
      have hxs := fun z hz => hx z (List.mem_cons_of_mem _ hz)
      rw [List.length_cons] at hn
      have mv : ∀ {t : Pl}, behind false r x.1 = some t → (true, x.2, t) ∈ moves P S (.rest false r) := fun {t} h => List.mem_filterMap.mpr ⟨x, hxP, by rw [h]; rfl⟩
      rcases List.append_eq_append_iff.mp e with ⟨z, e1, e2⟩ | ⟨z, e1, e2⟩
      · by_cases hz : z = []
        · subst hz
          rw [List.append_nil] at e1
          refine ⟨[x], xs, [], ys, rfl, rfl, ?_, by rw [e2]; rfl⟩
          have h := Way.step (P := P) (S := S) (.nil (o := .rest false r)) (mv (by rw [e1]; exact behind_eq false r))
          exact h
        · obtain ⟨x1, x2, y1, y2, ex, ey, k, e3⟩ := way_on hP hS n true z xs ys (by omega) hz hxs hy (by show z ++ cat xs = cat ys; exact e2.symm)
          refine ⟨x :: x1, x2, y1, y2, by rw [ex]; rfl, ey, ?_, e3⟩
          have h := (Way.step (P := P) (S := S) (.nil (o := .rest false r)) (mv (behind_gt false e1 hz))).trans k
          exact h
      · by_cases hz : z = []
        · subst hz
          rw [List.append_nil] at e1
          refine ⟨[x], xs, [], ys, rfl, rfl, ?_, e2⟩
          have h := Way.step (P := P) (S := S) (.nil (o := .rest false r)) (mv (by rw [← e1]; exact behind_eq false r))
          exact h
        · obtain ⟨x1, x2, y1, y2, ex, ey, k, e3⟩ := way_on hP hS n false z xs ys (by omega) hz hxs hy (by show z ++ cat ys = cat xs; exact e2.symm)
          refine ⟨x :: x1, x2, y1, y2, by rw [ex]; rfl, ey, ?_, e3⟩
          have h := (Way.step (P := P) (S := S) (.nil (o := .rest false r)) (mv (behind_lt false e1 hz))).trans k
          exact h
/-- all meetings are alike -/
def Alike (P S : List Pr) : Prop := ∀ w, Way P S .start .fin w → w.1 = w.2
/-- the words tell the labels -/
def Uni (P S : List Pr) : Prop := ∀ xs ys : List Pr, (∀ x ∈ xs, x ∈ P) → (∀ y ∈ ys, y ∈ S) → cat xs = cat ys → lab xs = lab ys
theorem cat_empty {ys : List Pr} (h : ∀ y ∈ ys, y.1 ≠ []) (e : cat ys = []) : ys = [] := by
  cases ys with
  | nil => rfl
  | cons y ys =>
    rw [cat_cons] at e
    exact absurd (List.append_eq_nil_iff.mp e).1 (h y List.mem_cons_self)
theorem uni_of {P S : List Pr} (hP : ∀ q ∈ P, q.1 ≠ []) (hS : ∀ q ∈ S, q.1 ≠ []) (h : Alike P S) : ∀ (n : Nat) (xs ys : List Pr), xs.length + ys.length ≤ n → (∀ x ∈ xs, x ∈ P) → (∀ y ∈ ys, y ∈ S) → cat xs = cat ys → lab xs = lab ys
  | n, [], ys, hn, hx, hy, e => by
    have e2 : ys = [] := cat_empty (fun y m => hS y (hy y m)) e.symm
    rw [e2]
  | 0, x :: xs, ys, hn, hx, hy, e => by
    rw [List.length_cons] at hn
    omega
  | n + 1, x :: xs, ys, hn, hx, hy, e => by
    have hxP := hx x List.mem_cons_self
    have hxs := fun z hz => hx z (List.mem_cons_of_mem _ hz)
    rw [cat_cons] at e
    obtain ⟨x1, x2, y1, y2, ex, ey, k, e2⟩ := way_on hP hS (xs.length + ys.length) true x.1 xs ys (Nat.le_refl _) (hP x hxP) hxs hy (by show x.1 ++ cat xs = cat ys; exact e)
    have h0 : Way P S .start (.rest true x.1) ([x.2], []) := Way.step (P := P) (S := S) (.nil (o := .start)) (t := true) (l := x.2) (q := .rest true x.1) (List.mem_map.mpr ⟨x, hxP, rfl⟩)
    have e3 : [x.2] ++ lab x1 = [] ++ lab y1 := h _ (h0.trans k)
    have hl : x1.length + x2.length = xs.length := by rw [ex, List.length_append]
    have hl2 : y1.length + y2.length = ys.length := by rw [ey, List.length_append]
    rw [List.length_cons] at hn
    have ih := uni_of hP hS h n x2 y2 (by omega) (fun z m => hxs z (by rw [ex]; exact List.mem_append_right _ m)) (fun z m => hy z (by rw [ey]; exact List.mem_append_right _ m)) e2
    show x.2 :: lab xs = lab ys
    rw [ex, ey, lab_app, lab_app, ih]
    show ([x.2] ++ lab x1) ++ _ = _
    rw [e3]
    rfl
theorem alike_iff {P S : List Pr} (hP : ∀ q ∈ P, q.1 ≠ []) (hS : ∀ q ∈ S, q.1 ≠ []) : Alike P S ↔ Uni P S := by
  constructor
  · exact fun h xs ys hx hy e => uni_of hP hS h (xs.length + ys.length) xs ys (Nat.le_refl _) hx hy e
  · intro h w k
    obtain ⟨xs, ys, hx, hy, lx, ly, e⟩ := way_words k
    rw [← lx, ← ly]
    exact h xs ys hx hy e
/-! ### leads -/
def lead (w : List Nat × List Nat) : Option (Bool × List Nat) :=
  if w.2.isPrefixOf w.1 then some (true, w.1.drop w.2.length) else if w.1.isPrefixOf w.2 then some (false, w.2.drop w.1.length) else none
theorem lead_one (b d : List Nat) : lead (b ++ d, b) = some (true, d) := by
  unfold lead
  rw [if_pos (List.isPrefixOf_iff_prefix.mpr ⟨d, rfl⟩), List.drop_left]
theorem lead_two (a : List Nat) {d : List Nat} (h : d ≠ []) : lead (a, a ++ d) = some (false, d) := by
  unfold lead
  rw [if_neg, if_pos (List.isPrefixOf_iff_prefix.mpr ⟨d, rfl⟩), List.drop_left]
  intro p
  obtain ⟨y, e⟩ := List.isPrefixOf_iff_prefix.mp p
  have e : a ++ d ++ y = a := e
  rw [List.append_assoc] at e
  exact h (List.append_eq_nil_iff.mp (List.append_cancel_left (e.trans (List.append_nil a).symm))).1
theorem lead_some {w : List Nat × List Nat} {k : Bool × List Nat} (h : lead w = some k) : (k.1 = true ∧ w.1 = w.2 ++ k.2) ∨ (k.1 = false ∧ k.2 ≠ [] ∧ w.2 = w.1 ++ k.2) := by
  obtain ⟨a, b⟩ := w
  unfold lead at h
  split at h
  · rename_i p
    obtain ⟨y, e⟩ := List.isPrefixOf_iff_prefix.mp p
    have e : b ++ y = a := e
    subst e
    rw [← Option.some.inj h]
    exact .inl ⟨rfl, by show b ++ y = b ++ (b ++ y).drop b.length; rw [List.drop_left]⟩
  · rename_i np
    split at h
    · rename_i p
      obtain ⟨y, e⟩ := List.isPrefixOf_iff_prefix.mp p
      have e : a ++ y = b := e
      subst e
      rw [← Option.some.inj h]
      refine .inr ⟨rfl, ?_, by show a ++ y = a ++ (a ++ y).drop a.length; rw [List.drop_left]⟩
      show (a ++ y).drop a.length ≠ []
      rw [List.drop_left]
      intro e
      subst e
      exact np (List.isPrefixOf_iff_prefix.mpr ⟨[], by show a ++ [] ++ [] = a; simp⟩)
    · cases h
theorem lead_cancel (c a b : List Nat) : lead (c ++ a, c ++ b) = lead (a, b) := by
  unfold lead
  have e : ∀ x y : List Nat, (c ++ x).isPrefixOf (c ++ y) = x.isPrefixOf y := fun x y => by
    rw [Bool.eq_iff_iff, List.isPrefixOf_iff_prefix, List.isPrefixOf_iff_prefix, List.prefix_append_right_inj]
  have e2 : ∀ x y : List Nat, (c ++ x).drop (c ++ y).length = x.drop y.length := fun x y => by
    rw [List.length_append, ← List.drop_drop, List.drop_left]
  show (if (c ++ b).isPrefixOf (c ++ a) = true then some (true, (c ++ a).drop (c ++ b).length) else if (c ++ a).isPrefixOf (c ++ b) = true then some (false, (c ++ b).drop (c ++ a).length) else none) = _
  rw [e, e, e2, e2]
/-- with one more, a lead tells the next -/
def nextL (t : Bool) (l : Nat) (k : Bool × List Nat) : Option (Bool × List Nat) := lead (put t l (if k.1 = true then (k.2, []) else ([], k.2)))
theorem lead_put {w : List Nat × List Nat} {k : Bool × List Nat} (h : lead w = some k) (t : Bool) (l : Nat) : lead (put t l w) = nextL t l k := by
  obtain ⟨a, b⟩ := w
  obtain ⟨k1, d⟩ := k
  rcases lead_some h with ⟨e1, e2⟩ | ⟨e1, _, e2⟩
  · obtain rfl : k1 = true := e1
    obtain rfl : a = b ++ d := e2
    cases t with
    | true =>
      show lead ((b ++ d) ++ [l], b) = lead (d ++ [l], [])
      rw [List.append_assoc]
      have := lead_cancel b (d ++ [l]) []
      rw [List.append_nil] at this
      exact this
    | false => exact lead_cancel b d [l]
  · obtain rfl : k1 = false := e1
    obtain rfl : b = a ++ d := e2
    cases t with
    | true => exact lead_cancel a [l] d
    | false =>
      show lead (a, (a ++ d) ++ [l]) = lead ([], d ++ [l])
      rw [List.append_assoc]
      have := lead_cancel a [] (d ++ [l])
      rw [List.append_nil] at this
      exact this
theorem lead_even {w : List Nat × List Nat} (h : lead w = some (true, [])) : w.1 = w.2 := by
  rcases lead_some h with ⟨_, e⟩ | ⟨e, _⟩
  · rw [e]
    exact List.append_nil _
  · cases e
theorem even_lead {w : List Nat × List Nat} (h : w.1 = w.2) : lead w = some (true, []) := by
  obtain ⟨a, b⟩ := w
  have h : a = b := h
  subst h
  have := lead_one a []
  rw [List.append_nil] at this
  exact this
/-- what is known of a place by the way that is kept to it -/
def known (W : Pl → List Nat × List Nat) : Pl → Option (Bool × List Nat)
  | .fin => some (true, [])
  | p => lead (W p)
/-- where every step into a living place has the lead that is known, all meetings are alike -/
theorem alike_of {P S : List Pr} {W : Pl → List Nat × List Nat} {L : Pl → Prop} (h0 : W .start = ([], [])) (hL : ∀ p v, Way P S p .fin v → L p)
    (hc : ∀ p w, Way P S .start p w → ∀ t l q, (t, l, q) ∈ moves P S p → L q → ∃ k, lead (put t l (W p)) = some k ∧ known W q = some k) : Alike P S := by
  have key : ∀ p w, Way P S .start p w → ∀ v, Way P S p .fin v → ∃ k, lead w = some k ∧ known W p = some k := by
    intro p w h
    induction h with
    | nil =>
      intro v _
      exact ⟨(true, []), even_lead rfl, by show lead (W .start) = _; rw [h0]; exact even_lead rfl⟩
    | @step p w t l q h m ih =>
      intro v k
      have hp : Way P S p .fin _ := (Way.step (P := P) (S := S) (.nil (o := p)) m).trans k
      obtain ⟨k0, e1, e2⟩ := ih _ hp
      have pf : known W p = lead (W p) := by
        cases p with
        | fin => cases m
        | start => rfl
        | rest a r => rfl
      rw [pf] at e2
      obtain ⟨k1, e3, e4⟩ := hc p w h t l q m (hL q v k)
      exact ⟨k1, by rw [lead_put e1, ← lead_put e2, e3], e4⟩
  intro w h
  obtain ⟨k, e1, e2⟩ := key .fin w h _ .nil
  have e2 : some (true, []) = some k := e2
  rw [← Option.some.inj e2] at e1
  exact lead_even e1
/-- labels that end alike behind the same rest have the same lead -/
theorem lead_back {a b v : List Nat × List Nat} (h1 : a.1 ++ v.1 = a.2 ++ v.2) (h2 : b.1 ++ v.1 = b.2 ++ v.2) : ∃ k, lead a = some k ∧ lead b = some k := by
  obtain ⟨a1, a2⟩ := a
  obtain ⟨b1, b2⟩ := b
  obtain ⟨v1, v2⟩ := v
  have h1 : a1 ++ v1 = a2 ++ v2 := h1
  have h2 : b1 ++ v1 = b2 ++ v2 := h2
  rcases List.append_eq_append_iff.mp h1 with ⟨z, e1, e2⟩ | ⟨z, e1, e2⟩
  · -- a2 = a1 ++ z, v1 = z ++ v2
    subst e1 e2
    rw [← List.append_assoc] at h2
    have e3 : b2 = b1 ++ z := (List.append_cancel_right h2).symm
    subst e3
    by_cases hz : z = []
    · subst hz
      exact ⟨(true, []), even_lead (by show a1 = a1 ++ []; rw [List.append_nil]), even_lead (by show b1 = b1 ++ []; rw [List.append_nil])⟩
    · exact ⟨_, lead_two a1 hz, lead_two b1 hz⟩
  · -- a1 = a2 ++ z, v2 = z ++ v1
    subst e1 e2
    rw [← List.append_assoc] at h2
    have e3 : b1 = b2 ++ z := List.append_cancel_right h2
    subst e3
    exact ⟨_, lead_one a2 z, lead_one b2 z⟩
/-! ### what is left where words begin with one another -/
inductive Dg (ws : List Wd) : Wd → Prop where
  | init {a b r : Wd} : a ∈ ws → b ∈ ws → r ≠ [] → a = b ++ r → Dg ws r
  | cut {r w z : Wd} : Dg ws r → w ∈ ws → r = w ++ z → z ≠ [] → Dg ws z
  | ext {r w z : Wd} : Dg ws r → w ∈ ws → w = r ++ z → z ≠ [] → Dg ws z
/-- the labels of P are unlike -/
def Lbl (P : List Pr) : Prop := ∀ x ∈ P, ∀ y ∈ P, x.2 = y.2 → x = y
end MZ
set_option Elab.async false
set_option linter.all false
/-! Places gone through one by one, as the program goes through them. -/
namespace MZ
/-- the places met, with those of some steps behind them -/
def addTo (Q : List Pl) (f : List Mo) : List Pl := f.foldl (fun Q m => if m.2.2 ∈ Q then Q else Q ++ [m.2.2]) Q
theorem addTo_cons (Q : List Pl) (m : Mo) (f : List Mo) : addTo Q (m :: f) = addTo (if m.2.2 ∈ Q then Q else Q ++ [m.2.2]) f := rfl
theorem addTo_has : ∀ (f : List Mo) (Q : List Pl) (p : Pl), p ∈ addTo Q f ↔ p ∈ Q ∨ ∃ m ∈ f, m.2.2 = p
  | [], Q, p => by
    show p ∈ Q ↔ _
    simp
  | m :: f, Q, p => by
    rw [addTo_cons, addTo_has f]
    by_cases h : m.2.2 ∈ Q
    · rw [if_pos h]
      constructor
      · rintro (a | ⟨x, hx, e⟩)
        · exact .inl a
        · exact .inr ⟨x, List.mem_cons_of_mem _ hx, e⟩
      · rintro (a | ⟨x, hx, e⟩)
        · exact .inl a
        · rcases List.mem_cons.mp hx with rfl | hx
          · exact .inl (e ▸ h)
          · exact .inr ⟨x, hx, e⟩
    · rw [if_neg h]
      constructor
      · rintro (a | ⟨x, hx, e⟩)
        · rcases List.mem_append.mp a with a | a
          · exact .inl a
          · exact .inr ⟨m, List.mem_cons_self, (List.mem_singleton.mp a).symm⟩
        · exact .inr ⟨x, List.mem_cons_of_mem _ hx, e⟩
      · rintro (a | ⟨x, hx, e⟩)
        · exact .inl (List.mem_append_left _ a)
        · rcases List.mem_cons.mp hx with rfl | hx
          · exact .inl (List.mem_append_right _ (by rw [e]; exact List.mem_singleton_self _))
          · exact .inr ⟨x, hx, e⟩
theorem addTo_nd : ∀ (f : List Mo) (Q : List Pl), Q.Nodup → (addTo Q f).Nodup
  | [], Q, h => h
  | m :: f, Q, h => by
    rw [addTo_cons]
    refine addTo_nd f _ ?_
    by_cases z : m.2.2 ∈ Q
    · rw [if_pos z]
      exact h
    · rw [if_neg z]
      refine List.nodup_append.mpr ⟨h, by simp, fun x hx y hy e => ?_⟩
      rw [List.mem_singleton.mp hy] at e
      exact z (e ▸ hx)
theorem addTo_pre : ∀ (f : List Mo) (Q : List Pl), ∃ R, addTo Q f = Q ++ R
  | [], Q => ⟨[], (List.append_nil Q).symm⟩
  | m :: f, Q => by
    rw [addTo_cons]
    by_cases z : m.2.2 ∈ Q
    · rw [if_pos z]
      exact addTo_pre f Q
    · rw [if_neg z]
      obtain ⟨R, e⟩ := addTo_pre f (Q ++ [m.2.2])
      exact ⟨m.2.2 :: R, by rw [e, List.append_assoc]; rfl⟩
/-- the first n places of Q are gone through -/
structure Bfs (P S : List Pr) (o : Pl) (Q : List Pl) (n : Nat) : Prop where
  nd : Q.Nodup
  head : Q[0]? = some o
  le : n ≤ Q.length
  reach : ∀ p ∈ Q, ∃ w, Way P S o p w
  closed : ∀ i, i < n → ∀ p, Q[i]? = some p → ∀ m ∈ moves P S p, m.2.2 ∈ Q
theorem Bfs.start (P S : List Pr) (o : Pl) : Bfs P S o [o] 0 := ⟨by simp, rfl, Nat.zero_le _, fun p h => by rw [List.mem_singleton.mp h]; exact ⟨_, .nil⟩, fun i h => absurd h (Nat.not_lt_zero _)⟩
theorem Bfs.step {P S : List Pr} {o p : Pl} {Q : List Pl} {n : Nat} (b : Bfs P S o Q n) (h : Q[n]? = some p) : Bfs P S o (addTo Q (moves P S p)) (n + 1) := by
  obtain ⟨hn, ep⟩ := List.getElem?_eq_some_iff.mp h
  obtain ⟨R, eR⟩ := addTo_pre (moves P S p) Q
  have hp : p ∈ Q := ep ▸ List.getElem_mem hn
  have low : ∀ i, i < Q.length → (addTo Q (moves P S p))[i]? = Q[i]? := fun i hi => by rw [eR, List.getElem?_append_left hi]
  refine ⟨addTo_nd _ _ b.nd, ?_, ?_, fun q hq => ?_, fun i hi q e m hm => ?_⟩
  · rw [low 0 (by omega)]
    exact b.head
  · rw [eR, List.length_append]
    omega
  · rcases (addTo_has _ _ _).mp hq with a | ⟨m, hm, rfl⟩
    · exact b.reach q a
    · obtain ⟨w, k⟩ := b.reach p hp
      exact ⟨_, k.step (t := m.1) (l := m.2.1) (q := m.2.2) hm⟩
  · rw [low i (by omega)] at e
    by_cases hi2 : i < n
    · exact (addTo_has _ _ _).mpr (.inl (b.closed i hi2 q e m hm))
    · have : i = n := by omega
      subst this
      rw [h] at e
      cases e
      exact (addTo_has _ _ _).mpr (.inr ⟨m, hm, rfl⟩)
theorem Bfs.all {P S : List Pr} {o : Pl} {Q : List Pl} (b : Bfs P S o Q Q.length) (p : Pl) : p ∈ Q ↔ ∃ w, Way P S o p w := by
  constructor
  · exact b.reach p
  · rintro ⟨w, h⟩
    induction h with
    | nil => exact (List.getElem?_eq_some_iff.mp b.head).2 ▸ List.getElem_mem _
    | @step p w t l q _ m ih =>
      obtain ⟨i, hi, e⟩ := List.getElem_of_mem ih
      exact b.closed i hi p (by rw [List.getElem?_eq_getElem hi, e]) _ m
/-! ### how many places there are -/
def tails : Wd → List Wd
  | [] => []
  | c :: r => (c :: r) :: tails r
theorem tails_len : ∀ w : Wd, (tails w).length = w.length
  | [] => rfl
  | c :: r => by
    show (tails r).length + 1 = r.length + 1
    rw [tails_len r]
theorem tails_has : ∀ (w a z : Wd), w = a ++ z → z ≠ [] → z ∈ tails w
  | [], a, z, e, hz => absurd (List.append_eq_nil_iff.mp e.symm).2 hz
  | c :: r, [], z, e, hz => by
    have e : c :: r = z := e
    rw [← e]
    exact List.mem_cons_self
  | c :: r, d :: a, z, e, hz => List.mem_cons_of_mem _ (tails_has r a z (List.cons.inj e).2 hz)
/-- all places there may be -/
def uni (P S : List Pr) : List Pl := .start :: .fin :: ((P.flatMap fun q => (tails q.1).map (.rest true)) ++ S.flatMap fun q => (tails q.1).map (.rest false))
def sumL (P : List Pr) : Nat := (P.map fun q => q.1.length).sum
theorem flat_len (P : List Pr) (a : Bool) : (P.flatMap fun q => (tails q.1).map (Pl.rest a)).length = sumL P := by
  rw [List.length_flatMap]
  unfold sumL
  congr 1
  exact List.map_congr_left fun q _ => by rw [List.length_map, tails_len]
theorem uni_len (P S : List Pr) : (uni P S).length = 2 + sumL P + sumL S := by
  show (_ ++ _ : List Pl).length + 1 + 1 = _
  rw [List.length_append, flat_len, flat_len]
  omega
theorem reach_uni {P S : List Pr} (hP : ∀ q ∈ P, q.1 ≠ []) {p : Pl} {w : List Nat × List Nat} (h : Way P S .start p w) : p ∈ uni P S ∧ match p with
    | .rest true r => r ≠ [] ∧ ∃ q ∈ P, ∃ a, q.1 = a ++ r
    | .rest false r => r ≠ [] ∧ ∃ q ∈ S, ∃ a, q.1 = a ++ r
    | _ => True := by
  have key : (match p with
    | .rest true r => r ≠ [] ∧ ∃ q ∈ P, ∃ a, q.1 = a ++ r
    | .rest false r => r ≠ [] ∧ ∃ q ∈ S, ∃ a, q.1 = a ++ r
    | _ => True) := by
    induction h with
    | nil => trivial
    | @step p w t l q _ m ih =>
      cases p with
      | fin => cases m
      | start =>
        obtain ⟨x, hx, e⟩ := List.mem_map.mp m
        cases e
        exact ⟨hP x hx, x, hx, [], rfl⟩
      | rest a r =>
        obtain ⟨z, hz, e⟩ := List.mem_filterMap.mp m
        obtain ⟨q', eb, e2⟩ := Option.map_eq_some_iff.mp e
        cases e2
        cases a with
        | true =>
          have hz : z ∈ S := hz
          obtain ⟨_, q0, hq0, a0, e0⟩ := ih
          rcases behind_cases eb with ⟨e3, rfl⟩ | ⟨v, nv, e3, rfl⟩ | ⟨v, nv, e3, rfl⟩
          · trivial
          · exact ⟨nv, q0, hq0, a0 ++ z.1, by rw [e0, e3, List.append_assoc]⟩
          · exact ⟨nv, z, hz, r, e3⟩
        | false =>
          have hz : z ∈ P := hz
          obtain ⟨_, q0, hq0, a0, e0⟩ := ih
          rcases behind_cases eb with ⟨e3, rfl⟩ | ⟨v, nv, e3, rfl⟩ | ⟨v, nv, e3, rfl⟩
          · trivial
          · exact ⟨nv, q0, hq0, a0 ++ z.1, by rw [e0, e3, List.append_assoc]⟩
          · exact ⟨nv, z, hz, r, e3⟩
  refine ⟨?_, key⟩
  cases p with
  | start => exact List.mem_cons_self
  | fin => exact List.mem_cons_of_mem _ List.mem_cons_self
  | rest a r =>
    refine List.mem_cons_of_mem _ (List.mem_cons_of_mem _ ?_)
    cases a with
    | true =>
      obtain ⟨nr, q, hq, a, e⟩ := key
      exact List.mem_append_left _ (List.mem_flatMap.mpr ⟨q, hq, List.mem_map.mpr ⟨r, tails_has _ a r e nr, rfl⟩⟩)
    | false =>
      obtain ⟨nr, q, hq, a, e⟩ := key
      exact List.mem_append_right _ (List.mem_flatMap.mpr ⟨q, hq, List.mem_map.mpr ⟨r, tails_has _ a r e nr, rfl⟩⟩)
theorem nd_le {α : Type} [DecidableEq α] : ∀ {a b : List α}, a.Nodup → (∀ x ∈ a, x ∈ b) → a.length ≤ b.length
  | [], _, _, _ => Nat.zero_le _
  | x :: a, b, nd, h => by
    have hx := h x List.mem_cons_self
    have z := nd_le (a := a) (b := b.erase x) (List.nodup_cons.mp nd).2 fun y hy => (List.mem_erase_of_ne (fun e => (List.nodup_cons.mp nd).1 (by rw [← e]; exact hy))).mpr (h y (List.mem_cons_of_mem _ hy))
    rw [List.length_erase_of_mem hx] at z
    have := List.length_pos_of_mem hx
    rw [List.length_cons]
    omega
theorem Bfs.few {P S : List Pr} {Q : List Pl} {n : Nat} (hP : ∀ q ∈ P, q.1 ≠ []) (b : Bfs P S .start Q n) : Q.length ≤ 2 + sumL P + sumL S := by
  rw [← uni_len]
  exact nd_le b.nd fun p hp => by
    obtain ⟨w, h⟩ := b.reach p hp
    exact (reach_uni hP h).1
/-! ### what lives -/
theorem way_first {P S : List Pr} {o q : Pl} {w : List Nat × List Nat} (h : Way P S o q w) : o = q ∨ ∃ m ∈ moves P S o, ∃ v, Way P S m.2.2 q v := by
  induction h with
  | nil => exact .inl rfl
  | @step p w t l q _ m ih =>
    rcases ih with rfl | ⟨m0, h0, v, k⟩
    · exact .inr ⟨_, m, _, .nil⟩
    · exact .inr ⟨m0, h0, _, k.step m⟩
/-- some places that live; the end among them -/
structure Liv (P S : List Pr) (L : List Pl) : Prop where
  fin : Pl.fin ∈ L
  live : ∀ p ∈ L, ∃ v, Way P S p .fin v
theorem Liv.start (P S : List Pr) : Liv P S [.fin] := ⟨List.mem_singleton_self _, fun p h => by rw [List.mem_singleton.mp h]; exact ⟨_, .nil⟩⟩
theorem Liv.add {P S : List Pr} {L : List Pl} {p : Pl} {m : Mo} (h : Liv P S L) (hm : m ∈ moves P S p) (hl : m.2.2 ∈ L) : Liv P S (L ++ [p]) := by
  refine ⟨List.mem_append_left _ h.fin, fun q hq => ?_⟩
  rcases List.mem_append.mp hq with a | a
  · exact h.live q a
  · rw [List.mem_singleton.mp a]
    obtain ⟨v, k⟩ := h.live _ hl
    exact ⟨_, (Way.step (P := P) (S := S) (.nil (o := p)) (t := m.1) (l := m.2.1) (q := m.2.2) hm).trans k⟩
/-- where nothing is left to add, all that lives is there -/
theorem Liv.all {P S : List Pr} {Q L : List Pl} (b : Bfs P S .start Q Q.length) (h : Liv P S L) (c : ∀ p ∈ Q, p ∉ L → ∀ m ∈ moves P S p, m.2.2 ∉ L) {p : Pl} (hp : p ∈ Q) {v : List Nat × List Nat} (k : Way P S p .fin v) : p ∈ L := by
  have key : ∀ {q : Pl} {v : List Nat × List Nat}, Way P S p q v → q ∈ L → p ∈ L := by
    intro q v k
    induction k with
    | nil => exact id
    | @step r w t l q k2 m ih =>
      intro hq
      refine ih (Classical.byContradiction fun np => c r ?_ np _ m hq)
      obtain ⟨w0, k0⟩ := (b.all p).mp hp
      exact (b.all r).mpr ⟨_, k0.trans k2⟩
  exact key k h.fin
/-! ### ways kept -/
/-- the places of a search in their order, each with a way to it -/
structure Wys (P S : List Pr) (o : Pl) (Q : List Pl) (W : List (Pl × (List Nat × List Nat))) : Prop where
  keys : W.map (·.1) = Q
  way : ∀ q ∈ W, Way P S o q.1 q.2
/-- with the steps of a place that is reached by a way -/
def addW (w : List Nat × List Nat) (W : List (Pl × (List Nat × List Nat))) (f : List Mo) : List (Pl × (List Nat × List Nat)) :=
  f.foldl (fun W m => if m.2.2 ∈ W.map (·.1) then W else W ++ [(m.2.2, put m.1 m.2.1 w)]) W
theorem addW_cons (w : List Nat × List Nat) (W : List (Pl × (List Nat × List Nat))) (m : Mo) (f : List Mo) : addW w W (m :: f) = addW w (if m.2.2 ∈ W.map (·.1) then W else W ++ [(m.2.2, put m.1 m.2.1 w)]) f := rfl
theorem addW_keys (w : List Nat × List Nat) : ∀ (f : List Mo) (W : List (Pl × (List Nat × List Nat))), (addW w W f).map (·.1) = addTo (W.map (·.1)) f
  | [], W => rfl
  | m :: f, W => by
    rw [addW_cons, addTo_cons, addW_keys w f]
    by_cases h : m.2.2 ∈ W.map (·.1)
    · rw [if_pos h, if_pos h]
    · rw [if_neg h, if_neg h, List.map_append]
      rfl
theorem addW_way {P S : List Pr} {o p : Pl} {w : List Nat × List Nat} (h : Way P S o p w) : ∀ (f : List Mo) (W : List (Pl × (List Nat × List Nat))), (∀ m ∈ f, m ∈ moves P S p) → (∀ q ∈ W, Way P S o q.1 q.2) → ∀ q ∈ addW w W f, Way P S o q.1 q.2
  | [], W, _, hW => hW
  | m :: f, W, hf, hW => by
    rw [addW_cons]
    refine addW_way h f _ (fun x hx => hf x (List.mem_cons_of_mem _ hx)) ?_
    by_cases z : m.2.2 ∈ W.map (·.1)
    · rw [if_pos z]
      exact hW
    · rw [if_neg z]
      intro q hq
      rcases List.mem_append.mp hq with a | a
      · exact hW q a
      · rw [List.mem_singleton.mp a]
        exact h.step (hf m List.mem_cons_self)
theorem Wys.start (P S : List Pr) (o : Pl) : Wys P S o [o] [(o, ([], []))] := ⟨rfl, fun q h => by rw [List.mem_singleton.mp h]; exact .nil⟩
theorem Wys.step {P S : List Pr} {o p : Pl} {Q : List Pl} {W : List (Pl × (List Nat × List Nat))} {w : List Nat × List Nat} (h : Wys P S o Q W) (hw : (p, w) ∈ W) : Wys P S o (addTo Q (moves P S p)) (addW w W (moves P S p)) :=
  ⟨by rw [addW_keys, h.keys], addW_way (h.way _ hw) _ _ (fun _ z => z) h.way⟩
/-- the way that is kept to a place -/
def wayTo (W : List (Pl × (List Nat × List Nat))) (p : Pl) : List Nat × List Nat := ((W.find? fun q => decide (q.1 = p)).map (·.2)).getD ([], [])
theorem wayTo_has {P S : List Pr} {o p : Pl} {Q : List Pl} {W : List (Pl × (List Nat × List Nat))} (h : Wys P S o Q W) (hp : p ∈ Q) : (p, wayTo W p) ∈ W ∧ Way P S o p (wayTo W p) := by
  have m : (p, wayTo W p) ∈ W := by
    rw [← h.keys] at hp
    obtain ⟨q, hq, rfl⟩ := List.mem_map.mp hp
    unfold wayTo
    cases e : W.find? fun z => decide (z.1 = q.1) with
    | none =>
      have := List.find?_eq_none.mp e q hq
      simp at this
    | some z =>
      have h1 : z.1 = q.1 := by simpa using List.find?_some e
      have h2 := List.mem_of_find?_eq_some e
      show (q.1, z.2) ∈ W
      rw [← h1]
      exact h2
  exact ⟨m, h.way _ m⟩
/-! ### a meeting that is not alike -/
/-- a step into a living place whose lead is not known there -/
def oddM (W : List (Pl × (List Nat × List Nat))) (p : Pl) (m : Mo) : Bool :=
  match lead (put m.1 m.2.1 (wayTo W p)) with
  | none => true
  | some k => decide (known (wayTo W) m.2.2 ≠ some k)
/-- none at all: all meetings are alike -/
theorem alike_no {P S : List Pr} {Q L : List Pl} {W : List (Pl × (List Nat × List Nat))} (b : Bfs P S .start Q Q.length) (h : Wys P S .start Q W) (h0 : wayTo W .start = ([], [])) (hL : ∀ p ∈ Q, ∀ v, Way P S p .fin v → p ∈ L)
    (c : ∀ p ∈ Q, ∀ m ∈ moves P S p, m.2.2 ∈ L → oddM W p m = false) : Alike P S := by
  refine alike_of (W := wayTo W) (L := fun p => p ∈ Q → p ∈ L) h0 (fun p v k hq => hL p hq v k) fun p w k t l q m hl => ?_
  have hp : p ∈ Q := (b.all p).mpr ⟨w, k⟩
  have hq : q ∈ Q := (b.all q).mpr ⟨_, k.step m⟩
  have z := c p hp (t, l, q) m (hl hq)
  unfold oddM at z
  cases e : lead (put t l (wayTo W p)) with
  | none =>
    have z : (match lead (put t l (wayTo W p)) with | none => true | some k => decide (known (wayTo W) q ≠ some k)) = false := z
    rw [e] at z
    cases z
  | some k =>
    have z : (match lead (put t l (wayTo W p)) with | none => true | some k => decide (known (wayTo W) q ≠ some k)) = false := z
    rw [e] at z
    refine ⟨k, rfl, ?_⟩
    have z : decide (known (wayTo W) q ≠ some k) = false := z
    simpa using z
/-- one of them: the meeting that is made of it, or of the way that is kept, is not alike -/
theorem odd_meets {P S : List Pr} {Q : List Pl} {W : List (Pl × (List Nat × List Nat))} {p : Pl} {m : Mo} {v : List Nat × List Nat} (b : Bfs P S .start Q Q.length) (h : Wys P S .start Q W) (hp : p ∈ Q) (hm : m ∈ moves P S p) (k : Way P S m.2.2 .fin v) (z : oddM W p m = true) :
    Way P S .start .fin ((put m.1 m.2.1 (wayTo W p)).1 ++ v.1, (put m.1 m.2.1 (wayTo W p)).2 ++ v.2) ∧ Way P S .start .fin ((wayTo W m.2.2).1 ++ v.1, (wayTo W m.2.2).2 ++ v.2) ∧
    ((put m.1 m.2.1 (wayTo W p)).1 ++ v.1 = (put m.1 m.2.1 (wayTo W p)).2 ++ v.2 → (wayTo W m.2.2).1 ++ v.1 ≠ (wayTo W m.2.2).2 ++ v.2) := by
  obtain ⟨_, kp⟩ := wayTo_has h hp
  have ks : Way P S .start m.2.2 (put m.1 m.2.1 (wayTo W p)) := kp.step (t := m.1) (l := m.2.1) (q := m.2.2) hm
  obtain ⟨_, kq⟩ := wayTo_has h ((b.all m.2.2).mpr ⟨_, ks⟩)
  refine ⟨ks.trans k, kq.trans k, fun e1 e2 => ?_⟩
  obtain ⟨d, l1, l2⟩ := lead_back (v := v) e1 e2
  unfold oddM at z
  rw [l1] at z
  have z : decide (known (wayTo W) m.2.2 ≠ some d) = true := z
  have z := of_decide_eq_true z
  by_cases ef : m.2.2 = .fin
  · rw [ef] at k
    have ev : v = ([], []) := by
      rcases way_first k with _ | ⟨x, hx, _⟩
      · cases k with
        | nil => rfl
        | @step r w t l _ k2 mm =>
          exfalso
          have : ∀ {o r : Pl} {w : List Nat × List Nat}, Way P S o r w → o = .fin → r = .fin := by
            intro o r w kk
            induction kk with
            | nil => exact id
            | @step r w t l q _ mm ih =>
              intro eo
              rw [ih eo] at mm
              cases mm
          rw [this k2 rfl] at mm
          cases mm
      · cases hx
    rw [ev] at e1
    have e1 : (put m.1 m.2.1 (wayTo W p)).1 ++ [] = (put m.1 m.2.1 (wayTo W p)).2 ++ [] := e1
    rw [List.append_nil, List.append_nil] at e1
    rw [even_lead e1] at l1
    cases l1
    rw [ef] at z
    exact z rfl
  · refine z ?_
    cases e : m.2.2 with
    | fin => exact absurd e ef
    | start =>
      rw [e] at l2
      exact l2
    | rest a r =>
      rw [e] at l2
      exact l2
end MZ
set_option Elab.async false
set_option linter.all false
set_option maxRecDepth 100000
set_option maxHeartbeats 4000000
/-! {k: v} with one pair, k a tuple. -/
namespace L2
open PySem PySem.Spec PyProof.Rows
end L2
set_option Elab.async false
set_option linter.all false
set_option maxRecDepth 100000
set_option maxHeartbeats 4000000
/-! A key looked for among entries of any kinds, tuples beside flat ones. -/
namespace MX
open PySem PySem.Spec PySem.SeqAt PyProof.Rows
section
variable {prog : Program} {w : World} {A : Around} {E : Value → Shared → Prop} {s : Shared} {d : Addr} {o : Obj} {es : Array DictEntry} {ep : Nat} {v : Value} {hh : Int} {m : DictEntry → Bool}
/-- what the search of v, whose hash is hh, meets: m says which entry is equal to v -/
structure Look (prog : Program) (w : World) (A : Around) (s : Shared) (es : Array DictEntry) (v : Value) (hh : Int) (m : DictEntry → Bool) : Prop where
  eqv : ∀ e ∈ es, EqAt A s e.key v (m e)
  hash : ∀ e ∈ es, m e = true → e.hash = hh
  same : ∀ e ∈ es, e.key = v → e.hash = hh
  quiet : QuietAt prog w 8 s v
  quiets : ∀ e ∈ es, QuietAt prog w 8 s e.key
  txts : ∀ x t, v = .str x t → ∀ e ∈ es, isExactStrKey e.key = true → e.key.isStr x = m e
  one : ∀ i j (hi : i < es.size) (hj : j < es.size), m es[i] = true → m es[j] = true → i = j
theorem Look.find (M : Look prog w A s es v hh m) {i : Nat} (hi : i < es.size) (h : m es[i] = true) : es.findIdx? m = some i :=
  Array.findIdx?_eq_some_iff_getElem.mpr ⟨hi, h, fun j hj => by
    intro z
    have := M.one j i (by omega) hi z h
    omega⟩
/-- the places of one hash -/
theorem in_places {i : Nat} (hi : i < es.size) (h : es[i].hash = hh) : i ∈ placesWithHash es.size (fun i => es[i]?.map (·.hash)) hh := by
  unfold placesWithHash
  rw [List.mem_filter]
  refine ⟨List.mem_range.mpr hi, ?_⟩
  show (es[i]?.map (·.hash) == some hh) = true
  rw [Array.getElem?_eq_getElem hi, Option.map_some, h]
  exact beq_self_eq_true _
theorem Look.none (M : Look prog w A s es v hh m) (h : ∀ i ∈ placesWithHash es.size (fun i => es[i]?.map (·.hash)) hh, ∀ hi : i < es.size, m es[i] = false) : es.findIdx? m = none :=
  Array.findIdx?_eq_none_iff.mpr fun e he => by
    obtain ⟨i, hi, rfl⟩ := Array.mem_iff_getElem.mp he
    cases z : m es[i] with
    | false => rfl
    | true =>
      have := h i (in_places hi (M.hash _ (Array.getElem_mem hi) z)) hi
      rw [z] at this
      cases this
end
end MX
set_option Elab.async false
set_option linter.all false
set_option maxRecDepth 100000
set_option maxHeartbeats 4000000
/-! The same, told by keys: flat ones and tuples of such. -/
namespace MX
open PySem PySem.Spec PySem.SeqAt PyProof.Rows
section
variable {prog : Program} {w : World} {A : Around} {E : Value → Shared → Prop} {s : Shared} {d : Addr} {o : Obj} {es : Array DictEntry} {ep : Nat} {v : Value}
/-- an entry -/
def entN (w : World) (x : NestedKey × Value × Value) : DictEntry := ⟨x.1.hash w, x.2.1, x.2.2⟩
/-- the keys stand there -/
def KeysN (h : Heap) (xs : List (NestedKey × Value × Value)) : Prop := ∀ x ∈ xs, NestedIs h x.1 x.2.1 ∧ x.1.depth ≤ 8
end
end MX
set_option Elab.async false
set_option linter.all false
set_option maxRecDepth 100000
set_option maxHeartbeats 4000000
/-! A dict of flat keys and tuples: what stands under a key, a key stored. -/
namespace MX
open PySem PySem.Spec PySem.SeqAt PyProof.Rows
/-- the dict at d: its keys as keys and as values, and what stands under them, in their order -/
def DictN (w : World) (h : Heap) (d : Addr) (xs : List (NestedKey × Value × Value)) : Prop :=
  ∃ o es ep, h.get? d = some o ∧ o.ExactDict ∧ o.data = .dict es ep ∧ es.toList = xs.map (entN w) ∧ KeysN h xs ∧ (xs.map (·.1)).Nodup
def putN (k : NestedKey) (u : Value) (x : NestedKey × Value × Value) : NestedKey × Value × Value := if x.1 = k then (x.1, x.2.1, u) else x
/-- u stored under k, the key v -/
def storeN (xs : List (NestedKey × Value × Value)) (k : NestedKey) (v u : Value) : List (NestedKey × Value × Value) := if k ∈ xs.map (·.1) then xs.map (putN k u) else xs ++ [(k, v, u)]
def atN (xs : List (NestedKey × Value × Value)) (k : NestedKey) : Option Value := (xs.find? fun x => decide (x.1 = k)).map (·.2.2)
section
variable {prog : Program} {w : World} {A : Around} {E : Value → Shared → Prop} {s : Shared} {d : Addr} {o : Obj} {es : Array DictEntry} {ep : Nat} {v u : Value} {k : NestedKey} {xs : List (NestedKey × Value × Value)}
theorem KeysN.keeps {h h' : Heap} (ks : KeysN h xs) (ho : h.get? d = some o) (hd : o.data = .dict es ep) (hs : Heap.SameBut d h h') : KeysN h' xs := fun x hx =>
  ⟨NestedIs.at (fun b ob vs n hb hc => (hs.2 b fun e => by
    subst e
    rw [ho] at hb
    cases hb
    rw [hd] at hc
    cases hc).trans hb) x.1 _ (ks x hx).1, (ks x hx).2⟩
end
end MX
set_option Elab.async false
set_option linter.all false
set_option maxRecDepth 100000
set_option maxHeartbeats 4000000
/-! k in d, d[k], d[k] = u for such a dict. -/
namespace MX
open PySem PySem.Spec PySem.SeqAt PyProof.Rows
section
variable {prog : Program} {w : World} {A : Around} {E : Value → Shared → Prop} {s : Shared} {d : Addr} {v u : Value} {k : NestedKey} {xs : List (NestedKey × Value × Value)}
theorem DictN.typeIs (hm : DictN w s.heap d xs) : s.TypeIs (.ref d) "dict" := let ⟨o, _, _, ho, hc, _⟩ := hm; ⟨o, ho, hc.1⟩
end
end MX
set_option Elab.async false
set_option linter.all false
set_option maxRecDepth 100000
set_option maxHeartbeats 4000000
/-! ~ by an own __invert__. -/
namespace L2
open PySem PySem.Spec PyProof.Rows
end L2
set_option Elab.async false
set_option linter.all false
set_option maxRecDepth 100000
set_option maxHeartbeats 4000000
/-! Own errors made and kept as values. -/
namespace L2
open PySem PySem.Spec PyProof.Rows
end L2
set_option Elab.async false
set_option linter.all false
set_option maxRecDepth 100000
set_option maxHeartbeats 4000000
/-! Dicts of flat keys and tuples, tracked. -/
namespace L2
open PySem PySem.Spec PyProof.Rows MX
/-- the dict at a: each key, what it is as a value, what stands under it -/
def MixO (w : World) (a : Addr) (kvs : List (NestedKey × V × V)) : HO := .ext fun h => kvs.length ≤ sizeLine ∧ (a == sysModules) = false ∧ ∃ xs : List (NestedKey × Value × Value),
  Paired (fun p q => p.1 = q.1 ∧ RelV p.2.1 q.2.1 ∧ RelV p.2.2 q.2.2) kvs xs ∧ ∃ o es ep, h.get? a = some o ∧ o.ExactDict ∧ o.data = .dict es ep ∧ es.toList = xs.map (entN w) ∧ (xs.map (·.1)).Nodup
/-- the key k is the value x: a flat one -/
inductive KeyF : NestedKey → V → Prop
  | none : KeyF .none .non
  | int (i : Int) : KeyF (.num i) (.int i)
  | text (z : Str) : KeyF (.text z) (.str z)
  | bool (b : Bool) : KeyF (.num (if b = true then 1 else 0)) (.bl b)
inductive KeyFs : List NestedKey → List V → Prop
  | nil : KeyFs [] []
  | cons {k : NestedKey} {x : V} {ks : List NestedKey} {xs : List V} : KeyF k x → KeyFs ks xs → KeyFs (k :: ks) (x :: xs)
/-- .. or a tuple of such -/
inductive KeyV (H : Hp) : NestedKey → V → Prop
  | flat {k : NestedKey} {x : V} : KeyF k x → KeyV H k x
  | tup {t : Addr} {ks : List NestedKey} {xs : List V} : H t = some (.tup xs) → KeyFs ks xs → KeyV H (.tup ks) (.ref t)
theorem KeyF.is {h : Heap} {k : NestedKey} {x : V} {u : Value} (f : KeyF k x) (r : RelV x u) : NestedIs h k u ∧ k.depth = 0 := by
  cases f with
  | none => cases r; exact ⟨.none, rfl⟩
  | int i => obtain ⟨t, rfl⟩ := r; exact ⟨.int _ _, rfl⟩
  | text z => obtain ⟨t, rfl⟩ := r; exact ⟨.text _ _, rfl⟩
  | bool b => cases r; exact ⟨.bool rfl, rfl⟩
theorem KeyFs.all {h : Heap} {ks : List NestedKey} {xs : List V} {us : List Value} (f : KeyFs ks xs) (r : Vals xs us) : NestedAll h ks us ∧ NestedKey.depthAll ks = 0 := by
  induction f generalizing us with
  | nil => cases r; exact ⟨.nil, rfl⟩
  | cons g _ ih =>
    cases r with
    | cons r1 r2 =>
      have a := ih r2
      have b := g.is (h := h) r1
      refine ⟨.cons b.1 a.1, ?_⟩
      simp only [NestedKey.depthAll]
      omega
section
variable {X : Cx} {pins : List (Addr × Obj)} {σ : St} {H : Hp} {s : Shared} {k : NestedKey} {x : V} {u : Value}
theorem KeyV.is (I : Inv X pins σ H s) (f : KeyV H k x) (r : RelV x u) : NestedIs s.heap k u ∧ k.depth ≤ 8 := by
  cases f with
  | flat g =>
    have z := g.is (h := s.heap) r
    exact ⟨z.1, by omega⟩
  | tup ht g =>
    obtain rfl : u = Value.ref _ := r
    obtain ⟨_, its, rv, ob⟩ := I.hok _ _ ht
    have z := g.all (h := s.heap) rv
    obtain ⟨o, e1, e2, n, e3⟩ := ob
    exact ⟨.tup e1 e2 e3 (show NestedAll _ _ its.toArray.toList from z.1), by show NestedKey.depthAll _ + 1 ≤ 8; omega⟩
end
/-- one key stored -/
def putM (kvs : List (NestedKey × V × V)) (k : NestedKey) (x v : V) : List (NestedKey × V × V) := if k ∈ kvs.map (·.1) then kvs.map (fun p => if p.1 = k then (p.1, p.2.1, v) else p) else kvs ++ [(k, x, v)]
/-- what stands under a key -/
def atM (kvs : List (NestedKey × V × V)) (k : NestedKey) : Option V := (kvs.find? fun p => decide (p.1 = k)).map (·.2.2)
abbrev PairM (kvs : List (NestedKey × V × V)) (xs : List (NestedKey × Value × Value)) : Prop := Paired (fun p q => p.1 = q.1 ∧ RelV p.2.1 q.2.1 ∧ RelV p.2.2 q.2.2) kvs xs
theorem PairM.keys {kvs : List (NestedKey × V × V)} {xs : List (NestedKey × Value × Value)} (h : PairM kvs xs) : kvs.map (·.1) = xs.map (·.1) := by
  induction h with
  | nil => rfl
  | cons e _ ih => rw [List.map_cons, List.map_cons, e.1, ih]
theorem PairM.len {kvs : List (NestedKey × V × V)} {xs : List (NestedKey × Value × Value)} (h : PairM kvs xs) : kvs.length = xs.length := by
  induction h with
  | nil => rfl
  | cons e _ ih => rw [List.length_cons, List.length_cons, ih]
theorem PairM.at {kvs : List (NestedKey × V × V)} {xs : List (NestedKey × Value × Value)} (h : PairM kvs xs) (k : NestedKey) : RelO (atM kvs k) (atN xs k) := by
  unfold atM atN
  induction h with
  | nil => first | exact True.intro | exact .none | exact ⟨⟩
  | @cons a b l1 l2 e _ ih =>
    rw [List.find?_cons, List.find?_cons, e.1]
    cases decide (b.1 = k) with
    | true => exact e.2.2
    | false => exact ih
theorem PairM.put {kvs : List (NestedKey × V × V)} {xs : List (NestedKey × Value × Value)} (h : PairM kvs xs) {k : NestedKey} {x v : V} {u r : Value} (rx : RelV x u) (rv : RelV v r) : PairM (putM kvs k x v) (storeN xs k u r) := by
  unfold putM storeN
  rw [h.keys]
  split
  · rename_i hin
    clear rx hin
    induction h with
    | nil => exact .nil
    | @cons a b l1 l2 e _ ih =>
      rw [List.map_cons, List.map_cons]
      refine .cons ?_ ih
      unfold putN
      rw [e.1]
      split
      · exact ⟨rfl, e.2.1, rv⟩
      · exact e
  · exact h.snoc ⟨rfl, rx, rv⟩
/-- it is there, and so are its keys -/
structure MixD (w : World) (H : Hp) (a : Addr) (kvs : List (NestedKey × V × V)) : Prop where
  at_ : H a = some (MixO w a kvs)
  keys : ∀ p ∈ kvs, KeyV H p.1 p.2.1
section
variable {X : Cx} {pins : List (Addr × Obj)} {σ : St} {H : Hp} {s : Shared} {a : Addr} {kvs : List (NestedKey × V × V)} {k : NestedKey} {x v : V} {u r : Value} {A : Around} {E : Value → Shared → Prop}
theorem PairM.keysN {xs : List (NestedKey × Value × Value)} (p : PairM kvs xs) (I : Inv X pins σ H s) (hk : ∀ p ∈ kvs, KeyV H p.1 p.2.1) : KeysN s.heap xs := by
  induction p with
  | nil => exact fun y hy => nomatch hy
  | @cons c d l1 l2 e _ ih =>
    intro y hy
    rcases List.mem_cons.mp hy with rfl | z
    · have q := (hk c List.mem_cons_self).is I e.2.1
      rw [e.1] at q
      exact q
    · exact ih (fun p hp => hk p (List.mem_cons_of_mem _ hp)) y z
theorem MixD.dict (I : Inv X pins σ H s) (m : MixD X.w H a kvs) : kvs.length ≤ sizeLine ∧ (a == sysModules) = false ∧ ∃ xs, PairM kvs xs ∧ DictN X.w s.heap a xs := by
  obtain ⟨⟨few, hd, xs, p, o, es, ep, h1, h2, h3, h4, h5⟩, _, _⟩ := I.hok a _ m.at_
  refine ⟨few, hd, xs, p, o, es, ep, h1, h2, h3, h4, PairM.keysN p I m.keys, h5⟩
end
end L2
set_option Elab.async false
set_option linter.all false
set_option maxRecDepth 100000
set_option maxHeartbeats 4000000
/-! d[k] = v, d[k], k in d in terms, for dicts of flat keys and tuples. -/
namespace L2
open PySem PySem.Spec PyProof.Rows MX
/-- the keys stay where the heap only grows -/
theorem KeyV.same {H H2 : Hp} {k : NestedKey} {x : V} (f : KeyV H k x) (s : Same H H2) : KeyV H2 k x := by
  cases f with
  | flat g => exact .flat g
  | tup h g => exact .tup (s _ _ h) g
theorem MixD.same {w : World} {H H2 : Hp} {a : Addr} {kvs : List (NestedKey × V × V)} (m : MixD w H a kvs) (s : Same H H2) : MixD w H2 a kvs := ⟨s _ _ m.at_, fun p hp => (m.keys p hp).same s⟩
/-- stored -/
theorem MixD.put {w : World} {H : Hp} {a : Addr} {kvs : List (NestedKey × V × V)} {k : NestedKey} {x v : V} (m : MixD w H a kvs) (hk : KeyV H k x) : MixD w (upd H a (MixO w a (putM kvs k x v))) a (putM kvs k x v) := by
  have up : ∀ {j : NestedKey} {y : V}, KeyV H j y → KeyV (upd H a (MixO w a (putM kvs k x v))) j y := fun f => by
    cases f with
    | flat g => exact .flat g
    | tup h g =>
      refine .tup ?_ g
      rw [upd_ne fun z => ?_]
      · exact h
      · rw [z, m.at_] at h
        cases h
  refine ⟨upd_same, fun p hp => ?_⟩
  unfold putM at hp
  split at hp
  · obtain ⟨q, hq, rfl⟩ := List.mem_map.mp hp
    have z := up (m.keys q hq)
    split
    · exact z
    · exact z
  · rcases List.mem_append.mp hp with z | z
    · exact up (m.keys p z)
    · obtain rfl := List.mem_singleton.mp z
      exact up hk
theorem MixD.new {w : World} {H : Hp} {a : Addr} : MixD w (upd H a (MixO w a [])) a [] := ⟨upd_same, fun p hp => nomatch hp⟩
end L2
set_option Elab.async false
set_option linter.all false
set_option maxRecDepth 100000
set_option maxHeartbeats 4000000
/-! for k in d, d a dict of flat keys and tuples. -/
namespace L2
open PySem PySem.Spec PyProof.Rows MX
theorem PairM.get {kvs : List (NestedKey × V × V)} {xs : List (NestedKey × Value × Value)} (h : PairM kvs xs) {i : Nat} {p : NestedKey × V × V} (e : kvs[i]? = some p) : ∃ q, xs[i]? = some q ∧ RelV p.2.1 q.2.1 ∧ RelV p.2.2 q.2.2 := by
  induction h generalizing i with
  | nil => simp at e
  | @cons a b l1 l2 r _ ih =>
    cases i with
    | zero =>
      rw [List.getElem?_cons_zero] at e
      cases e
      exact ⟨b, rfl, r.2⟩
    | succ j =>
      rw [List.getElem?_cons_succ] at e ⊢
      exact ih e
end L2
set_option Elab.async false
set_option linter.all false
set_option maxRecDepth 100000
set_option maxHeartbeats 4000000
/-! Dicts whose keys are tuples that may be objects of the module too. -/
namespace L2
open PySem PySem.Spec PyProof.Rows
theorem ent_prog (P P' : Program) (w : World) : (entryOfKey (tupleKind (mixKind P w)) : List Key × Addr × Value → DictEntry) = entryOfKey (tupleKind (mixKind P' w)) := rfl
abbrev P2 (as : List Addr) (kvs : List (List Key × V)) (xs : List (List Key × Addr × Value)) : Prop := as = xs.map (·.2.1) ∧ Paired (fun (p : List Key × V) (q : List Key × Addr × Value) => p.1 = q.1 ∧ RelV p.2 q.2.2) kvs xs
/-- the dict at d: its keys' addresses, its keys and what stands under them -/
def DX (w : World) (d : Addr) (as : List Addr) (kvs : List (List Key × V)) : HO := .ext fun h => kvs.length ≤ sizeLine ∧ (d == sysModules) = false ∧ ∃ (P : Program) (xs : List (List Key × Addr × Value)), P2 as kvs xs ∧
  ∃ o es ep, h.get? d = some o ∧ o.ExactDict ∧ o.data = .dict es ep ∧ es.toList = xs.map (entryOfKey (tupleKind (mixKind P w))) ∧ (xs.map (·.1)).Nodup
/-- the keys stand there -/
abbrev KyA (K : PySem.W.Frag) (H : Hp) (as : List Addr) (kvs : List (List Key × V)) : Prop := Paired (fun a kv => SqT K H a (kv.1.map kV)) as kvs
theorem dx_ok {P : Program} {w : World} {H : Hp} {h : Heap} {d : Addr} {as : List Addr} {kvs : List (List Key × V)} {xs : List (List Key × Addr × Value)} (few : kvs.length ≤ sizeLine) (hd : (d == sysModules) = false) (r : P2 as kvs xs)
    (x : ∃ o es ep, h.get? d = some o ∧ o.ExactDict ∧ o.data = .dict es ep ∧ es.toList = xs.map (entryOfKey (tupleKind (mixKind P w))) ∧ (xs.map (·.1)).Nodup) : ObjOk P w H h d (DX w d as kvs) := by
  refine ⟨⟨few, hd, P, xs, r, x⟩, ?_, fun h1 h2 z k => ?_⟩
  · obtain ⟨o, es, ep, e, _⟩ := x
    exact ⟨o, e⟩
  · obtain ⟨few2, hd2, P2, xs2, r2, o, es, ep, e, q⟩ := z
    exact ⟨few2, hd2, P2, xs2, r2, o, es, ep, k _ e, q⟩
theorem p2_val {as : List Addr} {kvs : List (List Key × V)} {xs : List (List Key × Addr × Value)} (r : P2 as kvs xs) (k : List Key) : RelO (valV kvs k) ((atKey xs k).map (·.2)) := by
  replace r := r.2
  induction r with
  | nil => exact True.intro
  | @cons p q ps qs h t ih =>
    obtain ⟨h1, h2⟩ := h
    by_cases e : p.1 = k
    · have e' : q.1 = k := h1.symm.trans e
      have b : atKey (q :: qs) k = some q.2 := by simp [atKey, List.find?_cons, e']
      rw [valV_pos e, b]; exact h2
    · have e' : ¬ q.1 = k := fun z => e (h1.trans z)
      have b : atKey (q :: qs) k = atKey qs k := by simp [atKey, List.find?_cons, e']
      rw [valV_neg e, b]; exact ih
theorem p2_len {as : List Addr} {kvs : List (List Key × V)} {xs : List (List Key × Addr × Value)} (r : P2 as kvs xs) : kvs.length = xs.length := Paired.length r.2
theorem p2_put {as : List Addr} {kvs : List (List Key × V)} {xs : List (List Key × Addr × Value)} (r : P2 as kvs xs) {k : List Key} {b : Addr} {v : V} {u : Value} (n : valV kvs k = none) (rv : RelV v u) : P2 (as ++ [b]) (kvs ++ [(k, v)]) (storedH xs k b u) := by
  have e := (p2_val r k).isSome_eq
  rw [n, Option.isSome_map] at e
  unfold storedH
  rw [if_neg (by rw [← e]; decide)]
  refine ⟨by rw [r.1, List.map_append]; rfl, Paired.snoc r.2 ⟨rfl, rv⟩⟩
section
variable {X : Cx} {pins : List (Addr × Obj)} {σ : St} {H : Hp} {s : Shared} {d b : Addr} {as : List Addr} {kvs : List (List Key × V)} {k : List Key} {v : V} {u r : Value} {A : Around} {E : Value → Shared → Prop}
theorem Inv.keyT (I : Inv X pins σ H s) (h : SqT X.K H b (k.map kV)) : (tupleKind (mixKind X.prog X.w)).is s.heap k b := by
  obtain ⟨its, r, ⟨o, h1, h2, n, h3⟩, _⟩ := I.tuple h
  exact ⟨o, its.toArray, n, h1, h2, h3, by simpa using items_are r⟩
theorem Inv.keysT (I : Inv X pins σ H s) {xs : List (List Key × Addr × Value)} (ky : KyA X.K H as kvs) (r : P2 as kvs xs) : ∀ x ∈ xs, (tupleKind (mixKind X.prog X.w)).is s.heap x.1 x.2.1 := by
  obtain ⟨e, r⟩ := r
  subst e
  induction r with
  | nil => exact fun x hx => nomatch hx
  | cons h _ ih =>
    rw [List.map_cons] at ky
    cases ky with
    | cons a t =>
      intro x hx
      rcases List.mem_cons.mp hx with rfl | hx
      · rw [h.1] at a
        exact I.keyT a
      · exact ih t x hx
theorem dx_dict (I : Inv X pins σ H s) (e : Rd H d (DX X.w d as kvs)) (ky : KyA X.K H as kvs) : kvs.length ≤ sizeLine ∧ (d == sysModules) = false ∧ ∃ xs, P2 as kvs xs ∧ s.heap.DictOfH (tupleKind (mixKind X.prog X.w)) d xs := by
  obtain ⟨⟨few, hd, P, xs, p, o, es, ep, h1, h2, h3, h4, h5⟩, _, _⟩ := (show ObjOk X.prog X.w H s.heap d (DX X.w d as kvs) from e.ok I.hok)
  refine ⟨few, hd, xs, p, o, es, ep, h1, h2, h3, ?_, I.keysT ky p, h5⟩
  rw [h4, ent_prog P X.prog X.w]
end
/-- what the dict at a holds at the key y -/
def DGetY (w : World) (K : PySem.W.Frag) (H : Hp) (a : Addr) (y : V) (r : Option V) : Prop :=
  ∃ as kvs k b, Rd H a (DX w a as kvs) ∧ KyA K H as kvs ∧ y = .ref b ∧ SqT K H b (k.map kV) ∧ r = valV kvs k
/-- the heap behind a[y] = v, y new -/
def DPutY (w : World) (K : PySem.W.Frag) (H : Hp) (a : Addr) (y v : V) (H' : Hp) : Prop :=
  ∃ as kvs k b, H a = some (DX w a as kvs) ∧ KyA K H as kvs ∧ y = .ref b ∧ SqT K H b (k.map kV) ∧ valV kvs k = none ∧ kvs.length < sizeLine ∧ H' = upd H a (DX w a (as ++ [b]) (kvs ++ [(k, v)]))
def tDGetY (w : World) (K : PySem.W.Frag) (td ty : TE) : TE := fun σ H Q => td σ H fun x H1 => ty σ H1 fun y H2 => ∃ a v, x = .ref a ∧ DGetY w K H2 a y (some v) ∧ Q v H2
def tDInY (w : World) (K : PySem.W.Frag) (ty td : TE) : TE := fun σ H Q => ty σ H fun y H1 => td σ H1 fun x H2 => ∃ a o, x = .ref a ∧ DGetY w K H2 a y o ∧ Q (.bl o.isSome) H2
def tDNotInY (w : World) (K : PySem.W.Frag) (ty td : TE) : TE := fun σ H Q => ty σ H fun y H1 => td σ H1 fun x H2 => ∃ a o, x = .ref a ∧ DGetY w K H2 a y o ∧ Q (.bl (!o.isSome)) H2
def sDPutY (w : World) (K : PySem.W.Frag) (td ty tv : TE) : TS := fun D σ H => tv σ H fun v H1 => td σ H1 fun x H2 => ty σ H2 fun y H3 => ∃ a H4, x = .ref a ∧ DPutY w K H3 a y v H4 ∧ D.nx σ H4
section
variable {X : Cx} {o i value : Expr} {pos pos' : Pos} {td ty tv : TE}
theorem pe_dgetY {w : World} {K : PySem.W.Frag} (hw : X.w = w) (hk : X.K = K) (hu : X.A.units + 1 < cLine) (ho : PE X o td) (hi : PE X i ty) (hs : NoSl i) : PE X (.Subscript o i pos) (tDGetY w K td ty) := by
  subst hw hk
  refine ⟨fun pins s σ H Q I h => ?_⟩
  refine subD_of PySem.F.slot_dict_getitem.lookup hs (thn (ho.run pins s σ H _ I h) fun u s1 ⟨x, H1, I1, rx, q1⟩ => thn (hi.run pins s1 σ H1 _ I1 q1) fun iv s2 ⟨y, H2, I2, ry, a, v, ex, g, q2⟩ => ?_)
  subst ex
  obtain rfl : u = Value.ref a := rx
  obtain ⟨as, kvs, k, b, e, ky, rfl, eb, l⟩ := g
  obtain rfl : iv = Value.ref b := ry
  obtain ⟨z, hd, xs, rel, dd⟩ := dx_dict I2 e ky
  obtain ⟨w', hw, rw'⟩ := RelO.some_of (v := v) (o := (atKey xs k).map (·.2)) (by rw [l]; exact p2_val rel k)
  obtain ⟨p, hp, hp2⟩ := Option.map_eq_some_iff.mp hw
  refine ⟨dd.typeIs, wpAny_getItem_heap (tupleKind_room_in1 hu) (I2.keyT eb) dd hp ?_⟩
  rw [hp2]
  exact ⟨v, H2, I2.tok _, rw', q2⟩
theorem pc_dinY {w : World} {K : PySem.W.Frag} (hw : X.w = w) (hk : X.K = K) (hu : X.A.units + 1 < cLine) (hi : PE X i ty) (ho : PE X o td) : PC X .In i o (tDInY w K ty td) := by
  subst hw hk
  refine ⟨fun pins s σ H Q I h => ?_⟩
  refine thn (hi.run pins s σ H _ I h) fun iv s1 ⟨y, H1, I1, ry, q1⟩ => thn (ho.run pins s1 σ H1 _ I1 q1) fun u s2 ⟨x, H2, I2, rx, a, ov, ex, g, q2⟩ => ?_
  subst ex
  obtain rfl : u = Value.ref a := rx
  obtain ⟨as, kvs, k, b, e, ky, rfl, eb, l⟩ := g
  obtain rfl : iv = Value.ref b := ry
  obtain ⟨z, hd, xs, rel, dd⟩ := dx_dict I2 e ky
  refine wpAny_in_heap (tupleKind_room_in1 hu) (I2.keyT eb) hd dd ?_
  have q := (p2_val rel k).isSome_eq
  rw [Option.isSome_map] at q
  rw [← q, ← l]
  exact ⟨.bl ov.isSome, H2, I2.tok _, rfl, q2⟩
theorem pc_dnotinY {w : World} {K : PySem.W.Frag} (hw : X.w = w) (hk : X.K = K) (hu : X.A.units + 1 < cLine) (hi : PE X i ty) (ho : PE X o td) : PC X .NotIn i o (tDNotInY w K ty td) := by
  subst hw hk
  refine ⟨fun pins s σ H Q I h => ?_⟩
  refine thn (hi.run pins s σ H _ I h) fun iv s1 ⟨y, H1, I1, ry, q1⟩ => thn (ho.run pins s1 σ H1 _ I1 q1) fun u s2 ⟨x, H2, I2, rx, a, ov, ex, g, q2⟩ => ?_
  subst ex
  obtain rfl : u = Value.ref a := rx
  obtain ⟨as, kvs, k, b, e, ky, rfl, eb, l⟩ := g
  obtain rfl : iv = Value.ref b := ry
  obtain ⟨z, hd, xs, rel, dd⟩ := dx_dict I2 e ky
  refine wpAny_notIn_heap (tupleKind_room_in1 hu) (I2.keyT eb) hd dd ?_
  have q := (p2_val rel k).isSome_eq
  rw [Option.isSome_map] at q
  rw [← q, ← l]
  exact ⟨.bl (!ov.isSome), H2, I2.tok _, rfl, q2⟩
theorem ps_dputY {w : World} {K : PySem.W.Frag} (hw : X.w = w) (hk : X.K = K) (hu : X.A.units + 1 < cLine) (ho : PE X o td) (hi : PE X i ty) (hv : PE X value tv) (hs : swapsWith value (some (.Subscript o i pos')) pos.line X.env = pure false) :
    PS X (.Assign [.Subscript o i pos'] value pos) (sDPutY w K td ty tv) := by
  subst hw hk
  refine ⟨fun pins s σ H D I h => ?_⟩
  refine wpAny_Assign_Subscript (thn (hv.run pins s σ H _ I h) fun r s1 ⟨v, H1, I1, rv, q1⟩ => thn (ho.run pins s1 σ H1 _ I1 q1) fun u s2 ⟨x, H2, I2, rx, q2⟩ => thn (hi.run pins s2 σ H2 _ I2 q2) fun iv s3 ⟨y, H3, I3, ry, a, H4, ex, g, q3⟩ => ?_) hs
  subst ex
  obtain rfl : u = Value.ref a := rx
  obtain ⟨as, kvs, k, b, e, ky, rfl, eb, n, l, rfl⟩ := g
  obtain rfl : iv = Value.ref b := ry
  obtain ⟨z, hd, xs, rel, dd⟩ := dx_dict I3 (.inl e) ky
  have hz : xs.length ≤ sizeLine := by rw [← p2_len rel]; exact z
  refine wpAny_setItem_heap (hsz := hz) (tupleKind_room_in1 hu) (I3.keyT eb) dd fun h' dd' hs => ⟨σ, _, ?_, q3⟩
  obtain ⟨q, es, ep, hq, h2, h3, h4, _, h5⟩ := dd'
  exact d_write I3 (by rw [e]; exact True.intro) hs ⟨q, hq⟩ (dx_ok (by rw [List.length_append, List.length_singleton]; omega) hd (p2_put rel n rv) ⟨q, es, ep, hq, h2, h3, h4, h5⟩)
def tDNewY (w : World) : TE := fun _ H Q => ∀ p, H p = none → Q (.ref p) (upd H p (DX w p [] []))
theorem dx_new {X : Cx} {pins : List (Addr × Obj)} {σ : St} {H : Hp} {s : Shared} (I : Inv X pins σ H s) : Inv X pins σ (upd H s.heap.objs.size (DX X.w s.heap.objs.size [] [])) { s with heap := s.heap.push { cls := .type "dict", data := .dict #[] } } :=
  I.laid (a := s.heap.objs.size) (t' := s.toks) (fun _ _ q => Heap.get?_push_of_some _ q) (Nat.le_refl _)
    (dx_ok (P := X.prog) (xs := []) (Nat.zero_le _) (beq_eq_false_iff_ne.mpr (Ne.symm (Nat.ne_of_lt I.big))) ⟨rfl, .nil⟩ ⟨_, #[], 0, Heap.get?_push_size _ rfl, ⟨rfl, rfl, rfl⟩, rfl, rfl, List.nodup_nil⟩)
theorem pe_dnewY {w : World} {pos : Pos} (hw : X.w = w) : PE X (.Dict [] [] pos) (tDNewY w) := by
  subst hw
  exact ⟨fun pins s σ H Q I h =>
  wpAny_Dict_empty ⟨.ref s.heap.objs.size, _, dx_new I, rfl, h _ (I.hok.fresh (Nat.le_refl _))⟩⟩
def tDispY (w : World) (K : PySem.W.Frag) (tk tv : TE) : TE := fun σ H Q => ∀ p, H p = none → tPairs [(tk, tv)] σ (upd H p (DX w p [] [])) fun ps H2 => H2 p = some (DX w p [] []) ∧ ∃ (k : List Key) (b : Addr) (y : V), ps = [(.ref b, y)] ∧ SqT K H2 b (k.map kV) ∧ Q (.ref p) (upd H2 p (DX w p [b] [(k, y)]))
theorem pe_dispY {pos : Pos} {k v : Expr} {tk tv : TE} {w : World} {K : PySem.W.Frag} (hw : X.w = w) (hk : X.K = K) (hu : X.A.units + 1 < cLine) (h : PPs X pos [some k] [v] [(tk, tv)]) : PE X (.Dict [some k] [v] pos) (tDispY w K tk tv) := by
  subst hw hk
  refine ⟨fun pins s σ H Q I q => ?_⟩
  have hn := I.hok.fresh (Nat.le_refl s.heap.objs.size)
  have I1 := dx_new I
  rw [arm_eval_Dict, zip_pairTrees [some k] [v] X.env pos rfl rfl, dictDisplay_pairs _ (by intro z; cases z) (by show 1 < 17; decide)]
  refine wpAny_bind (wpAny_standAt (wpAny_bind ?_))
  unfold subDict
  refine wpAny_bind (wpAny_alloc ?_)
  refine wpAny_bind (wpAny_holding ?_)
  rw [if_pos (show (pairTrees [some k] [v] X.env pos).length ≤ 15 from by show 1 ≤ 15; decide)]
  refine wpAny_bind (thn (h.run pins _ σ _ _ I1 (q _ hn)) fun vs s2 ⟨ps, H2, I2, rel, e, kk, b, y, ep, eb, q2⟩ => ?_)
  subst ep
  obtain ⟨⟨u1, u2⟩, rfl, r1, r2⟩ : ∃ w : Value × Value, vs = [w] ∧ RelV (.ref b) w.1 ∧ RelV y w.2 := by
    cases rel with
    | cons r t =>
      cases t
      exact ⟨_, rfl, r.1, r.2⟩
  cases (show u1 = Value.ref b from r1)
  refine wpAny_holding ?_
  obtain ⟨z, hd, xs, rl, dd⟩ := dx_dict I2 (.inl e) .nil
  obtain rfl : xs = [] := by
    have := p2_len rl
    exact List.length_eq_zero_iff.mp this.symm
  rw [List.forIn_cons]
  refine wpAny_bind (wpAny_bind ?_)
  show wpAny _ _ (do dictSet s.heap.objs.size (.ref b) u2; pure (ForInStep.yield PUnit.unit)) _ _ _
  refine wpAny_bind (wpAny_dictSet_heap (hsz := Nat.zero_le _) (knd := tupleKind (mixKind X.prog X.w)) (show X.A.units < cLine by omega) (I2.keyT eb) dd fun h' dd' hs => ?_)
  refine wpAny_pure ?_
  dsimp only
  rw [List.forIn_nil]
  refine wpAny_pure ?_
  refine wpAny_pure ?_
  refine wpAny_pure ?_
  refine wpAny_pure ⟨.ref s.heap.objs.size, _, ?_, rfl, q2⟩
  obtain ⟨q, es, ep, hq, h2, h3, h4, _, h5⟩ := dd'
  exact d_write I2 (by rw [e]; exact True.intro) hs ⟨q, hq⟩ (dx_ok (by show 1 ≤ sizeLine; decide) hd (p2_put (b := b) rl rfl r2) ⟨q, es, ep, hq, h2, h3, h4, h5⟩)
def rLenX (w : World) (K : PySem.W.Frag) : List V → Hp → VK → Prop := fun xs H Q => ∃ (p : Addr) (as : List Addr) (kvs : List (List Key × V)), xs = [.ref p] ∧ H p = some (DX w p as kvs) ∧ KyA K H as kvs ∧ Q (.int ((kvs.length : Nat) : Int)) H
theorem call_len_dX {w : World} {K : PySem.W.Frag} (hw : X.w = w) (hk : X.K = K) : CallR X (.builtin "len") (rLenX w K) := by
  subst hw hk
  intro pins s σ H xs us Q I r h
  obtain ⟨p, as, kvs, rfl, hp, ky, q⟩ := h
  obtain ⟨u, rfl, rx⟩ := vals1 r
  obtain rfl : u = .ref p := rx
  obtain ⟨z, hd, ys, rel, dd⟩ := dx_dict I (.inl hp) ky
  have hl : kvs.length = ys.length := p2_len rel
  refine call_len_dictH hd dd (by rw [← hl]; rw [sizeLine_eq] at z; omega) ?_
  rw [← hl]
  exact ⟨.int ((kvs.length : Nat) : Int), H, I.tok _, ⟨_, rfl⟩, q⟩
end
/-- the keys of the locked dict at d, in their order -/
def Itx (w : World) (d : Addr) (o : Obj) (as : List Addr) (kvs : List (List Key × V)) : It :=
  ⟨fun i H => H d = some (.frz o (DX w d as kvs)) ∧ i < as.length, fun i H x H' => H' = H ∧ ∃ b, as[i]? = some b ∧ x = .ref b, fun i H => H d = some (.frz o (DX w d as kvs)) ∧ as.length ≤ i⟩
section
variable {X : Cx} {pins : List (Addr × Obj)} {σ : St} {H : Hp} {s : Shared} {d : Addr} {o : Obj} {as : List Addr} {kvs : List (List Key × V)}
theorem Inv.frzX (I : Inv X pins σ H s) (h : H d = some (.frz o (DX X.w d as kvs))) : (d == sysModules) = false ∧ s.heap.get? d = some o ∧ o.ExactDict ∧ ∃ (es : Array DictEntry) (ep : Nat), o.data = .dict es ep ∧ es.size = as.length ∧
    ∀ (i : Nat) (b : Addr), as[i]? = some b → ∃ en : DictEntry, es[i]? = some en ∧ en.key = .ref b := by
  obtain ⟨ho, ⟨few, hs, P, xs, p, o', es, ep, ho', hx, hdt, he, _⟩, _, _⟩ := I.hok d _ h
  rw [ho] at ho'
  cases ho'
  have l1 : es.size = xs.length := by rw [← Array.length_toList, he, List.length_map]
  obtain ⟨rfl, _⟩ := p
  refine ⟨hs, ho, hx, es, ep, hdt, by rw [List.length_map, l1], fun i b e => ?_⟩
  rw [List.getElem?_map] at e
  obtain ⟨q, hq, rfl⟩ := Option.map_eq_some_iff.mp e
  refine ⟨entryOfKey (tupleKind (mixKind P X.w)) q, ?_, rfl⟩
  rw [← Array.getElem?_toList, he, List.getElem?_map, hq]
  rfl
end
section
variable {P : Program} {w : World} {K : PySem.W.Frag} {tg : Expr} {d : Addr} {o : Obj} {es : Array DictEntry} {ep : Nat}
theorem turn_keysX {as : List Addr} {kvs : List (List Key × V)} (it : Addr) (hod : o.data = .dict es ep) : Turn P w K tg (Itx w d o as kvs) [it] it (fun i h => h.IsKeyIter it d i as.length ep) where
  mem := by simp
  obj := fun i h st b hb => by
    obtain rfl : b = it := by simpa using hb
    obtain ⟨oi, e, c, dd⟩ := st
    exact ⟨oi, e, fun v z => by rw [dd] at z; cases z⟩
  keep := fun i h h' st k => st.at fun oi e => k it (by simp) oi e
  item := by
    intro X hP hw hK hc i pins s σ H E I hf st hg
    subst hP hw hK
    obtain ⟨hd, hi⟩ := hg
    obtain ⟨f0, f1, f2, f3, f4, f5⟩ := hf it (by simp)
    obtain ⟨hs, hgd, hx, es', ep', hdt, hsz, ent⟩ := I.frzX hd
    obtain ⟨rfl, rfl⟩ := dict_ep hod hdt
    obtain ⟨b, hb⟩ : ∃ b, as[i]? = some b := ⟨as[i], List.getElem?_eq_getElem hi⟩
    obtain ⟨en, hen, hr⟩ := ent i b hb
    refine next_key_item st hgd hdt hsz hen fun h' st' sb => ?_
    have I1 : Inv X pins σ H { s with heap := h' } := I.turned (t' := s.toks) (fun b ob hb e => (sb.2 b hb).trans e) f0 f1 f3 f4 f5
    obtain ⟨oi, e, c, dd⟩ := id st'
    exact ⟨en.key, rfl, go_of (s := { s with heap := h' }) e c dd (by decide) ⟨.ref b, H, I1, hr, ⟨rfl, b, hb, rfl⟩, st', fun b hb => (hf b hb).1⟩⟩
  done := by
    intro X hP hw hK hc i pins s σ H E I hf st hg
    subst hP hw hK
    obtain ⟨hd, hi⟩ := hg
    obtain ⟨f0, f1, f2, f3, f4, f5⟩ := hf it (by simp)
    obtain ⟨hs, hgd, hx, es', ep', hdt, hsz, ent⟩ := I.frzX hd
    obtain ⟨rfl, rfl⟩ := dict_ep hod hdt
    exact next_key_end (I.ok.hd hc) st hgd hdt hsz hi fun h' eb => ⟨rfl, I.turned (t' := s.toks) (fun b ob hb e => eb b ob hb e) f0 f1 f3 f4 f5⟩
  self := fun A i s Q E st h => wpAny_pyIter_keyiter st h
theorem walk_keysX {as : List Addr} {kvs : List (List Key × V)} : Walk (Itx w d o as kvs) as.length (fun H => H d = some (.frz o (DX w d as kvs))) (fun i H x H' => H' = H ∧ ∃ b, as[i]? = some b ∧ x = .ref b) :=
  ⟨fun _ _ hi q => ⟨q, hi⟩, fun _ q => ⟨q, Nat.le_refl _⟩, fun _ _ _ _ _ _ y => y⟩
def iKeysXt (w : World) (td : TE) : TI := fun σ H R => td σ H fun x H1 => ∃ d o as kvs, x = .ref d ∧ H1 d = some (.frz o (DX w d as kvs)) ∧ R (Itx w d o as kvs) H1
end
section
variable {X : Cx} {tg e : Expr} {td : TE}
/-- for k in d, d locked -/
theorem pi_keysXt {w : World} (hw : X.w = w) (he : PE X e td) : PI X tg e (iKeysXt w td) := by
  subst hw
  refine ⟨fun pins s σ H R I h => ?_⟩
  refine thn (he.run pins s σ H _ I h) fun u s1 ⟨x, H1, I1, rx, d, o, as, kvs, ex, hd, q⟩ => ?_
  subst ex
  obtain rfl : u = Value.ref d := rx
  obtain ⟨hs, hgd, hx, es, ep, hdt, hsz, ent⟩ := I1.frzX hd
  refine iter_keys hs hgd hx hdt (pi_one (tk := s1.toks) I1 _ (turn_keysX _ hdt) ⟨_, Heap.get?_push_size _ rfl, rfl, ?_⟩ q)
  rw [hsz] <;> rfl
end
end L2
set_option Elab.async false
set_option linter.all false
set_option maxRecDepth 100000
set_option maxHeartbeats 8000000
set_option pp.maxSteps 900
/-! Places as tuples of two texts; the small functions of meetings. -/
namespace V8
open PySem PySem.Spec PyProof.Rows L2 MZ
variable {K : PySem.W.Frag} {ω : World}
abbrev s_other_side : Stmt := topS 44
theorem sc_other_side : FnScope ["side"] ["side"] (defScope s_other_side) := ⟨rfl, rfl, rfl, by decide +kernel, rfl, by decide +kernel, by decide +kernel⟩
abbrev s_place_behind : Stmt := topS 45
theorem sc_place_behind : FnScope ["ahead", "rest", "word"] ["ahead", "rest", "word"] (defScope s_place_behind) := ⟨rfl, rfl, rfl, by decide +kernel, rfl, by decide +kernel, by decide +kernel⟩
abbrev s_moves_from : Stmt := topS 46
abbrev n_moves_from : List Str := ["first", "second", "place", "ahead", "rest", "taker", "pairs", "tried", "word", "label", "move"]
theorem sc_moves_from : FnScope ["first", "second", "place", "ahead", "rest", "taker", "pairs", "tried", "word", "label", "move"] ["first", "second", "place"] (defScope s_moves_from) := ⟨rfl, rfl, rfl, by decide +kernel, rfl, by decide +kernel, by decide +kernel⟩
abbrev s_with_label : Stmt := topS 50
theorem sc_with_label : FnScope ["way", "taker", "label", "one", "other"] ["way", "taker", "label"] (defScope s_with_label) := ⟨rfl, rfl, rfl, by decide +kernel, rfl, by decide +kernel, by decide +kernel⟩
abbrev s_lead_of : Stmt := topS 52
theorem sc_lead_of : FnScope ["way", "one", "other"] ["way"] (defScope s_lead_of) := ⟨rfl, rfl, rfl, by decide +kernel, rfl, by decide +kernel, by decide +kernel⟩
/-! ### texts -/
theorem starts_Sx (a b : List Nat) : Txt.startswith (Sx a) (Sx b) = b.isPrefixOf a := by
  unfold Txt.startswith
  rw [PySem.StrLaws.subAt_eq, Sx_len, Sx_len]
  have e : ∀ x : List Nat, (Sx x).cps.toList = x := fun x => by show x.toArray.toList = x; simp
  rw [e, e, List.drop_zero, Bool.eq_iff_iff, Bool.and_eq_true, decide_eq_true_iff, beq_iff_eq, List.isPrefixOf_iff_prefix]
  constructor
  · rintro ⟨_, h⟩
    rw [← h]
    exact List.take_prefix _ _
  · rintro ⟨z, rfl⟩
    exact ⟨by rw [List.length_append]; omega, List.take_left⟩
theorem cut_Sx (a : List Nat) (k : Nat) (h : k ≤ a.length) : cutS (Sx a) (some ((k : Nat) : Int)) none = Sx (a.drop k) := by
  unfold cutS
  rw [HT.sIx_none, HT.sIx_nat, Sx_len, Nat.min_eq_left h]
  have e : (Sx a).cps.toList = a := by show a.toArray.toList = a; simp
  rw [e]
  show Str.mk _ = Str.mk _
  congr 2
  rw [List.take_of_length_le]
  rw [List.length_drop]
  omega
theorem Sx_app (a b : List Nat) : Sx a ++ Sx b = Sx (a ++ b) := by
  show Str.mk (a.toArray ++ b.toArray) = Str.mk (a ++ b).toArray
  simp
theorem Sx_eq (a b : List Nat) : decide (V.str (Sx a) = V.str (Sx b)) = decide (a = b) := decide_eq_decide.mpr ⟨fun e => Sx_inj (V.str.inj e), fun e => by rw [e]⟩
/-! ### places -/
def sideS (b : Bool) : Str := if b = true then "one" else "two"
def plS : Pl → Str × Str
  | .start => ("start", "")
  | .fin => ("end", "")
  | .rest a r => (sideS a, Sx r)
def plV (p : Pl) : List V := [.str (plS p).1, .str (plS p).2]
def plK (p : Pl) : List Key := [Sum.inr (plS p).1, Sum.inr (plS p).2]
theorem side_inj {a b : Bool} (h : sideS a = sideS b) : a = b := by
  cases a <;> cases b
  · rfl
  · exact absurd h (by decide +kernel)
  · exact absurd h (by decide +kernel)
  · rfl
theorem plS_inj {p q : Pl} (h : plS p = plS q) : p = q := by
  have h1 := congrArg Prod.fst h
  have h2 := congrArg Prod.snd h
  have ns : ∀ a : Bool, sideS a ≠ "start" ∧ sideS a ≠ "end" := fun a => by cases a <;> exact ⟨by decide +kernel, by decide +kernel⟩
  cases p with
  | start =>
    cases q with
    | start => rfl
    | fin => exact absurd (show ("start" : Str) = "end" from h1) (by decide +kernel)
    | rest a r => exact absurd (show ("start" : Str) = sideS a from h1).symm (ns a).1
  | fin =>
    cases q with
    | start => exact absurd (show ("end" : Str) = "start" from h1) (by decide +kernel)
    | fin => rfl
    | rest a r => exact absurd (show ("end" : Str) = sideS a from h1).symm (ns a).2
  | rest a r =>
    cases q with
    | start => exact absurd (show sideS a = "start" from h1) (ns a).1
    | fin => exact absurd (show sideS a = "end" from h1) (ns a).2
    | rest b s =>
      rw [side_inj (show sideS a = sideS b from h1), Sx_inj (show Sx r = Sx s from h2)]
theorem plK_inj {p q : Pl} (h : plK p = plK q) : p = q := by
  unfold plK at h
  injection h with h1 h2
  injection h2 with h2 _
  exact plS_inj (Prod.ext (Sum.inr.inj h1) (Sum.inr.inj h2))
/-- what keeps a tuple -/
theorem sq_mono {K : PySem.W.Frag} {H H' : Hp} {b : Addr} {xs : List V} (h : SqT K H b xs) (k : ∀ o, H b = some o → (o = .tup xs ∨ ∃ od, o = .frz od (.tup xs)) → H' b = some o) : SqT K H' b xs := by
  rcases h with (h | ⟨od, h⟩) | h
  · exact .inl (.inl (k _ h (.inl rfl)))
  · exact .inl (.inr ⟨od, k _ h (.inr ⟨od, rfl⟩)⟩)
  · exact .inr h
theorem sq_same {K : PySem.W.Frag} {H H' : Hp} {b : Addr} {xs : List V} (h : SqT K H b xs) (s : Same H H') : SqT K H' b xs := sq_mono h fun o e _ => s _ _ e
theorem sq_ne {K : PySem.W.Frag} {H : Hp} {b D : Addr} {xs : List V} {o u : HO} (h : SqT K H b xs) (hD : H D = some u) (n : u ≠ .tup xs) (n2 : ∀ od, u ≠ .frz od (.tup xs)) : SqT K (upd H D o) b xs := sq_mono h fun v e z => by
  rw [upd_ne fun q => ?_]
  · exact e
  · rw [q, hD] at e
    cases e
    rcases z with z | ⟨od, z⟩
    · exact n z
    · exact n2 od z
theorem sq_lst {K : PySem.W.Frag} {H : Hp} {b D : Addr} {xs ys : List V} {o : HO} (h : SqT K H b xs) (hD : H D = some (.lst ys)) : SqT K (upd H D o) b xs := sq_ne h hD (fun z => nomatch z) (fun _ z => nomatch z)
theorem sq_dx {K : PySem.W.Frag} {ω : World} {H : Hp} {b D : Addr} {xs : List V} {as : List Addr} {kvs : List (List Key × V)} {o : HO} (h : SqT K H b xs) (hD : H D = some (DX ω D as kvs)) : SqT K (upd H D o) b xs := sq_ne h hD (fun z => nomatch z) (fun _ z => nomatch z)
/-- the tuples that the text itself keeps -/
structure CnH (K : PySem.W.Frag) (aS aE aV : Addr) (H : Hp) : Prop where
  st : SqT K H aS (plV .start)
  en : SqT K H aE (plV .fin)
  ev : SqT K H aV [.str (sideS true), .str (Sx [])]
theorem CnH.same {aS aE aV : Addr} {H H' : Hp} (c : CnH K aS aE aV H) (s : Same H H') : CnH K aS aE aV H' := ⟨sq_same c.st s, sq_same c.en s, sq_same c.ev s⟩
structure Tm (mg : Str → Option Value) (aS aE aV : Addr) : Prop extends Blt mg where
  gSTART : GV mg "START" (.ref aS)
  gEND : GV mg "END" (.ref aE)
  gEVEN : GV mg "EVEN" (.ref aV)
  any : mg "any" = none
def spOther : Sp := fun vs H Q _ => ∃ a : Bool, vs = [.str (sideS a)] ∧ Q (.str (sideS (!a))) H
/-- where a word leads, as a value -/
def PlO (K : PySem.W.Frag) (H : Hp) (v : V) : Option Pl → Prop
  | none => v = .non
  | some p => ∃ b, v = .ref b ∧ SqT K H b (plV p)
def spBehind (K : PySem.W.Frag) (aS aE aV : Addr) : Sp := fun vs H Q _ => ∃ (a : Bool) (r w : Wd), vs = [.str (sideS a), .str (Sx r), .str (Sx w)] ∧ CnH K aS aE aV H ∧ r.length ≤ 9 ∧ w.length ≤ 9 ∧ ∀ v H', Same H H' → PlO K H' v (behind a r w) → Q v H'
/-- the labels of both rows, as a tuple -/
def WyT (H : Hp) (b : Addr) (w : List Nat × List Nat) : Prop := H b = some (.tup [.str (Sx w.1), .str (Sx w.2)])
def spLabel : Sp := fun vs H Q _ => ∃ (b : Addr) (w : List Nat × List Nat) (t : Bool) (l : Nat), vs = [.ref b, .str (sideS t), .str (L1 l)] ∧ WyT H b w ∧ w.1.length ≤ 2000 ∧ w.2.length ≤ 2000 ∧ ∀ c H', Same H H' → WyT H' c (put t l w) → Q (.ref c) H'
def LdO (K : PySem.W.Frag) (H : Hp) (v : V) : Option (Bool × List Nat) → Prop
  | none => v = .non
  | some k => ∃ b, v = .ref b ∧ SqT K H b [.str (sideS k.1), .str (Sx k.2)]
def spLead (K : PySem.W.Frag) : Sp := fun vs H Q _ => ∃ (b : Addr) (w : List Nat × List Nat), vs = [.ref b] ∧ WyT H b w ∧ w.1.length ≤ 2000 ∧ w.2.length ≤ 2000 ∧ ∀ v H', Same H H' → LdO K H' v (lead w) → Q v H'
section
variable {P : Program} {w : World} {K : PySem.W.Frag} {mg : Str → Option Value} {base : Heap} {aS aE aV : Addr}
theorem ok_other {f : Addr} {fd : FuncData} (F : Fun K "other_side" "other_side" s_other_side f fd) (T : Tm mg aS aE aV) : FnOk P w K mg base CX0 1 f fd ["side"] spOther := by
  refine F.ok sc_other_side (fun vs H Q E h => ?_) (fun cdv A outer s H vs Q E hr h => ?_)
  · obtain ⟨a, rfl, _⟩ := h
    rfl
  · obtain ⟨a, rfl, q⟩ := h
    refine ⟨_, (pss_one (ps_ret (pe_ifExp (pt_cmpR op_eq (pv 0) pe_str (nomark _)) pe_str pe_str))), ?_⟩
    cases a with
    | true =>
      refine ⟨_, rfl, rfl, _, rfl, ?_⟩
      rw [decide_eq_true (show V.str (sideS true) = V.str "one" from rfl)]
      exact iteT q
    | false =>
      refine ⟨_, rfl, rfl, _, rfl, ?_⟩
      rw [decide_eq_false (show ¬ V.str (sideS false) = V.str "one" from fun e => nomatch side_inj (V.str.inj e : sideS false = sideS true))]
      exact iteF q
theorem ok_behind {f : Addr} {fd : FuncData} (F : Fun K "place_behind" "place_behind" s_place_behind f fd) (T : Tm mg aS aE aV) (D_other_side : Df P w K mg base 1 "other_side" spOther) : FnOk P w K mg base CX0 2 f fd ["ahead", "rest", "word"] (spBehind K aS aE aV) := by
  refine F.ok sc_place_behind (fun vs H Q E h => ?_) (fun cdv A outer s H vs Q E hr h => ?_)
  · obtain ⟨a, r, w, rfl, _⟩ := h
    rfl
  · obtain ⟨a, r, w, rfl, cn, hr9, hw9, q⟩ := h
    refine ⟨_, (pss_cons (ps_if (pt_cmpR op_eq (pv 2) (pv 1) (nomark _))
        (pss_one (ps_ret (pe_gv T.gEND (by rfl))))
        pss_nil)
      (pss_cons (ps_if (pt_truth (pe_bmK (K := K) rfl PySem.F.plainAttrs_str PySem.F.slot_str_startswith PySem.F.type_str_startswith mt_startswith (pv 1) (pa_cons (pv 2) pa_nil)) (by intro _; rfl))
        (pss_one (ps_ret (pe_tup (pa_cons (pv 0) (pa_cons (pe_slice sl_str (pv 1) (po_some (pe_callB call_len_str (by rfl) T.len (by decide +kernel) (pa_cons (pv 2) pa_nil))) po_none) pa_nil)))))
        pss_nil)
      (pss_cons (ps_if (pt_truth (pe_bmK (K := K) rfl PySem.F.plainAttrs_str PySem.F.slot_str_startswith PySem.F.type_str_startswith mt_startswith (pv 2) (pa_cons (pv 1) pa_nil)) (by intro _; rfl))
        (pss_one (ps_ret (pe_tup (pa_cons (pe_c D_other_side hr (by decide) (by rfl) (pa_cons (pv 0) pa_nil)) (pa_cons (pe_slice sl_str (pv 2) (po_some (pe_callB call_len_str (by rfl) T.len (by decide +kernel) (pa_cons (pv 1) pa_nil))) po_none) pa_nil)))))
        pss_nil)
      (pss_one (ps_ret pe_non))))), ?_⟩
    unfold behind at q
    refine ⟨_, rfl, _, rfl, rfl, _, rfl, ?_⟩
    rw [Sx_eq]
    by_cases e : w = r
    · rw [if_pos e] at q
      rw [decide_eq_true e]
      exact iteT (q _ H (Same.refl H) ⟨aE, rfl, cn.en⟩)
    rw [if_neg e] at q
    rw [decide_eq_false e]
    refine iteF ?_
    refine ⟨_, rfl, rfl, _, rfl, _, _, rfl, rfl, _, rfl, ?_⟩
    rw [starts_Sx]
    cases e1 : w.isPrefixOf r with
    | true =>
      rw [if_pos e1] at q
      have lw : w.length ≤ r.length := (List.isPrefixOf_iff_prefix.mp e1).length_le
      refine iteT ⟨_, rfl, _, rfl, _, rfl, Sx w, rfl, by rw [Sx_len, sizeLine_eq]; omega, _, rfl, _, rfl, by rw [Sx_len, sizeLine_eq]; omega, by show 2 ≤ sizeLine; decide, fun b nb => ?_⟩
      rw [Sx_len, cut_Sx r w.length lw]
      exact q _ _ (same_put (s := Same.refl H) nb) ⟨b, rfl, SqT.of upd_same⟩
    | false =>
      rw [if_neg (by rw [e1]; decide)] at q
      refine iteF ?_
      refine ⟨_, rfl, rfl, _, rfl, _, _, rfl, rfl, _, rfl, ?_⟩
      rw [starts_Sx]
      cases e2 : r.isPrefixOf w with
      | true =>
        rw [if_pos e2] at q
        have lw : r.length ≤ w.length := (List.isPrefixOf_iff_prefix.mp e2).length_le
        refine iteT ⟨_, rfl, a, rfl, _, rfl, _, rfl, Sx r, rfl, by rw [Sx_len, sizeLine_eq]; omega, _, rfl, _, rfl, by rw [Sx_len, sizeLine_eq]; omega, by show 2 ≤ sizeLine; decide, fun b nb => ?_⟩
        rw [Sx_len, cut_Sx w r.length lw]
        exact q _ _ (same_put (s := Same.refl H) nb) ⟨b, rfl, SqT.of upd_same⟩
      | false =>
        rw [if_neg (by rw [e2]; decide)] at q
        exact iteF (q _ H (Same.refl H) rfl)
theorem ok_with_label {f : Addr} {fd : FuncData} (F : Fun K "with_label" "with_label" s_with_label f fd) (T : Tm mg aS aE aV) : FnOk P w K mg base CX0 1 f fd ["way", "taker", "label"] spLabel := by
  refine F.ok sc_with_label (fun vs H Q E h => ?_) (fun cdv A outer s H vs Q E hr h => ?_)
  · obtain ⟨b, y, t, l, rfl, _⟩ := h
    rfl
  · obtain ⟨b, y, t, l, rfl, hb, l1, l2, q⟩ := h
    refine ⟨_, (pss_cons (ps_asg (pv 0) (pg_tup (by rfl) (pgs_cons (pg_name (i := 3) sc_with_label.nd rfl (.inl rfl)) (pgs_cons (pg_name (i := 4) sc_with_label.nd rfl (.inl rfl)) pgs_nil))))
      (pss_one (ps_ret (pe_ifExp (pt_cmpR op_eq (pv 1) pe_str (nomark _)) (pe_tup (pa_cons (pe_op op_add_str (pv 3) (pv 2)) (pa_cons (pv 4) pa_nil))) (pe_tup (pa_cons (pv 3) (pa_cons (pe_op op_add_str (pv 4) (pv 2)) pa_nil))))))), ?_⟩
    refine ⟨_, rfl, b, _, rfl, .inl (.inl hb), rfl, _, _, rfl, _, _, rfl, rfl, ?_⟩
    refine ⟨_, rfl, rfl, _, rfl, ?_⟩
    have e1 : (L1 l) = Sx [l] := rfl
    cases t with
    | true =>
      rw [decide_eq_true (show V.str (sideS true) = V.str "one" from rfl)]
      refine iteT ⟨_, rfl, _, rfl, _, _, rfl, rfl, by rw [Sx_len, sizeLine_eq]; show _ + 1 ≤ _; omega, _, rfl, by show 2 ≤ sizeLine; decide, fun c nc => ?_⟩
      rw [e1, Sx_app]
      exact q _ _ (same_put (s := Same.refl H) nc) upd_same
    | false =>
      rw [decide_eq_false (show ¬ V.str (sideS false) = V.str "one" from fun e => nomatch side_inj (V.str.inj e : sideS false = sideS true))]
      refine iteF ⟨_, rfl, _, rfl, _, rfl, _, _, rfl, rfl, by rw [Sx_len, sizeLine_eq]; show _ + 1 ≤ _; omega, by show 2 ≤ sizeLine; decide, fun c nc => ?_⟩
      rw [e1, Sx_app]
      exact q _ _ (same_put (s := Same.refl H) nc) upd_same
theorem ok_lead_of {f : Addr} {fd : FuncData} (F : Fun K "lead_of" "lead_of" s_lead_of f fd) (T : Tm mg aS aE aV) : FnOk P w K mg base CX0 1 f fd ["way"] (spLead K) := by
  refine F.ok sc_lead_of (fun vs H Q E h => ?_) (fun cdv A outer s H vs Q E hr h => ?_)
  · obtain ⟨b, y, rfl, _⟩ := h
    rfl
  · obtain ⟨b, y, rfl, hb, l1, l2, q⟩ := h
    refine ⟨_, (pss_cons (ps_asg (pv 0) (pg_tup (by rfl) (pgs_cons (pg_name (i := 1) sc_lead_of.nd rfl (.inl rfl)) (pgs_cons (pg_name (i := 2) sc_lead_of.nd rfl (.inl rfl)) pgs_nil))))
      (pss_cons (ps_if (pt_truth (pe_bmK (K := K) rfl PySem.F.plainAttrs_str PySem.F.slot_str_startswith PySem.F.type_str_startswith mt_startswith (pv 1) (pa_cons (pv 2) pa_nil)) (by intro _; rfl))
        (pss_one (ps_ret (pe_tup (pa_cons pe_str (pa_cons (pe_slice sl_str (pv 1) (po_some (pe_callB call_len_str (by rfl) T.len (by decide +kernel) (pa_cons (pv 2) pa_nil))) po_none) pa_nil)))))
        pss_nil)
      (pss_cons (ps_if (pt_truth (pe_bmK (K := K) rfl PySem.F.plainAttrs_str PySem.F.slot_str_startswith PySem.F.type_str_startswith mt_startswith (pv 2) (pa_cons (pv 1) pa_nil)) (by intro _; rfl))
        (pss_one (ps_ret (pe_tup (pa_cons pe_str (pa_cons (pe_slice sl_str (pv 2) (po_some (pe_callB call_len_str (by rfl) T.len (by decide +kernel) (pa_cons (pv 1) pa_nil))) po_none) pa_nil)))))
        pss_nil)
      (pss_one (ps_ret pe_non))))), ?_⟩
    unfold lead at q
    refine ⟨_, rfl, b, _, rfl, .inl (.inl hb), rfl, _, _, rfl, _, _, rfl, rfl, ?_⟩
    refine ⟨_, rfl, rfl, _, rfl, _, _, rfl, rfl, _, rfl, ?_⟩
    rw [starts_Sx]
    cases e1 : y.2.isPrefixOf y.1 with
    | true =>
      rw [if_pos e1] at q
      have lw : y.2.length ≤ y.1.length := (List.isPrefixOf_iff_prefix.mp e1).length_le
      refine iteT ⟨_, rfl, _, rfl, Sx y.2, rfl, by rw [Sx_len, sizeLine_eq]; omega, _, rfl, _, rfl, by rw [Sx_len, sizeLine_eq]; omega, by show 2 ≤ sizeLine; decide, fun c nc => ?_⟩
      rw [Sx_len, cut_Sx _ _ lw]
      exact q _ _ (same_put (s := Same.refl H) nc) ⟨c, rfl, SqT.of upd_same⟩
    | false =>
      rw [if_neg (by rw [e1]; decide)] at q
      refine iteF ?_
      refine ⟨_, rfl, rfl, _, rfl, _, _, rfl, rfl, _, rfl, ?_⟩
      rw [starts_Sx]
      cases e2 : y.1.isPrefixOf y.2 with
      | true =>
        rw [if_pos e2] at q
        have lw : y.1.length ≤ y.2.length := (List.isPrefixOf_iff_prefix.mp e2).length_le
        refine iteT ⟨_, rfl, _, rfl, Sx y.1, rfl, by rw [Sx_len, sizeLine_eq]; omega, _, rfl, _, rfl, by rw [Sx_len, sizeLine_eq]; omega, by show 2 ≤ sizeLine; decide, fun c nc => ?_⟩
        rw [Sx_len, cut_Sx _ _ lw]
        exact q _ _ (same_put (s := Same.refl H) nc) ⟨c, rfl, SqT.of upd_same⟩
      | false =>
        rw [if_neg (by rw [e2]; decide)] at q
        exact iteF (q _ H (Same.refl H) rfl)
end
end V8
set_option Elab.async false
set_option linter.all false
set_option maxRecDepth 100000
set_option maxHeartbeats 8000000
set_option pp.maxSteps 900
/-! The steps from a place. -/
namespace V8
open PySem PySem.Spec PyProof.Rows L2 MZ
variable {K : PySem.W.Frag} {ω : World}
theorem via {t : TE} {σ : L2.St} {H : Hp} {R : VK} (A : V → Hp → Prop) (h1 : ∀ R' : VK, (∀ v H', A v H' → R' v H') → t σ H R') (h2 : ∀ v H', A v H' → R v H') : t σ H R := h1 R h2
def PlOk : Pl → Prop
  | .rest _ r => r.length ≤ 9 ∧ ∀ c ∈ r, isLt c
  | _ => True
def PrOk (P : List Pr) : Prop := P.length ≤ 30 ∧ ∀ q ∈ P, q.1.length ≤ 9 ∧ ∀ c ∈ q.1, isLt c
def MoT (K : PySem.W.Frag) (H : Hp) (v : V) (m : Mo) : Prop := ∃ c b, v = .ref c ∧ H c = some (.tup [.str (sideS m.1), .str (L1 m.2.1), .ref b]) ∧ SqT K H b (plV m.2.2)
def MoL (K : PySem.W.Frag) (H : Hp) (v : V) (ms : List Mo) : Prop := ∃ d xs, v = .ref d ∧ H d = some (.lst xs) ∧ Paired (MoT K H) xs ms
def PrT (H : Hp) (v : V) (q : Pr) : Prop := ∃ c, v = .ref c ∧ H c = some (.tup [.str (Sx q.1), .str (L1 q.2)])
def PrL (H : Hp) (a : Addr) (P : List Pr) : Prop := ∃ xs, H a = some (.lst xs) ∧ Paired (PrT H) xs P
theorem MoT.same {H H' : Hp} {v : V} {m : Mo} (h : MoT K H v m) (s : Same H H') : MoT K H' v m := by
  obtain ⟨c, b, e, h1, h2⟩ := h
  exact ⟨c, b, e, s _ _ h1, sq_same h2 s⟩
theorem PrT.same {H H' : Hp} {v : V} {q : Pr} (h : PrT H v q) (s : Same H H') : PrT H' v q := by
  obtain ⟨c, e, h1⟩ := h
  exact ⟨c, e, s _ _ h1⟩
theorem prd_imp {α β : Type} {R S : α → β → Prop} {xs : List α} {ys : List β} (h : Paired R xs ys) (i : ∀ x y, R x y → S x y) : Paired S xs ys := by
  induction h with
  | nil => exact .nil
  | cons r _ ih => exact .cons (i _ _ r) ih
theorem prd_at {α β : Type} {R : α → β → Prop} {xs : List α} {ys : List β} (h : Paired R xs ys) {i : Nat} {x : α} (e : xs[i]? = some x) : ∃ y, ys[i]? = some y ∧ R x y := by
  induction h generalizing i with
  | nil => simp at e
  | @cons a b l m r _ ih =>
    cases i with
    | zero =>
      rw [List.getElem?_cons_zero] at e ⊢
      exact ⟨b, rfl, Option.some.inj e ▸ r⟩
    | succ j =>
      rw [List.getElem?_cons_succ] at e ⊢
      exact ih e
theorem prd_len {α β : Type} {R : α → β → Prop} {xs : List α} {ys : List β} (h : Paired R xs ys) : xs.length = ys.length := Paired.length h
theorem PrL.same {H H' : Hp} {a : Addr} {P : List Pr} (h : PrL H a P) (s : Same H H') : PrL H' a P := by
  obtain ⟨xs, h1, h2⟩ := h
  exact ⟨xs, s _ _ h1, prd_imp h2 fun _ _ r => r.same s⟩
theorem shaped_of {d : PyData} (h : d.canLay0 = true) (h2 : d.depth ≤ 64) : SeqAt.shaped d = true := by
  show (d.canLay0 && decide (d.depth ≤ 64)) = true
  rw [h, decide_eq_true h2]
  rfl
theorem MoT.put {H : Hp} {v : V} {m : Mo} {D : Addr} {ys : List V} {o : HO} (h : MoT K H v m) (hD : H D = some (.lst ys)) : MoT K (upd H D o) v m := by
  obtain ⟨c, b, e, h1, h2⟩ := h
  exact ⟨c, b, e, by rw [upd_ne (ne_of h1 hD (fun z => nomatch z))]; exact h1, sq_lst h2 hD⟩
/-- tried: who takes, the label, and where to, or None -/
def TrT (K : PySem.W.Frag) (a : Bool) (r : Wd) (H : Hp) (v : V) (q : Pr) : Prop := ∃ c z, v = .ref c ∧ H c = some (.tup [.str (sideS (!a)), .str (L1 q.2), z]) ∧ PlO K H z (behind a r q.1)
theorem PlO.same {H H' : Hp} {v : V} {o : Option Pl} (h : PlO K H v o) (s : Same H H') : PlO K H' v o := by
  cases o with
  | none => exact h
  | some p =>
    obtain ⟨b, e, h1⟩ := h
    exact ⟨b, e, sq_same h1 s⟩
theorem PlO.put {H : Hp} {v : V} {q : Option Pl} {D : Addr} {ys : List V} {o : HO} (h : PlO K H v q) (hD : H D = some (.lst ys)) : PlO K (upd H D o) v q := by
  cases q with
  | none => exact h
  | some p =>
    obtain ⟨b, e, h1⟩ := h
    exact ⟨b, e, sq_lst h1 hD⟩
theorem TrT.same {a : Bool} {r : Wd} {H H' : Hp} {v : V} {q : Pr} (h : TrT K a r H v q) (s : Same H H') : TrT K a r H' v q := by
  obtain ⟨c, z, e, h1, h2⟩ := h
  exact ⟨c, z, e, s _ _ h1, h2.same s⟩
theorem TrT.put {a : Bool} {r : Wd} {H : Hp} {v : V} {q : Pr} {D : Addr} {ys : List V} {o : HO} (h : TrT K a r H v q) (hD : H D = some (.lst ys)) : TrT K a r (upd H D o) v q := by
  obtain ⟨c, z, e, h1, h2⟩ := h
  exact ⟨c, z, e, by rw [upd_ne (ne_of h1 hD (fun z => nomatch z))]; exact h1, h2.put hD⟩
def plD (p : Pl) : PyData := .tuple [.str (plS p).1, .str (plS p).2]
theorem pl_shaped {p : Pl} (h : PlOk p) : SeqAt.shaped (plD p) = true := by
  have ok : PyData.strOk (plS p).1 = true ∧ PyData.strOk (plS p).2 = true := by
    cases p with
    | start => exact ⟨by decide +kernel, by decide +kernel⟩
    | fin => exact ⟨by decide +kernel, by decide +kernel⟩
    | rest a r =>
      refine ⟨?_, ok_sx h.2⟩
      cases a with
      | true => exact (show PyData.strOk (sideS true) = true by decide +kernel)
      | false => exact (show PyData.strOk (sideS false) = true by decide +kernel)
  refine shaped_of (by simp only [plD, PyData.canLay0, PyData.canLayAll0, ok.1, ok.2]; rfl) ?_
  simp [plD, PyData.depth, PyData.depthAll]
theorem pl_eqv (p q : Pl) : PyData.eqv (plD p) (plD q) = decide (p = q) := by
  show (PyData.eqv (.str (plS p).1) (.str (plS q).1) && (PyData.eqv (.str (plS p).2) (.str (plS q).2) && true)) = _
  show (decide ((plS p).1 = (plS q).1) && (decide ((plS p).2 = (plS q).2) && true)) = _
  rw [Bool.and_true, Bool.eq_iff_iff, Bool.and_eq_true, decide_eq_true_iff, decide_eq_true_iff, decide_eq_true_iff]
  exact ⟨fun h => plS_inj (Prod.ext h.1 h.2), fun h => by rw [h]; exact ⟨rfl, rfl⟩⟩
theorem pl_dp {K : PySem.W.Frag} {H : Hp} {b : Addr} {p : Pl} (h : SqT K H b (plV p)) : Dp K H (.ref b) (plD p) := .tup h (.cons (.str _) (.cons (.str _) .nil))
def spMoves (K : PySem.W.Frag) (aS aE aV : Addr) : Sp := fun vs H Q _ => ∃ (f1 f2 b : Addr) (P S : List Pr) (p : Pl), vs = [.ref f1, .ref f2, .ref b] ∧ PrL H f1 P ∧ PrL H f2 S ∧ SqT K H b (plV p) ∧ CnH K aS aE aV H ∧ PlOk p ∧ PrOk P ∧ PrOk S ∧
  ∀ v H', Same H H' → MoL K H' v (moves P S p) → (∃ d, v = .ref d ∧ H d = none) → Q v H'
section
variable {P : Program} {w : World} {K : PySem.W.Frag} {mg : Str → Option Value} {base : Heap} {aS aE aV : Addr}
theorem ok_moves {f : Addr} {fd : FuncData} (F : Fun K "moves_from" "moves_from" s_moves_from f fd) (T : Tm mg aS aE aV) (D_other_side : Df P w K mg base 1 "other_side" spOther) (D_place_behind : Df P w K mg base 2 "place_behind" (spBehind K aS aE aV)) : FnOk P w K mg base CX0 3 f fd ["first", "second", "place"] (spMoves K aS aE aV) := by
  refine F.ok sc_moves_from (fun vs H Q E h => ?_) (fun cdv A outer s H vs Q E hr h => ?_)
  · obtain ⟨f1, f2, b, P, S, p, rfl, _⟩ := h
    rfl
  · obtain ⟨f1, f2, b, P1, S1, p, rfl, hP, hS, hb, cn, po, okP, okS, q⟩ := h
    refine ⟨_, (pss_cons (ps_if (pt_cmpR (op_eqDK (K := K) rfl hr.units) (pv 2) (pe_gv T.gEND (by rfl)) (nomark _))
        (pss_one (ps_ret (pe_lst pa_nil)))
        pss_nil)
      (pss_cons (ps_if (pt_cmpR (op_eqDK (K := K) rfl hr.units) (pv 2) (pe_gv T.gSTART (by rfl)) (nomark _))
        (pss_one (ps_ret (pe_lc (own := [("word", 8), ("label", 9)]) (g := gTup K 2 (gCons (gName 8) (gCons (gName 9) gNil))) (by rfl) sc_moves_from.nd (pi_list (pv 0)) (blkOk_by (own := [("word", 8), ("label", 9)]) (N := n_moves_from) (sc := defScope s_moves_from) (by decide +kernel)) (fun _ _ _ _ _ => (pg_tup (by rfl) (pgs_cons (pg_name (i := 8) sc_moves_from.nd rfl (.inl rfl)) (pgs_cons (pg_name (i := 9) sc_moves_from.nd rfl (.inl rfl)) pgs_nil)))) (fun _ _ _ _ _ => pts_nil) (fun _ _ _ _ _ => (pe_tup (pa_cons pe_str (pa_cons (pv 9) (pa_cons (pe_tup (pa_cons pe_str (pa_cons (pv 8) pa_nil))) pa_nil))))))))
        pss_nil)
      (pss_cons (ps_asg (pv 2) (pg_tup (by rfl) (pgs_cons (pg_name (i := 3) sc_moves_from.nd rfl (.inr rfl)) (pgs_cons (pg_name (i := 4) sc_moves_from.nd rfl (.inr rfl)) pgs_nil))))
      (pss_cons (ps_set (i := 5) sc_moves_from.nd rfl (.inr rfl) (pe_c D_other_side hr (by decide) (by rfl) (pa_cons (pv 3) pa_nil)))
      (pss_cons (ps_set (i := 6) sc_moves_from.nd rfl (.inl rfl) (pe_ifExp (pt_cmpR op_eq (pv 5) pe_str (nomark _)) (pv 0) (pv 1)))
      (pss_cons (ps_setLc (i := 7) (own := [("word", 8), ("label", 9)]) (g := gTup K 2 (gCons (gName 8) (gCons (gName 9) gNil))) (by rfl) sc_moves_from.nd rfl rfl (sw_true rfl rfl rfl (by decide +kernel)) (pi_list (pv 6)) (blkOk_by (own := [("word", 8), ("label", 9)]) (N := n_moves_from) (sc := defScope s_moves_from) (by decide +kernel)) (fun _ _ _ _ _ => (pg_tup (by rfl) (pgs_cons (pg_name (i := 8) sc_moves_from.nd rfl (.inl rfl)) (pgs_cons (pg_name (i := 9) sc_moves_from.nd rfl (.inl rfl)) pgs_nil)))) (fun _ _ _ _ _ => pts_nil) (fun _ _ _ _ _ => (pe_tup (pa_cons (pv 5) (pa_cons (pv 9) (pa_cons (pe_c D_place_behind hr (by decide) (by rfl) (pa_cons (pv 3) (pa_cons (pv 4) (pa_cons (pv 8) pa_nil)))) pa_nil))))))
      (pss_one (ps_ret (pe_lc (own := [("move", 10)]) (g := gName 10) (by rfl) sc_moves_from.nd (pi_list (pv 7)) (blkOk_by (own := [("move", 10)]) (N := n_moves_from) (sc := defScope s_moves_from) (by decide +kernel)) (fun _ _ _ _ _ => (pg_name (i := 10) sc_moves_from.nd rfl (.inl rfl))) (fun _ _ _ _ _ => (pts_one (pt_cmpR op_notN (pe_ix (ix_tupK (K := K) rfl) (pv 10) pe_int (fun _ _ => rfl)) pe_non (nomark _)))) (fun _ _ _ _ _ => (pv 10))))))))))), ?_⟩
    refine ⟨_, rfl, plD p, plD .fin, pl_dp hb, pl_dp cn.en, pl_shaped po, pl_shaped True.intro, _, rfl, ?_⟩
    rw [pl_eqv]
    by_cases e : p = .fin
    · subst e
      rw [decide_eq_true rfl]
      refine iteT ⟨Nat.zero_le _, fun d nd => ?_⟩
      exact q _ _ (same_put (s := Same.refl H) nd) ⟨d, [], rfl, upd_same, .nil⟩ ⟨d, rfl, nd⟩
    rw [decide_eq_false e]
    refine iteF ?_
    refine ⟨_, rfl, plD p, plD .start, pl_dp hb, pl_dp cn.st, pl_shaped po, pl_shaped True.intro, _, rfl, ?_⟩
    rw [pl_eqv]
    by_cases e2 : p = .start
    · subst e2
      rw [decide_eq_true rfl]
      obtain ⟨xs, hxs, prs⟩ := hP
      have lx := prd_len prs
      have l30 := okP.1
      refine iteT ⟨_, rfl, f1, rfl, ⟨_, SqL.of hxs⟩, fun D nD => lc_it (walk_list (K := K) (a := f1) (xs := xs)) (fun i H2 => ∃ ys, Paired (MoT K H2) ys ((moves P1 S1 .start).take i) ∧ H2 D = some (.lst ys) ∧ Same H H2) ?_ ?_ ?_ ?_⟩
      · exact ⟨[], .nil, upd_same, same_put (s := Same.refl H) nD⟩
      · rintro i H2 hi ⟨ys, _, _, s2⟩
        exact SqL.of (s2 _ _ hxs)
      · rintro i y H20 H2 hi ⟨ys, pr, hD, s2⟩ ⟨rfl, hy⟩
        obtain ⟨q0, hq0, c, rfl, hc⟩ := prd_at prs hy
        have ly := prd_len pr
        rw [List.length_take] at ly
        refine ⟨c, _, rfl, .inl (.inl (s2 _ _ hc)), rfl, _, _, rfl, _, _, rfl, rfl, ?_⟩
        refine ⟨rfl, _, rfl, _, rfl, by show 2 ≤ sizeLine; decide, fun b2 nb2 => ⟨by show 3 ≤ sizeLine; decide, fun c2 nc2 => ?_⟩⟩
        have sa := same_put (s := Same.refl H2) (o := .tup [.str "one", .str (Sx q0.1)]) nb2
        have hb2 : upd H2 b2 (.tup [.str "one", .str (Sx q0.1)]) b2 = some (.tup (plV (.rest true q0.1))) := upd_same
        have sb := same_put (s := Same.refl _) (o := .tup [.str "one", .str (L1 q0.2), .ref b2]) nc2
        have hb3 := sb _ _ hb2
        have hc2 : upd (upd H2 b2 (.tup [.str "one", .str (Sx q0.1)])) c2 (.tup [.str "one", .str (L1 q0.2), .ref b2]) c2 = some (.tup [.str (sideS true), .str (L1 q0.2), .ref b2]) := upd_same
        have hD2 := sb _ _ (sa _ _ hD)
        have mt : MoT K (upd (upd H2 b2 (.tup [.str "one", .str (Sx q0.1)])) c2 (.tup [.str "one", .str (L1 q0.2), .ref b2])) (.ref c2) (true, q0.2, .rest true q0.1) := ⟨c2, b2, rfl, hc2, SqT.of hb3⟩
        have s3 : Same H2 (upd (upd H2 b2 (.tup [.str "one", .str (Sx q0.1)])) c2 (.tup [.str "one", .str (L1 q0.2), .ref b2])) := fun b o e => sb _ _ (sa _ _ e)
        generalize upd (upd H2 b2 (.tup [.str "one", .str (Sx q0.1)])) c2 (.tup [.str "one", .str (L1 q0.2), .ref b2]) = H3 at hD2 mt s3 ⊢
        refine ⟨_, hD2, by rw [sizeLine_eq]; omega, ys ++ [.ref c2], ?_, upd_same, ?_⟩
        · have et : (moves P1 S1 .start).take (i + 1) = (moves P1 S1 .start).take i ++ [(true, q0.2, .rest true q0.1)] := by
            rw [List.take_add_one]
            show _ ++ ((P1.map _)[i]?).toList = _
            rw [List.getElem?_map, hq0]
            rfl
          rw [et]
          exact (prd_imp pr fun _ _ z => (z.same s3).put hD2).snoc (mt.put hD2)
        · intro b o e
          rw [upd_ne (ne_of_none e nD)]
          exact s3 _ _ (s2 _ _ e)
      rintro H2 ⟨ys, pr, hD, s2⟩
      rw [List.take_of_length_le (by show (P1.map _).length ≤ _; rw [List.length_map, lx]; exact Nat.le_refl _)] at pr
      exact q _ _ s2 ⟨D, ys, rfl, hD, pr⟩ ⟨D, rfl, nD⟩
    rw [decide_eq_false e2]
    refine iteF ?_
    obtain ⟨a, r, rfl⟩ : ∃ a r, p = .rest a r := by
      cases p with
      | start => exact absurd rfl e2
      | fin => exact absurd rfl e
      | rest a r => exact ⟨a, r, rfl⟩
    obtain ⟨r9, _⟩ := po
    refine ⟨_, rfl, b, _, rfl, hb, rfl, _, _, rfl, _, _, rfl, rfl, ?_⟩
    refine ⟨_, rfl, a, rfl, ?_⟩
    -- whose pairs
    refine via (t := tIf (tTest (tOp rEq (tVar 5) (tC (V.str "one")))) (tVar 0) (tVar 1)) (fun v H2 => ∃ f xs, v = .ref f ∧ H = H2 ∧ H f = some (.lst xs) ∧ Paired (PrT H) xs (if a = true then S1 else P1)) (fun R hR => ?_) (fun v H2 z => ?_)
    · refine ⟨_, rfl, rfl, _, rfl, ?_⟩
      cases a with
      | true =>
        rw [decide_eq_false (show ¬ V.str (sideS (!true)) = V.str "one" from fun e => nomatch side_inj (V.str.inj e : sideS false = sideS true))]
        obtain ⟨xs, h1, h2⟩ := hS
        exact iteF ⟨_, rfl, hR _ _ ⟨f2, xs, rfl, rfl, h1, h2⟩⟩
      | false =>
        rw [decide_eq_true (show V.str (sideS (!false)) = V.str "one" from rfl)]
        obtain ⟨xs, h1, h2⟩ := hP
        exact iteT ⟨_, rfl, hR _ _ ⟨f1, xs, rfl, rfl, h1, h2⟩⟩
    obtain ⟨f0, xs, rfl, rfl, hxs, prs⟩ := z
    have okQ : PrOk (if a = true then S1 else P1) := by
      cases a with
      | true => exact okS
      | false => exact okP
    have em : moves P1 S1 (.rest a r) = (if a = true then S1 else P1).filterMap fun q => (behind a r q.1).map fun t => (!a, q.2, t) := rfl
    rw [em] at q
    generalize (if a = true then S1 else P1) = Q1 at prs okQ q
    have lx := prd_len prs
    have l30 := okQ.1
    refine ⟨_, rfl, f0, rfl, ⟨_, SqL.of hxs⟩, fun D nD => lc_it (walk_list (K := K) (a := f0) (xs := xs)) (fun i H2 => ∃ ys, Paired (TrT K a r H2) ys (Q1.take i) ∧ H2 D = some (.lst ys) ∧ Same H H2) ?_ ?_ ?_ ?_⟩
    · exact ⟨[], .nil, upd_same, same_put (s := Same.refl H) nD⟩
    · rintro i H2 hi ⟨ys, _, _, s2⟩
      exact SqL.of (s2 _ _ hxs)
    · rintro i y H20 H2 hi ⟨ys, pr, hD, s2⟩ ⟨rfl, hy⟩
      obtain ⟨q0, hq0, c, rfl, hc⟩ := prd_at prs hy
      have ly := prd_len pr
      rw [List.length_take] at ly
      have hq1 : q0 ∈ Q1 := List.mem_of_getElem? hq0
      refine ⟨c, _, rfl, .inl (.inl (s2 _ _ hc)), rfl, _, _, rfl, _, _, rfl, rfl, ?_⟩
      refine ⟨rfl, _, rfl, _, rfl, _, rfl, _, rfl, _, rfl, a, r, q0.1, rfl, cn.same s2, r9, (okQ.2 q0 hq1).1, fun z H3 s3 hz => ⟨by show 3 ≤ sizeLine; decide, fun c2 nc2 => ?_⟩⟩
      have sb := same_put (s := Same.refl H3) (o := .tup [.str (sideS (!a)), .str (L1 q0.2), z]) nc2
      have hc2 : upd H3 c2 (.tup [.str (sideS (!a)), .str (L1 q0.2), z]) c2 = some (.tup [.str (sideS (!a)), .str (L1 q0.2), z]) := upd_same
      have s4 : Same H2 (upd H3 c2 (.tup [.str (sideS (!a)), .str (L1 q0.2), z])) := fun b o e => sb _ _ (s3 _ _ e)
      have hD2 := s4 _ _ hD
      have mt : TrT K a r (upd H3 c2 (.tup [.str (sideS (!a)), .str (L1 q0.2), z])) (.ref c2) q0 := ⟨c2, z, rfl, hc2, hz.same sb⟩
      generalize upd H3 c2 (.tup [.str (sideS (!a)), .str (L1 q0.2), z]) = H4 at hD2 mt s4 ⊢
      refine ⟨_, hD2, by rw [sizeLine_eq]; omega, ys ++ [.ref c2], ?_, upd_same, ?_⟩
      · rw [List.take_add_one, hq0]
        exact (prd_imp pr fun _ _ z => (z.same s4).put hD2).snoc (mt.put hD2)
      · intro b o e
        rw [upd_ne (ne_of_none e nD)]
        exact s4 _ _ (s2 _ _ e)
    rintro H2 ⟨ys, pr, hD, s2⟩
    rw [List.take_of_length_le (by rw [lx]; exact Nat.le_refl _)] at pr
    have ly := prd_len pr
    -- those that are none left out
    refine ⟨_, rfl, D, rfl, ⟨_, SqL.of hD⟩, fun D3 nD3 => lc_it (walk_list (K := K) (a := D) (xs := ys)) (fun i H3 => ∃ zs, Paired (MoT K H3) zs ((Q1.take i).filterMap fun q => (behind a r q.1).map fun t => (!a, q.2, t)) ∧ H3 D3 = some (.lst zs) ∧ Same H2 H3) ?_ ?_ ?_ ?_⟩
    · exact ⟨[], .nil, upd_same, same_put (s := Same.refl H2) nD3⟩
    · rintro i H3 hi ⟨zs, _, _, s3⟩
      exact SqL.of (s3 _ _ hD)
    · rintro i y H30 H3 hi ⟨zs, prz, hD3, s3⟩ ⟨rfl, hy⟩
      obtain ⟨q0, hq0, c, z, rfl, hc, hz⟩ := prd_at pr hy
      have lz := prd_len prz
      have lz2 : ((Q1.take i).filterMap fun q => (behind a r q.1).map fun t => ((!a, q.2, t) : Mo)).length ≤ 30 := Nat.le_trans (List.length_filterMap_le _ _) (by rw [List.length_take]; omega)
      have ef : (Q1.take (i + 1)).filterMap (fun q => (behind a r q.1).map fun t => ((!a, q.2, t) : Mo)) = ((Q1.take i).filterMap fun q => (behind a r q.1).map fun t => (!a, q.2, t)) ++ ((behind a r q0.1).map fun t => (!a, q0.2, t)).toList := by
        rw [List.take_add_one, hq0, List.filterMap_append]
        congr 1
      refine ⟨rfl, _, rfl, c, _, _, _, rfl, rfl, .inl (.inl (s3 _ _ hc)), atI_nat (j := 2) rfl, ?_⟩
      have hz3 := hz.same s3
      rw [ef]
      cases eb : behind a r q0.1 with
      | none =>
        rw [eb] at hz
        have hz : z = .non := hz
        subst hz
        refine ⟨rfl, false, rfl, iteF ?_⟩
        show ∃ zs, Paired (MoT K H3) zs (_ ++ []) ∧ _
        rw [List.append_nil]
        exact ⟨zs, prz, hD3, s3⟩
      | some t =>
        rw [eb] at hz3
        obtain ⟨b3, rfl, hb3⟩ := hz3
        refine ⟨rfl, true, rfl, iteT ⟨_, rfl, _, hD3, by rw [sizeLine_eq]; omega, zs ++ [.ref c], ?_, upd_same, ?_⟩⟩
        · exact (prd_imp prz fun _ _ z => z.put hD3).snoc (MoT.put ⟨c, b3, rfl, s3 _ _ hc, hb3⟩ hD3)
        · intro b o e
          rw [upd_ne (ne_of_none e nD3)]
          exact s3 _ _ e
    rintro H3 ⟨zs, prz, hD3, s3⟩
    rw [List.take_of_length_le (by omega)] at prz
    exact q _ _ (fun b o e => s3 _ _ (s2 _ _ e)) ⟨D3, zs, rfl, hD3, prz⟩ ⟨D3, rfl, same_none s2 nD3⟩
end
end V8
set_option Elab.async false
set_option linter.all false
set_option maxRecDepth 100000
set_option maxHeartbeats 8000000
set_option pp.maxSteps 900
/-! All places that can be reached, with the steps from each. -/
namespace V8
open PySem PySem.Spec PyProof.Rows L2 MZ
variable {K : PySem.W.Frag} {ω : World}
abbrev s_all_moves : Stmt := topS 47
theorem sc_all_moves : FnScope ["first", "second", "moves", "met", "queue", "place", "found", "_", "target"] ["first", "second"] (defScope s_all_moves) := ⟨rfl, rfl, rfl, by decide +kernel, rfl, by decide +kernel, by decide +kernel⟩
def PlT (K : PySem.W.Frag) (H : Hp) (b : Addr) (p : Pl) : Prop := SqT K H b (plV p)
/-- a dict with places as keys -/
def keysP (kvs : List (List Key × V)) (Q : List Pl) : Prop := kvs.map (·.1) = Q.map plK
/-- the steps of places, as values of a dict -/
def MvD (K : PySem.W.Frag) (P S : List Pr) (H : Hp) (kv : List Key × V) (p : Pl) : Prop := kv.1 = plK p ∧ MoL K H kv.2 (moves P S p)
/-- a dict of all places with their steps -/
def AllM (K : PySem.W.Frag) (ω : World) (P S : List Pr) (Q : List Pl) (H : Hp) (d : Addr) : Prop := ∃ as kvs, H d = some (DX ω d as kvs) ∧ KyA K H as kvs ∧ Paired (MvD K P S H) kvs Q
theorem MoL.same {H H' : Hp} {v : V} {ms : List Mo} (h : MoL K H v ms) (s : Same H H') : MoL K H' v ms := by
  obtain ⟨d, xs, e, h1, h2⟩ := h
  exact ⟨d, xs, e, s _ _ h1, prd_imp h2 fun _ _ r => r.same s⟩
theorem keysP_is {kvs : List (List Key × V)} {Q : List Pl} (h : keysP kvs Q) (p : Pl) : (valV kvs (plK p)).isSome = decide (p ∈ Q) := by
  rw [← valV_any, Bool.eq_iff_iff, List.any_eq_true, decide_eq_true_iff]
  constructor
  · rintro ⟨kv, hkv, e⟩
    have e := of_decide_eq_true e
    have m : plK p ∈ Q.map plK := by
      rw [← h, ← e]
      exact List.mem_map_of_mem hkv
    obtain ⟨q, hq, e2⟩ := List.mem_map.mp m
    exact plK_inj e2 ▸ hq
  · intro hp
    have m : plK p ∈ kvs.map (·.1) := by
      rw [h]
      exact List.mem_map_of_mem hp
    obtain ⟨kv, hkv, e⟩ := List.mem_map.mp m
    exact ⟨kv, hkv, decide_eq_true e⟩
theorem keysP_none {kvs : List (List Key × V)} {Q : List Pl} {p : Pl} (h : keysP kvs Q) (n : p ∉ Q) : valV kvs (plK p) = none := by
  have := keysP_is h p
  rw [decide_eq_false n] at this
  cases e : valV kvs (plK p) with
  | none => rfl
  | some v =>
    rw [e] at this
    cases this
theorem DGetY.t {H : Hp} {a b : Addr} {as : List Addr} {kvs : List (List Key × V)} {k : List Key} (e : H a = some (DX ω a as kvs)) (ky : KyA K H as kvs) (eb : SqT K H b (k.map kV)) : DGetY ω K H a (.ref b) (valV kvs k) := ⟨as, kvs, k, b, .inl e, ky, rfl, eb, rfl⟩
theorem DPutY.t {H : Hp} {a b : Addr} {as : List Addr} {kvs : List (List Key × V)} {k : List Key} {v : V} (e : H a = some (DX ω a as kvs)) (ky : KyA K H as kvs) (eb : SqT K H b (k.map kV)) (n : valV kvs k = none) (hl : kvs.length < sizeLine) :
    DPutY ω K H a (.ref b) v (upd H a (DX ω a (as ++ [b]) (kvs ++ [(k, v)]))) := ⟨as, kvs, k, b, e, ky, rfl, eb, n, hl, rfl⟩
theorem ky_same {H H' : Hp} {as : List Addr} {kvs : List (List Key × V)} (h : KyA K H as kvs) (s : Same H H') : KyA K H' as kvs := prd_imp h fun _ _ z => sq_same z s
theorem keysP_snoc {kvs : List (List Key × V)} {Q : List Pl} {p : Pl} {v : V} (h : keysP kvs Q) : keysP (kvs ++ [(plK p, v)]) (Q ++ [p]) := by
  unfold keysP at h ⊢
  rw [List.map_append, List.map_append, h]
  rfl
theorem keysP_len {kvs : List (List Key × V)} {Q : List Pl} (h : keysP kvs Q) : kvs.length = Q.length := by
  have := congrArg List.length h
  rw [List.length_map, List.length_map] at this
  exact this
/-- places that are reached are short -/
theorem reach_ok {P S : List Pr} (hP : ∀ q ∈ P, q.1 ≠ []) (oP : PrOk P) (oS : PrOk S) {p : Pl} {w : List Nat × List Nat} (h : Way P S .start p w) : PlOk p := by
  have z := (reach_uni hP h).2
  have tail : ∀ {R : List Pr} {r : Wd}, PrOk R → (∃ q ∈ R, ∃ a, q.1 = a ++ r) → r.length ≤ 9 ∧ ∀ c ∈ r, isLt c := fun {R r} o ⟨q, hq, a, e⟩ => by
    obtain ⟨h1, h2⟩ := o.2 q hq
    rw [e, List.length_append] at h1
    exact ⟨by omega, fun c hc => h2 c (by rw [e]; exact List.mem_append_right _ hc)⟩
  cases p with
  | start => trivial
  | fin => trivial
  | rest a r =>
    cases a with
    | true => exact tail oP z.2
    | false => exact tail oS z.2
theorem sum_ok {P : List Pr} (o : PrOk P) : sumL P ≤ 270 := by
  have : ∀ R : List Pr, (∀ q ∈ R, q.1.length ≤ 9) → sumL R ≤ 9 * R.length := by
    intro R
    induction R with
    | nil => intro _; exact Nat.le_refl _
    | cons q R ih =>
      intro h
      have h1 := h q List.mem_cons_self
      have h2 := ih fun x hx => h x (List.mem_cons_of_mem _ hx)
      show q.1.length + sumL R ≤ 9 * (R.length + 1)
      omega
  have h := this P fun q hq => (o.2 q hq).1
  have := o.1
  omega
theorem addTo_snoc (Q : List Pl) (f : List Mo) (m : Mo) : addTo Q (f ++ [m]) = if m.2.2 ∈ addTo Q f then addTo Q f else addTo Q f ++ [m.2.2] := by
  unfold addTo
  rw [List.foldl_append]
  rfl
/-- the search for places, step by step -/
def stepQ (P S : List Pr) (Q : List Pl) (n : Nat) : List Pl := match Q[n]? with
  | none => Q
  | some p => addTo Q (moves P S p)
def runQ (P S : List Pr) : Nat → List Pl
  | 0 => [.start]
  | n + 1 => stepQ P S (runQ P S n) n
theorem runQ_stay {P S : List Pr} {n : Nat} (h : n = (runQ P S n).length) : ∀ k, runQ P S (n + k) = runQ P S n
  | 0 => rfl
  | k + 1 => by
    show stepQ P S (runQ P S (n + k)) (n + k) = _
    rw [runQ_stay h k]
    unfold stepQ
    rw [List.getElem?_eq_none (by omega)]
/-- all places, in the order in which they are met -/
def placesQ (P S : List Pr) : List Pl := runQ P S 600
/-- what the search keeps: the places met, those gone through with their steps -/
structure Srch (K : PySem.W.Frag) (ω : World) (P S : List Pr) (mv mt qu : Addr) (H0 : Hp) (Q : List Pl) (n : Nat) (H : Hp) : Prop where
  b : Bfs P S .start Q n
  run : runQ P S n = Q
  mv_ : ∃ vs ks, H mv = some (DX ω mv vs ks) ∧ KyA K H vs ks ∧ Paired (fun kv p => MvD K P S H kv p ∧ kv.2 ≠ .ref qu) ks (Q.take n)
  mt_ : ∃ ts ms, H mt = some (DX ω mt ts ms) ∧ KyA K H ts ms ∧ keysP ms Q
  qu_ : ∃ as, H qu = some (.lst (as.map V.ref)) ∧ Paired (PlT K H) as Q
  sm : Same H0 H
theorem MvD.up {P S : List Pr} {H H' : Hp} {kv : List Key × V} {p : Pl} (h : MvD K P S H kv p) (s : Same H H') : MvD K P S H' kv p := ⟨h.1, h.2.same s⟩
/-- all but two things stays -/
def But2 (a b : Addr) (H H' : Hp) : Prop := ∀ c u, H c = some u → c ≠ a → c ≠ b → H' c = some u
theorem But2.sq {a b c : Addr} {H H' : Hp} {xs ms : List V} {ts : List Addr} {ks : List (List Key × V)} (h : But2 a b H H') (e : SqT K H c xs) (ha : H a = some (DX ω a ts ks)) (hb : H b = some (.lst ms)) : SqT K H' c xs := sq_mono e fun o eo z => by
  refine h c o eo (fun q => ?_) (fun q => ?_)
  · rw [q, ha] at eo
    cases eo
    rcases z with z | ⟨_, z⟩ <;> cases z
  · rw [q, hb] at eo
    cases eo
    rcases z with z | ⟨_, z⟩ <;> cases z
theorem But2.tup {a b c : Addr} {H H' : Hp} {xs ms : List V} {ts : List Addr} {ks : List (List Key × V)} (h : But2 a b H H') (e : H c = some (.tup xs)) (ha : H a = some (DX ω a ts ks)) (hb : H b = some (.lst ms)) : H' c = some (.tup xs) :=
  h c _ e (ne_of e ha (fun z => nomatch z)) (ne_of e hb (fun z => nomatch z))
theorem MoT.but {a b : Addr} {H H' : Hp} {v : V} {m : Mo} {ms : List V} {ts : List Addr} {ks : List (List Key × V)} (t : MoT K H v m) (h : But2 a b H H') (ha : H a = some (DX ω a ts ks)) (hb : H b = some (.lst ms)) : MoT K H' v m := by
  obtain ⟨c, d, e, h1, h2⟩ := t
  exact ⟨c, d, e, h.tup h1 ha hb, h.sq h2 ha hb⟩
theorem MoL.but {a b : Addr} {H H' : Hp} {v : V} {l : List Mo} {ms : List V} {ts : List Addr} {ks : List (List Key × V)} (t : MoL K H v l) (n : v ≠ .ref b) (h : But2 a b H H') (ha : H a = some (DX ω a ts ks)) (hb : H b = some (.lst ms)) : MoL K H' v l := by
  obtain ⟨d, xs, rfl, h1, h2⟩ := t
  exact ⟨d, xs, rfl, h d _ h1 (ne_of h1 ha (fun z => nomatch z)) (fun z => n (by rw [z])), prd_imp h2 fun _ _ r => r.but h ha hb⟩
def spAll (K : PySem.W.Frag) (ω : World) (aS aE aV : Addr) : Sp := fun vs H Q _ => ∃ (f1 f2 : Addr) (P S : List Pr), vs = [.ref f1, .ref f2] ∧ PrL H f1 P ∧ PrL H f2 S ∧ CnH K aS aE aV H ∧ PrOk P ∧ PrOk S ∧ (∀ q ∈ P, q.1 ≠ []) ∧
  ∀ (d : Addr) (Qs : List Pl) (H' : Hp), Same H H' → H d = none → Bfs P S .start Qs Qs.length → Qs = placesQ P S → AllM K ω P S Qs H' d → Q (.ref d) H'
section
variable {P : Program} {w : World} {K : PySem.W.Frag} {mg : Str → Option Value} {base : Heap} {aS aE aV : Addr}
theorem ok_all_moves {f : Addr} {fd : FuncData} (F : Fun K "all_moves" "all_moves" s_all_moves f fd) (T : Tm mg aS aE aV) (D_moves_from : Df P w K mg base 3 "moves_from" (spMoves K aS aE aV)) : FnOk P w K mg base CX0 4 f fd ["first", "second"] (spAll K w aS aE aV) := by
  refine F.ok sc_all_moves (fun vs H Q E h => ?_) (fun cdv A outer s H vs Q E hr h => ?_)
  · obtain ⟨f1, f2, P, S, rfl, _⟩ := h
    rfl
  · obtain ⟨f1, f2, P1, S1, rfl, hP, hS, cn, okP, okS, nP, q⟩ := h
    refine ⟨_, (pss_cons (ps_set (i := 2) sc_all_moves.nd rfl (.inl rfl) (pe_dnewY (w := w) rfl))
      (pss_cons (ps_set (i := 3) sc_all_moves.nd rfl (.inl rfl) (pe_dispY (w := w) (K := K) rfl rfl (hu_of hr) (pps_cons (pe_gv T.gSTART (by rfl)) pe_bl pps_nil)))
      (pss_cons (ps_set (i := 4) sc_all_moves.nd rfl (.inl rfl) (pe_lst (pa_cons (pe_gv T.gSTART (by rfl)) pa_nil)))
      (pss_cons (ps_while PassesOwn.never (pt_cmpR op_lt (pe_callB (call_len_dX (w := w) (K := K) rfl rfl) (by rfl) T.len (by decide +kernel) (pa_cons (pv 2) pa_nil)) (pe_callB (call_len_seqK (K := K) rfl) (by rfl) T.len (by decide +kernel) (pa_cons (pv 4) pa_nil)) (nomark _))
        (pss_cons (ps_set (i := 5) sc_all_moves.nd rfl (.inl rfl) (pe_ix (ix_listK (K := K) rfl) (pv 4) (pe_callB (call_len_dX (w := w) (K := K) rfl rfl) (by rfl) T.len (by decide +kernel) (pa_cons (pv 2) pa_nil)) (fun _ _ => rfl)))
        (pss_cons (ps_set (i := 6) sc_all_moves.nd rfl (.inl rfl) (pe_c D_moves_from hr (by decide) (by rfl) (pa_cons (pv 0) (pa_cons (pv 1) (pa_cons (pv 5) pa_nil)))))
        (pss_cons (ps_for PassesOwn.never rfl (pi_list (pv 6)) (pg_tup (by rfl) (pgs_cons (pg_name (i := 7) sc_all_moves.nd rfl (.inl rfl)) (pgs_cons (pg_name (i := 7) sc_all_moves.nd rfl (.inl rfl)) (pgs_cons (pg_name (i := 8) sc_all_moves.nd rfl (.inl rfl)) pgs_nil))))
          (pss_one (ps_if (pt_cmp (pc_dnotinY (w := w) (K := K) rfl rfl (hu_of hr) (pv 8) (pv 3)))
            (pss_cons (ps_dputY (w := w) (K := K) rfl rfl (hu_of hr) (pv 3) (pv 8) pe_bl rfl)
            (pss_one (ps_expr (pe_bmK (K := K) rfl PySem.F.plainAttrs_list PySem.F.slot_list_append PySem.F.type_list_append mt_append (pv 4) (pa_cons (pv 8) pa_nil)))))
            pss_nil)))
        (pss_one (ps_dputY (w := w) (K := K) rfl rfl (hu_of hr) (pv 2) (pv 5) (pv 6) rfl))))))
      (pss_one (ps_ret (pv 2))))))), ?_⟩
    refine fun mv nmv => ?_
    have s1 := same_put (s := Same.refl H) (o := DX w mv [] []) nmv
    refine fun mt nmt => ⟨?_, plK .start, aS, .bl true, rfl, ?_, ?_⟩
    · exact upd_same
    · have s2 := same_put (s := s1) (o := DX w mt [] []) nmt
      exact sq_same cn.st s2
    refine ⟨by show 1 ≤ sizeLine; decide, fun qu nqu => ?_⟩
    have mne : mv ≠ mt := ne_of_none (show upd H mv (DX w mv [] []) mv = some (DX w mv [] []) from upd_same) nmt
    rw [upd_upd] at nqu ⊢
    have s2 := same_put (s := s1) (o := DX w mt [aS] [(plK .start, V.bl true)]) nmt
    have s3 := same_put (s := s2) (o := .lst [V.ref aS]) nqu
    have s3' := same_put (s := Same.refl _) (o := .lst [V.ref aS]) nqu
    have hmv := s3' _ _ (show upd (upd H mv (DX w mv [] [])) mt (DX w mt [aS] [(plK .start, V.bl true)]) mv = some (DX w mv [] []) by rw [upd_ne mne]; exact upd_same)
    have hmt := s3' _ _ (show upd (upd H mv (DX w mv [] [])) mt (DX w mt [aS] [(plK .start, V.bl true)]) mt = some (DX w mt [aS] [(plK .start, V.bl true)]) from upd_same)
    have hqu : upd (upd (upd H mv (DX w mv [] [])) mt (DX w mt [aS] [(plK .start, V.bl true)])) qu (.lst [V.ref aS]) qu = some (.lst [V.ref aS]) := upd_same
    show Ends.nx _ _ (upd (upd (upd H mv (DX w mv [] [])) mt (DX w mt [aS] [(plK .start, V.bl true)])) qu (.lst [V.ref aS]))
    have nmtH : H mt = none := same_none s1 nmt
    have nquH : H qu = none := same_none s2 nqu
    generalize upd (upd (upd H mv (DX w mv [] [])) mt (DX w mt [aS] [(plK .start, V.bl true)])) qu (.lst [V.ref aS]) = H1 at s3 hmv hmt hqu ⊢
    clear s3' s2 s1 nqu nmt
    have R0 : Srch K w P1 S1 mv mt qu H [.start] 0 H1 := ⟨Bfs.start P1 S1 .start, rfl, ⟨[], [], hmv, .nil, .nil⟩, ⟨_, _, hmt, .cons (sq_same cn.st s3) .nil, rfl⟩, ⟨[aS], hqu, .cons (sq_same cn.st s3) .nil⟩, s3⟩
    clear hmv hmt hqu s3
    refine ⟨fun m σ H2 => ∃ (Q : List Pl) (n : Nat), m = 600 - n ∧ (∃ v5 v6 v7 v8 : Option V, σ = [some (.ref f1), some (.ref f2), some (.ref mv), some (.ref mt), some (.ref qu), v5, v6, v7, v8]) ∧ Srch K w P1 S1 mv mt qu H Q n H2, ⟨_, [.start], 0, rfl, ⟨_, _, _, _, rfl⟩, R0⟩, ?_⟩
    rintro m σ H2 ⟨Qs, n, rfl, ⟨v5, v6, v7, v8, rfl⟩, R⟩
    obtain ⟨bf, rq, ⟨vs, ks, hmv, kyv, pk⟩, ⟨ts, ms, hmt, kyt, km⟩, ⟨as, hqu, pa⟩, sm⟩ := id R
    have lk := prd_len pk
    rw [List.length_take, Nat.min_eq_left bf.le] at lk
    have la := prd_len pa
    have few := bf.few nP
    have sP := sum_ok okP
    have sS := sum_ok okS
    refine ⟨_, rfl, mv, vs, ks, rfl, hmv, kyv, _, rfl, qu, _, rfl, .inl (SqL.of hqu), _, _, rfl, rfl, _, rfl, ?_⟩
    rw [lk, List.length_map, la]
    by_cases hn : n < Qs.length
    · rw [decide_eq_true (show ((n : Nat) : Int) < ((Qs.length : Nat) : Int) by omega)]
      refine iteT ⟨fun σ' H' => ∃ m', m' < 600 - n ∧ ∃ (Q : List Pl) (n : Nat), m' = 600 - n ∧ (∃ v5 v6 v7 v8 : Option V, σ' = [some (.ref f1), some (.ref f2), some (.ref mv), some (.ref mt), some (.ref qu), v5, v6, v7, v8]) ∧ Srch K w P1 S1 mv mt qu H Q n H', fun _ _ z => z, ?_⟩
      obtain ⟨p, hp⟩ : ∃ p, Qs[n]? = some p := ⟨Qs[n], List.getElem?_eq_getElem hn⟩
      obtain ⟨b, hb, ebp⟩ : ∃ b, as[n]? = some b ∧ PlT K H2 b p := by
        have h1 : n < as.length := by omega
        obtain ⟨y, e1, e2⟩ := prd_at pa (List.getElem?_eq_getElem h1)
        rw [hp] at e1
        cases e1
        exact ⟨_, List.getElem?_eq_getElem h1, e2⟩
      have hpm : p ∈ Qs := List.mem_of_getElem? hp
      obtain ⟨w0, kw⟩ := bf.reach p hpm
      have po := reach_ok nP okP okS kw
      have hbx : (as.map V.ref)[n]? = some (.ref b) := by rw [List.getElem?_map, hb]; rfl
      refine ⟨_, rfl, _, rfl, mv, vs, ks, rfl, hmv, kyv, qu, _, _, _, rfl, rfl, SqL.of hqu, by rw [lk]; exact atI_nat (j := n) hbx, ?_⟩
      refine ⟨_, rfl, _, rfl, _, rfl, f1, f2, b, P1, S1, p, rfl, hP.same sm, hS.same sm, ebp, cn.same sm, po, okP, okS, fun v H3 s3 ml fr => ?_⟩
      have mvqu : mv ≠ qu := ne_of hmv hqu (fun z => nomatch z)
      have mtqu : mt ≠ qu := ne_of hmt hqu (fun z => nomatch z)
      obtain ⟨d0, xs, rfl, hxs, prx⟩ := ml
      have lxs := prd_len prx
      have ml30 : (moves P1 S1 p).length ≤ 30 := by
        cases p with
        | fin => exact Nat.zero_le _
        | start =>
          show (P1.map _).length ≤ 30
          rw [List.length_map]
          exact okP.1
        | rest a r =>
          refine Nat.le_trans (List.length_filterMap_le _ _) ?_
          cases a with
          | true => exact okS.1
          | false => exact okP.1
      have d0qu : d0 ≠ qu := by
        obtain ⟨d, e, n0⟩ := fr
        cases e
        exact fun z => by
          rw [z, hqu] at n0
          cases n0
      refine ⟨_, rfl, d0, rfl, ⟨_, SqL.of hxs⟩, for_it (walk_list (K := K) (a := d0) (xs := xs)) (fun i σ H4 => ∃ (as' ts' : List Addr) (ms' : List (List Key × V)), (∃ v7 v8 : Option V, σ = [some (.ref f1), some (.ref f2), some (.ref mv), some (.ref mt), some (.ref qu), some (.ref b), some (.ref d0), v7, v8]) ∧
        H4 mt = some (DX w mt ts' ms') ∧ KyA K H4 ts' ms' ∧ keysP ms' (addTo Qs ((moves P1 S1 p).take i)) ∧ H4 qu = some (.lst (as'.map V.ref)) ∧ Paired (PlT K H4) as' (addTo Qs ((moves P1 S1 p).take i)) ∧ But2 mt qu H3 H4) ?_ ?_ ?_ ?_⟩
      · exact ⟨as, ts, ms, ⟨_, _, rfl⟩, s3 _ _ hmt, ky_same kyt s3, km, s3 _ _ hqu, prd_imp pa fun _ _ z => sq_same z s3, fun _ _ e _ _ => e⟩
      · rintro i σ H4 hi ⟨as', ts', ms', _, _, _, _, _, _, u⟩
        exact SqL.of (u _ _ hxs (ne_of hxs (s3 _ _ hmt) (fun z => nomatch z)) d0qu)
      · rintro i y σ H40 H4 hi ⟨as', ts', ms', ⟨v7, v8, rfl⟩, hmt4, kyt4, km4, hqu4, pa4, u⟩ ⟨rfl, hy⟩
        obtain ⟨m, hm, mo⟩ := prd_at prx hy
        have mo4 := mo.but u (s3 _ _ hmt) (s3 _ _ hqu)
        obtain ⟨c, b4, rfl, hc4, hb4⟩ := mo4
        have lm := keysP_len km4
        have la4 := prd_len pa4
        have et : (moves P1 S1 p).take (i + 1) = (moves P1 S1 p).take i ++ [m] := by rw [List.take_add_one, hm]; rfl
        have bf1 := (bf.step hp).few nP
        have lq : (addTo Qs ((moves P1 S1 p).take i)).length ≤ 542 := by
          obtain ⟨R1, e1⟩ := addTo_pre ((moves P1 S1 p).drop i) (addTo Qs ((moves P1 S1 p).take i))
          have e2 : addTo Qs (moves P1 S1 p) = addTo (addTo Qs ((moves P1 S1 p).take i)) ((moves P1 S1 p).drop i) := by
            show List.foldl _ _ _ = List.foldl _ (List.foldl _ _ _) _
            rw [← List.foldl_append, List.take_append_drop]
          rw [e2, e1, List.length_append] at bf1
          omega
        refine ⟨c, _, rfl, .inl (.inl hc4), rfl, _, _, rfl, _, _, rfl, _, _, rfl, rfl, ?_⟩
        refine ⟨_, rfl, _, rfl, mt, _, rfl, DGetY.t (k := plK m.2.2) hmt4 kyt4 hb4, _, rfl, ?_⟩
        rw [keysP_is km4, et, addTo_snoc]
        by_cases hin : m.2.2 ∈ addTo Qs ((moves P1 S1 p).take i)
        · rw [decide_eq_true hin, if_pos hin]
          exact iteF ⟨as', ts', ms', ⟨_, _, rfl⟩, hmt4, kyt4, km4, hqu4, pa4, u⟩
        · rw [decide_eq_false hin, if_neg hin]
          refine iteT ⟨_, rfl, _, rfl, mt, _, rfl, DPutY.t (k := plK m.2.2) hmt4 kyt4 hb4 (keysP_none km4 hin) (by rw [lm, sizeLine_eq]; omega), ?_⟩
          have hqu5 : upd H4 mt (DX w mt (ts' ++ [b4]) (ms' ++ [(plK m.2.2, V.bl true)])) qu = some (.lst (as'.map V.ref)) := by rw [upd_ne (Ne.symm mtqu)]; exact hqu4
          refine ⟨_, rfl, .inl ⟨rfl, _, SqL.of hqu5⟩, _, rfl, qu, _, _, rfl, rfl, hqu5, by rw [List.length_map, sizeLine_eq]; omega, ?_⟩
          have up : ∀ {x : Addr} {xs : List V}, SqT K H4 x xs → SqT K (upd (upd H4 mt (DX w mt (ts' ++ [b4]) (ms' ++ [(plK m.2.2, V.bl true)]))) qu (.lst (as'.map V.ref ++ [.ref b4]))) x xs := fun {x xs} h => sq_lst (sq_dx h hmt4) hqu5
          refine ⟨as' ++ [b4], ts' ++ [b4], ms' ++ [(plK m.2.2, V.bl true)], ⟨_, _, rfl⟩, ?_, (prd_imp kyt4 fun _ _ z => up z).snoc (up hb4), keysP_snoc km4, ?_, ?_, ?_⟩
          · rw [upd_ne mtqu]
            exact upd_same
          · rw [upd_same, List.map_append]
            rfl
          · exact (prd_imp pa4 fun _ _ z => up z).snoc (up hb4)
          · intro x o e n1 n2
            rw [upd_ne n2, upd_ne n1]
            exact u _ _ e n1 n2
      rintro σ H4 ⟨as', ts', ms', ⟨v7, v8, rfl⟩, hmt4, kyt4, km4, hqu4, pa4, u⟩
      rw [List.take_of_length_le (by omega)] at km4 pa4
      have hmv4 := u _ _ (s3 _ _ hmv) mne mvqu
      have eb4 : PlT K H4 b p := u.sq (sq_same ebp s3) (s3 _ _ hmt) (s3 _ _ hqu)
      have kyv4 : KyA K H4 vs ks := prd_imp kyv fun _ _ z => u.sq (sq_same z s3) (s3 _ _ hmt) (s3 _ _ hqu)
      have kk : keysP ks (Qs.take n) := by
        unfold keysP
        have : ∀ {l : List (List Key × V)} {q : List Pl}, Paired (fun kv p => MvD K P1 S1 H2 kv p ∧ kv.2 ≠ .ref qu) l q → l.map (·.1) = q.map plK := by
          intro l q h
          induction h with
          | nil => rfl
          | cons r _ ih => rw [List.map_cons, List.map_cons, ih, r.1.1]
        exact this pk
      have np : p ∉ Qs.take n := by
        have nd := bf.nd
        have e : Qs.take (n + 1) = Qs.take n ++ [p] := by rw [List.take_add_one, hp]; rfl
        rw [← List.take_append_drop (n + 1) Qs, e] at nd
        exact fun z => (List.nodup_append.mp (List.nodup_append.mp nd).1).2.2 _ z p (by simp) rfl
      refine ⟨_, rfl, _, rfl, _, rfl, mv, _, rfl, DPutY.t (k := plK p) hmv4 kyv4 eb4 (keysP_none kk np) (by rw [lk, sizeLine_eq]; omega), ?_⟩
      have up : ∀ {x : Addr} {xs : List V}, H4 x = some (.tup xs) → upd H4 mv (DX w mv (vs ++ [b]) (ks ++ [(plK p, V.ref d0)])) x = some (.tup xs) := fun {x xs} h => by
        rw [upd_ne (ne_of h hmv4 (fun z => nomatch z))]
        exact h
      have upS : ∀ {x : Addr} {xs : List V}, SqT K H4 x xs → SqT K (upd H4 mv (DX w mv (vs ++ [b]) (ks ++ [(plK p, V.ref d0)]))) x xs := fun {x xs} h => sq_dx h hmv4
      have upl : ∀ {x : Addr} {xs : List V}, H4 x = some (.lst xs) → upd H4 mv (DX w mv (vs ++ [b]) (ks ++ [(plK p, V.ref d0)])) x = some (.lst xs) := fun {x xs} h => by
        rw [upd_ne (ne_of h hmv4 (fun z => nomatch z))]
        exact h
      have upM : ∀ {v : V} {l : List Mo}, MoL K H4 v l → MoL K (upd H4 mv (DX w mv (vs ++ [b]) (ks ++ [(plK p, V.ref d0)]))) v l := fun {v l} ⟨d, xs, e, h1, h2⟩ => ⟨d, xs, e, upl h1, prd_imp h2 fun _ _ ⟨c, b, e, h3, h4⟩ => ⟨c, b, e, up h3, upS h4⟩⟩
      have ml3 : MoL K H3 (.ref d0) (moves P1 S1 p) := ⟨d0, xs, rfl, hxs, prx⟩
      have nd0 : V.ref d0 ≠ .ref qu := fun z => d0qu (V.ref.inj z)
      have n6 : n < 542 := by omega
      refine ⟨600 - (n + 1), by omega, addTo Qs (moves P1 S1 p), n + 1, rfl, ⟨_, _, _, _, rfl⟩, bf.step hp, (by show stepQ P1 S1 (runQ P1 S1 n) n = _; rw [rq]; unfold stepQ; rw [hp]), ⟨_, _, upd_same, (prd_imp kyv4 fun _ _ z => upS z).snoc (upS eb4), ?_⟩, ⟨ts', ms', ?_, (prd_imp kyt4 fun _ _ z => upS z), km4⟩, ⟨as', upl hqu4, prd_imp pa4 fun _ _ z => upS z⟩, ?_⟩
      · obtain ⟨R1, e1⟩ := addTo_pre (moves P1 S1 p) Qs
        have e2 : (addTo Qs (moves P1 S1 p)).take (n + 1) = Qs.take n ++ [p] := by
          rw [e1, List.take_append_of_le_length (by omega), List.take_add_one, hp]
          rfl
        rw [e2]
        exact (prd_imp pk fun _ _ z => ⟨⟨z.1.1, upM ((z.1.2.same s3).but z.2 u (s3 _ _ hmt) (s3 _ _ hqu))⟩, z.2⟩).snoc ⟨⟨rfl, upM (ml3.but nd0 u (s3 _ _ hmt) (s3 _ _ hqu))⟩, nd0⟩
      · rw [upd_ne (Ne.symm mne)]
        exact hmt4
      · intro x o e
        have e2 := s3 _ _ (sm _ _ e)
        rw [upd_ne (ne_of_none e nmv)]
        exact u _ _ e2 (ne_of_none e nmtH) (ne_of_none e nquH)
    · rw [decide_eq_false (show ¬ ((n : Nat) : Int) < ((Qs.length : Nat) : Int) by omega)]
      have en : n = Qs.length := by
        have := bf.le
        omega
      subst en
      rw [List.take_of_length_le (Nat.le_refl _)] at pk
      refine iteF ⟨_, rfl, q mv Qs H2 sm nmv bf ?_ ⟨vs, ks, hmv, kyv, prd_imp pk fun _ _ z => z.1⟩⟩
      have e1 : Qs.length = (runQ P1 S1 Qs.length).length := by rw [rq]
      have e2 := runQ_stay e1 (600 - Qs.length)
      rw [show Qs.length + (600 - Qs.length) = 600 by omega, rq] at e2
      unfold placesQ
      rw [e2]
end
end V8
set_option Elab.async false
set_option linter.all false
set_option maxRecDepth 100000
set_option maxHeartbeats 8000000
set_option pp.maxSteps 900
/-! The places from which the end can be reached. -/
namespace V8
open PySem PySem.Spec PyProof.Rows L2 MZ
variable {K : PySem.W.Frag} {ω : World}
abbrev s_all_living : Stmt := topS 48
abbrev n_all_living : List Str := ["moves", "living", "again", "place", "taker", "label", "target"]
theorem sc_all_living : FnScope ["moves", "living", "again", "place", "taker", "label", "target"] ["moves"] (defScope s_all_living) := ⟨rfl, rfl, rfl, by decide +kernel, rfl, by decide +kernel, by decide +kernel⟩
/-- a dict with the places that live -/
structure LivD (K : PySem.W.Frag) (ω : World) (P S : List Pr) (Qs L : List Pl) (H : Hp) (d : Addr) : Prop where
  at_ : ∃ as ks, H d = some (DX ω d as ks) ∧ KyA K H as ks ∧ keysP ks L
  liv : Liv P S L
  all : ∀ p ∈ Qs, ∀ v, Way P S p .fin v → p ∈ L
def spLiving (K : PySem.W.Frag) (ω : World) (aS aE aV : Addr) : Sp := fun vs H Q _ => ∃ (d : Addr) (P S : List Pr) (Qs : List Pl), vs = [.ref d] ∧ AllM K ω P S Qs H d ∧ Bfs P S .start Qs Qs.length ∧ CnH K aS aE aV H ∧ Qs.length ≤ 542 ∧ PrOk P ∧ PrOk S ∧
  ∀ (ld : Addr) (L : List Pl) (H' : Hp), Same H H' → H ld = none → LivD K ω P S Qs L H' ld → Q (.ref ld) H'
theorem moves_len {P S : List Pr} (oP : PrOk P) (oS : PrOk S) (p : Pl) : (moves P S p).length ≤ 30 := by
  cases p with
  | fin => exact Nat.zero_le _
  | start =>
    show (P.map _).length ≤ 30
    rw [List.length_map]
    exact oP.1
  | rest a r =>
    refine Nat.le_trans (List.length_filterMap_le _ _) ?_
    cases a with
    | true => exact oS.1
    | false => exact oP.1
theorem val_at : ∀ {kvs : List (List Key × V)} {i : Nat} {k : List Key} {v : V}, (kvs.map (·.1)).Nodup → kvs[i]? = some (k, v) → valV kvs k = some v
  | [], i, k, v, _, e => by simp at e
  | p :: r, 0, k, v, _, e => by
    rw [List.getElem?_cons_zero] at e
    cases e
    exact valV_pos rfl
  | p :: r, i + 1, k, v, nd, e => by
    rw [List.getElem?_cons_succ] at e
    rw [List.map_cons, List.nodup_cons] at nd
    rw [valV_neg fun z => nd.1 (List.mem_map.mpr ⟨_, List.mem_of_getElem? e, z.symm⟩)]
    exact val_at nd.2 e
theorem map_nd : ∀ {Q : List Pl}, Q.Nodup → (Q.map plK).Nodup
  | [], _ => List.nodup_nil
  | p :: r, nd => by
    rw [List.nodup_cons] at nd
    rw [List.map_cons, List.nodup_cons]
    refine ⟨fun z => ?_, map_nd nd.2⟩
    obtain ⟨q, hq, e⟩ := List.mem_map.mp z
    exact nd.1 (plK_inj e ▸ hq)
theorem keysM {P S : List Pr} {H : Hp} {kvs : List (List Key × V)} {Q : List Pl} (h : Paired (MvD K P S H) kvs Q) : keysP kvs Q := by
  unfold keysP
  induction h with
  | nil => rfl
  | cons r _ ih => rw [List.map_cons, List.map_cons, ih, r.1]
/-- what the search for what lives keeps -/
structure LvS (K : PySem.W.Frag) (ω : World) (P S : List Pr) (Qs : List Pl) (ld : Addr) (H0 : Hp) (L : List Pl) (H : Hp) : Prop where
  at_ : ∃ as ks, H ld = some (DX ω ld as ks) ∧ KyA K H as ks ∧ keysP ks L
  liv : Liv P S L
  nd : L.Nodup
  sub : ∀ p ∈ L, p ∈ Pl.fin :: Qs
  sm : Same H0 H
theorem LvS.few {P S : List Pr} {Qs : List Pl} {ld : Addr} {H0 : Hp} {L : List Pl} {H : Hp} (h : LvS K ω P S Qs ld H0 L H) : L.length ≤ Qs.length + 1 := nd_le h.nd h.sub
section
variable {P : Program} {w : World} {K : PySem.W.Frag} {mg : Str → Option Value} {base : Heap} {aS aE aV : Addr}
theorem ok_all_living {f : Addr} {fd : FuncData} (F : Fun K "all_living" "all_living" s_all_living f fd) (T : Tm mg aS aE aV) : FnOk P w K mg base CX0 1 f fd ["moves"] (spLiving K w aS aE aV) := by
  refine F.ok sc_all_living (fun vs H Q E h => ?_) (fun cdv A outer s H vs Q E hr h => ?_)
  · obtain ⟨d, P, S, Qs, rfl, _⟩ := h
    rfl
  · obtain ⟨d, P1, S1, Qs, rfl, ⟨vs, kvs, hd, kyv, pk⟩, bf, cn, few, okP, okS, q⟩ := h
    refine ⟨_, (pss_cons (ps_set (i := 1) sc_all_living.nd rfl (.inr rfl) (pe_dispY (w := w) (K := K) rfl rfl (hu_of hr) (pps_cons (pe_gv T.gEND (by rfl)) pe_bl pps_nil)))
      (pss_cons (ps_set (i := 2) sc_all_living.nd rfl (.inl rfl) pe_bl)
      (pss_cons (ps_while PassesOwn.never (pt_truth (pv 2) (by intro _; rfl))
        (pss_cons (ps_set (i := 2) sc_all_living.nd rfl (.inl rfl) pe_bl)
        (pss_one (ps_lock (ps_for PassesOwn.never rfl (pi_keysXt (w := w) rfl (pv 0)) (pg_name (i := 3) sc_all_living.nd rfl (.inl rfl))
          (pss_one (ps_if (PW.pt (pw_and (pt_cmp (pc_dnotinY (w := w) (K := K) rfl rfl (hu_of hr) (pv 3) (pv 1))) (pw_and1 (pt_val (pe_callB (cr_any rfl) (by rfl) T.any (by decide +kernel) (pa_cons (pe_lc (own := [("taker", 4), ("label", 5), ("target", 6)]) (g := gTup K 3 (gCons (gName 4) (gCons (gName 5) (gCons (gName 6) gNil)))) (by rfl) sc_all_living.nd (pi_list (pe_dgetY (w := w) (K := K) rfl rfl (hu_of hr) (pv 0) (pv 3) (fun _ _ => rfl))) (blkOk_by (own := [("taker", 4), ("label", 5), ("target", 6)]) (N := n_all_living) (sc := defScope s_all_living) (by decide +kernel)) (fun _ _ _ _ _ => (pg_tup (by rfl) (pgs_cons (pg_name (i := 4) sc_all_living.nd rfl (.inl rfl)) (pgs_cons (pg_name (i := 5) sc_all_living.nd rfl (.inl rfl)) (pgs_cons (pg_name (i := 6) sc_all_living.nd rfl (.inl rfl)) pgs_nil))))) (fun _ _ _ _ _ => pts_nil) (fun _ _ _ _ _ => (pe_cmp (pc_dinY (w := w) (K := K) rfl rfl (hu_of hr) (pv 6) (pv 1)) rfl))) pa_nil))))))
            (pss_cons (ps_dputY (w := w) (K := K) rfl rfl (hu_of hr) (pv 1) (pv 3) pe_bl rfl)
            (pss_one (ps_set (i := 2) sc_all_living.nd rfl (.inl rfl) pe_bl)))
            pss_nil)))))))
      (pss_one (ps_ret (pv 1)))))), ?_⟩
    have lkv := prd_len pk
    refine fun ld nld => ⟨?_, plK .fin, aE, .bl true, rfl, ?_, ?_⟩
    · exact upd_same
    · exact sq_same cn.en (same_put (s := Same.refl H) nld)
    rw [upd_upd]
    have s1 := same_put (s := Same.refl H) (o := DX w ld [aE] [(plK .fin, V.bl true)]) nld
    have hld : upd H ld (DX w ld [aE] [(plK .fin, V.bl true)]) ld = some (DX w ld [aE] [(plK .fin, V.bl true)]) := upd_same
    show Ends.nx _ _ (upd H ld (DX w ld [aE] [(plK .fin, V.bl true)]))
    generalize upd H ld (DX w ld [aE] [(plK .fin, V.bl true)]) = H1 at s1 hld ⊢
    have dld : d ≠ ld := ne_of_none hd nld
    have R0 : LvS K w P1 S1 Qs ld H [.fin] H1 := ⟨⟨_, _, hld, .cons (sq_same cn.en s1) .nil, rfl⟩, Liv.start P1 S1, by simp, fun p h => by rw [List.mem_singleton.mp h]; exact List.mem_cons_self, s1⟩
    refine ⟨fun m σ H2 => ∃ (L : List Pl) (g : Bool), m = 2 * (600 - L.length) + (if g = true then 1 else 0) ∧ (∃ v3 v4 v5 v6 : Option V, σ = [some (.ref d), some (.ref ld), some (.bl g), v3, v4, v5, v6]) ∧ LvS K w P1 S1 Qs ld H L H2 ∧
      (g = false → ∀ p ∈ Qs, p ∉ L → ∀ m ∈ moves P1 S1 p, m.2.2 ∉ L), ⟨_, [.fin], true, rfl, ⟨_, _, _, _, rfl⟩, R0, fun z => nomatch z⟩, ?_⟩
    rintro m σ H2 ⟨L, g, rfl, ⟨v3, v4, v5, v6, rfl⟩, R, cl⟩
    have Rf := R.few
    cases g with
    | false =>
      refine ⟨_, rfl, false, rfl, iteF ⟨_, rfl, q ld L H2 R.sm nld ⟨R.at_, R.liv, fun p hp v k => R.liv.all bf (cl rfl) hp k⟩⟩⟩
    | true =>
      refine ⟨_, rfl, true, rfl, iteT ⟨fun σ' H' => ∃ m', m' < 2 * (600 - L.length) + 1 ∧ ∃ (L : List Pl) (g : Bool), m' = 2 * (600 - L.length) + (if g = true then 1 else 0) ∧ (∃ v3 v4 v5 v6 : Option V, σ' = [some (.ref d), some (.ref ld), some (.bl g), v3, v4, v5, v6]) ∧ LvS K w P1 S1 Qs ld H L H' ∧
        (g = false → ∀ p ∈ Qs, p ∉ L → ∀ m ∈ moves P1 S1 p, m.2.2 ∉ L), fun _ _ z => z, ?_⟩⟩
      have hd2 := R.sm _ _ hd
      refine ⟨d, _, hd2, True.intro, fun od => ⟨_, rfl, d, od, vs, kvs, rfl, upd_same, ?_⟩⟩
      have kK := keysM pk
      have ndK : (kvs.map (·.1)).Nodup := by
        rw [kK]
        exact map_nd bf.nd
      obtain ⟨ts, ks, hld2, kyl, kL⟩ := R.at_
      have lvs := prd_len kyv
      have sf : ∀ c u, H2 c = some u → c ≠ d → upd H2 d (.frz od (DX w d vs kvs)) c = some u := fun c u e n => by
        rw [upd_ne n]
        exact e
      refine for_it (walk_keysX (w := w) (d := d) (o := od) (as := vs) (kvs := kvs)) (fun i σ H4 => ∃ (L' : List Pl) (g : Bool) (ts' : List Addr) (ks' : List (List Key × V)), (∃ v3 v4 v5 v6 : Option V, σ = [some (.ref d), some (.ref ld), some (.bl g), v3, v4, v5, v6]) ∧ H4 ld = some (DX w ld ts' ks') ∧ KyA K H4 ts' ks' ∧ keysP ks' L' ∧ Liv P1 S1 L' ∧ L'.Nodup ∧ (∀ p ∈ L', p ∈ Pl.fin :: Qs) ∧
        L.length ≤ L'.length ∧ (g = true → L.length < L'.length) ∧ (g = false → L' = L ∧ ∀ j p, j < i → Qs[j]? = some p → p ∉ L → ∀ m ∈ moves P1 S1 p, m.2.2 ∉ L) ∧ (∀ c u, upd H2 d (.frz od (DX w d vs kvs)) c = some u → c ≠ ld → H4 c = some u)) ?_ ?_ ?_ ?_
      · exact ⟨L, false, ts, ks, ⟨_, _, _, _, rfl⟩, sf _ _ hld2 (Ne.symm dld), prd_imp kyl fun _ _ z => sq_dx z hd2, kL, R.liv, R.nd, R.sub, Nat.le_refl _, (fun z => nomatch z), (fun _ => ⟨rfl, fun j p hj => absurd hj (Nat.not_lt_zero _)⟩), fun _ _ e _ => e⟩
      · rintro i σ H4 hi ⟨L', g, ts', ks', _, _, _, _, _, _, _, _, _, _, u⟩
        exact u _ _ upd_same dld
      · rintro i y σ H40 H4 hi ⟨L', g, ts', ks', ⟨w3, w4, w5, w6, rfl⟩, hld4, kyl4, kL4, lv, nd, sub, le, lt, cl4, u⟩ ⟨rfl, qk, hbk, rfl⟩
        obtain ⟨⟨k, v⟩, hkv, hqk0⟩ := prd_at kyv hbk
        obtain ⟨p, hp, ek, ml⟩ := prd_at pk hkv
        have ek : k = plK p := ek
        subst ek
        have upS : ∀ {x : Addr} {xs : List V}, SqT K H x xs → SqT K H4 x xs := fun {x xs} e => sq_mono (sq_dx (sq_same e R.sm) hd2) fun o eo z => u _ _ eo fun q => by
          rw [q, upd_ne (Ne.symm dld), hld2] at eo
          cases eo
          rcases z with z | ⟨_, z⟩ <;> cases z
        have hqk : SqT K H4 qk (plV p) := upS hqk0
        have kyv4 : KyA K H4 vs kvs := prd_imp kyv fun _ _ z => upS z
        have l4 := nd_le nd sub
        rw [List.length_cons] at l4
        have hd4 := u _ _ upd_same dld
        refine ⟨_, rfl, _, rfl, ld, _, rfl, DGetY.t (k := plK p) hld4 kyl4 hqk, _, rfl, ?_⟩
        rw [keysP_is kL4]
        by_cases hin : p ∈ L'
        · rw [decide_eq_true hin]
          refine iteF ⟨L', g, ts', ks', ⟨_, _, _, _, rfl⟩, hld4, kyl4, kL4, lv, nd, sub, le, lt, fun z => ⟨(cl4 z).1, fun j p' hj e n => ?_⟩, u⟩
          by_cases hj2 : j < i
          · exact (cl4 z).2 j p' hj2 e n
          · have : j = i := by omega
            subst this
            rw [hp] at e
            cases e
            rw [(cl4 z).1] at hin
            exact absurd hin n
        rw [decide_eq_false hin]
        refine iteT ?_
        -- its steps
        have upT : ∀ {x : Addr} {xs : List V}, H x = some (.tup xs) → H4 x = some (.tup xs) := fun {x xs} e => u _ _ (sf _ _ (R.sm _ _ e) (ne_of e hd (fun z => nomatch z))) (ne_of_none e nld)
        obtain ⟨d0, xs, ev, hxs, prx⟩ := ml
        have ev : v = .ref d0 := ev
        subst ev
        have hxs4 : H4 d0 = some (.lst xs) := u _ _ (sf _ _ (R.sm _ _ hxs) (ne_of hxs hd (fun z => nomatch z))) (ne_of_none hxs nld)
        have prx4 : Paired (MoT K H4) xs (moves P1 S1 p) := prd_imp prx fun _ _ ⟨c, b, e, h1, h2⟩ => ⟨c, b, e, upT h1, upS h2⟩
        have lx := prd_len prx4
        have l30 := moves_len okP okS p
        refine ⟨_, rfl, _, rfl, d, _, rfl, ⟨vs, kvs, plK p, qk, .inr ⟨od, hd4⟩, kyv4, rfl, hqk, (val_at ndK hkv).symm⟩, d0, rfl, ⟨_, SqL.of hxs4⟩, fun D nD => lc_it (walk_list (K := K) (a := d0) (xs := xs)) (fun j H5 => H5 = upd H4 D (.lst (((moves P1 S1 p).take j).map fun m => V.bl (decide (m.2.2 ∈ L'))))) rfl ?_ ?_ ?_⟩
        · rintro j H5 hj rfl
          exact SqL.of (by rw [upd_ne (ne_of_none hxs4 nD)]; exact hxs4)
        · rintro j y H5 H6 hj rfl ⟨eH, hy⟩
          rw [eH]
          obtain ⟨m, hm, c, b, rfl, hc, hb⟩ := prd_at prx4 hy
          have s5 := same_put (s := Same.refl H4) (o := .lst (((moves P1 S1 p).take j).map fun m => V.bl (decide (m.2.2 ∈ L')))) nD
          refine ⟨c, _, rfl, .inl (.inl (s5 _ _ hc)), rfl, _, _, rfl, _, _, rfl, _, _, rfl, rfl, ?_⟩
          refine ⟨rfl, _, rfl, _, rfl, ld, _, rfl, DGetY.t (k := plK m.2.2) (s5 _ _ hld4) (ky_same kyl4 s5) (sq_same hb s5), _, upd_same, ?_, ?_⟩
          · rw [List.length_map, List.length_take, sizeLine_eq]
            omega
          · rw [upd_upd, List.take_add_one, hm, keysP_is kL4, List.map_append]
            rfl
        rintro H5 rfl
        rw [List.take_of_length_le (by omega)]
        have s5 := same_put (s := Same.refl H4) (o := .lst ((moves P1 S1 p).map fun m => V.bl (decide (m.2.2 ∈ L')))) nD
        have hD5 : upd H4 D (.lst ((moves P1 S1 p).map fun m => V.bl (decide (m.2.2 ∈ L')))) D = some (.lst ((moves P1 S1 p).map fun m => V.bl (decide (m.2.2 ∈ L')))) := upd_same
        generalize upd H4 D (.lst ((moves P1 S1 p).map fun m => V.bl (decide (m.2.2 ∈ L')))) = H5 at s5 hD5 ⊢
        refine ⟨D, (moves P1 S1 p).map fun m => decide (m.2.2 ∈ L'), rfl, SqL.of (by rw [hD5, List.map_map]; rfl), _, rfl, ?_⟩
        have u5 : ∀ c u', upd H2 d (.frz od (DX w d vs kvs)) c = some u' → c ≠ ld → H5 c = some u' := fun c u' e n => s5 _ _ (u c u' e n)
        cases ea : ((moves P1 S1 p).map fun m => decide (m.2.2 ∈ L')).any id with
        | false =>
          refine iteF ⟨L', g, ts', ks', ⟨_, _, _, _, rfl⟩, s5 _ _ hld4, ky_same kyl4 s5, kL4, lv, nd, sub, le, lt, fun z => ⟨(cl4 z).1, fun j p' hj e n => ?_⟩, u5⟩
          by_cases hj2 : j < i
          · exact (cl4 z).2 j p' hj2 e n
          · have : j = i := by omega
            subst this
            rw [hp] at e
            cases e
            intro m hm hl
            have : ((moves P1 S1 p).map fun m => decide (m.2.2 ∈ L')).any id = true := List.any_eq_true.mpr ⟨decide (m.2.2 ∈ L'), List.mem_map_of_mem hm, by rw [(cl4 z).1]; exact decide_eq_true hl⟩
            rw [ea] at this
            cases this
        | true =>
          obtain ⟨x, hx, ex⟩ := List.any_eq_true.mp ea
          obtain ⟨m, hm, rfl⟩ := List.mem_map.mp hx
          have hml : m.2.2 ∈ L' := of_decide_eq_true ex
          have lks := keysP_len kL4
          refine iteT ⟨_, rfl, _, rfl, ld, _, rfl, DPutY.t (k := plK p) (s5 _ _ hld4) (ky_same kyl4 s5) (sq_same hqk s5) (keysP_none kL4 hin) (by rw [lks, sizeLine_eq]; omega), ?_⟩
          have hpQ : p ∈ Qs := List.mem_of_getElem? hp
          refine ⟨L' ++ [p], true, ts' ++ [qk], ks' ++ [(plK p, V.bl true)], ⟨_, _, _, _, rfl⟩, upd_same, (prd_imp kyl4 fun _ _ z => sq_dx (sq_same z s5) (s5 _ _ hld4)).snoc (sq_dx (sq_same hqk s5) (s5 _ _ hld4)), keysP_snoc kL4, lv.add hm hml, ?_, ?_, ?_, fun _ => ?_, fun z => (nomatch z), ?_⟩
          · exact List.nodup_append.mpr ⟨nd, by simp, fun a ha b hb e => by
              rw [List.mem_singleton.mp hb] at e
              exact hin (e ▸ ha)⟩
          · intro a ha
            rcases List.mem_append.mp ha with h | h
            · exact sub a h
            · rw [List.mem_singleton.mp h]
              exact List.mem_cons_of_mem _ hpQ
          · rw [List.length_append]
            omega
          · rw [List.length_append]
            show L.length < L'.length + 1
            omega
          · intro c u' e n
            rw [upd_ne n]
            exact u5 c u' e n
      rintro σ H4 ⟨L', g, ts', ks', ⟨w3, w4, w5, w6, rfl⟩, hld4, kyl4, kL4, lv, nd, sub, le, lt, cl4, u⟩
      have l4 := nd_le nd sub
      rw [List.length_cons] at l4
      refine ⟨u _ _ upd_same dld, 2 * (600 - L'.length) + (if g = true then 1 else 0), ?_, L', g, rfl, ⟨_, _, _, _, rfl⟩, ⟨⟨ts', ks', by rw [upd_ne (Ne.symm dld)]; exact hld4, prd_imp kyl4 fun _ _ z => sq_ne z (u _ _ upd_same dld) (fun z => nomatch z) (fun _ z => nomatch z), kL4⟩, lv, nd, sub, fun c o e => ?_⟩, fun z p hp n => ?_⟩
      · cases g with
        | true =>
          have := lt rfl
          show _ + 1 < _
          omega
        | false =>
          rw [(cl4 rfl).1]
          show _ + 0 < _
          omega
      · by_cases hc : c = d
        · rw [hc, upd_same]
          rw [hc, hd] at e
          exact e
        · rw [upd_ne hc]
          exact u _ _ (sf _ _ (R.sm _ _ e) hc) (ne_of_none e nld)
      · obtain ⟨e1, c2⟩ := cl4 z
        rw [e1] at n ⊢
        obtain ⟨j, hj, ej⟩ := List.getElem_of_mem hp
        exact c2 j p (by rw [lvs, lkv]; exact hj) (by rw [List.getElem?_eq_getElem hj, ej]) n
end
end V8
set_option Elab.async false
set_option linter.all false
set_option maxRecDepth 100000
set_option maxHeartbeats 8000000
set_option pp.maxSteps 900
/-! A way to each place that can be reached from one. -/
namespace V8
open PySem PySem.Spec PyProof.Rows L2 MZ
variable {K : PySem.W.Frag} {ω : World}
abbrev s_ways_from : Stmt := topS 49
theorem sc_ways_from : FnScope ["moves", "place", "ways", "queue", "done", "reached", "taker", "label", "target"] ["moves", "place"] (defScope s_ways_from) := ⟨rfl, rfl, rfl, by decide +kernel, rfl, by decide +kernel, by decide +kernel⟩
abbrev WyL := List (Pl × (List Nat × List Nat))
def KW (H : Hp) (kv : List Key × V) (q : Pl × (List Nat × List Nat)) : Prop := kv.1 = plK q.1 ∧ ∃ c, kv.2 = .ref c ∧ WyT H c q.2
theorem keysW {H : Hp} {ks : List (List Key × V)} {W : WyL} (h : Paired (KW H) ks W) : keysP ks (W.map (·.1)) := by
  unfold keysP
  induction h with
  | nil => rfl
  | cons r _ ih => rw [List.map_cons, List.map_cons, List.map_cons, ih, r.1]
theorem addW_pre (w : List Nat × List Nat) : ∀ (f : List Mo) (W : WyL), ∃ R, addW w W f = W ++ R
  | [], W => ⟨[], (List.append_nil W).symm⟩
  | m :: f, W => by
    rw [addW_cons]
    by_cases z : m.2.2 ∈ W.map (·.1)
    · rw [if_pos z]
      exact addW_pre w f W
    · rw [if_neg z]
      obtain ⟨R, e⟩ := addW_pre w f (W ++ [(m.2.2, put m.1 m.2.1 w)])
      exact ⟨(m.2.2, put m.1 m.2.1 w) :: R, by rw [e, List.append_assoc]; rfl⟩
theorem addW_snoc (w : List Nat × List Nat) (W : WyL) (f : List Mo) (m : Mo) : addW w W (f ++ [m]) = if m.2.2 ∈ (addW w W f).map (·.1) then addW w W f else addW w W f ++ [(m.2.2, put m.1 m.2.1 w)] := by
  unfold addW
  rw [List.foldl_append]
  rfl
def wlen (w : List Nat × List Nat) : Nat := w.1.length + w.2.length
theorem wput_len (t : Bool) (l : Nat) (w : List Nat × List Nat) : wlen (put t l w) = wlen w + 1 := by
  cases t <;> simp [wlen, put] <;> omega
theorem addW_short {w : List Nat × List Nat} {n : Nat} (hw : wlen w ≤ n) : ∀ (f : List Mo) (W : WyL), (∀ q ∈ W, wlen q.2 ≤ n + 1) → ∀ q ∈ addW w W f, wlen q.2 ≤ n + 1
  | [], W, h => h
  | m :: f, W, h => by
    rw [addW_cons]
    refine addW_short hw f _ fun q hq => ?_
    by_cases z : m.2.2 ∈ W.map (·.1)
    · rw [if_pos z] at hq
      exact h q hq
    · rw [if_neg z] at hq
      rcases List.mem_append.mp hq with a | a
      · exact h q a
      · rw [List.mem_singleton.mp a]
        show wlen (put _ _ _) ≤ _
        rw [wput_len]
        omega
theorem way_one {W : WyL} (nd : (W.map (·.1)).Nodup) {p : Pl} {w v : List Nat × List Nat} (h1 : (p, w) ∈ W) (h2 : (p, v) ∈ W) : w = v := by
  induction W with
  | nil => exact absurd h1 List.not_mem_nil
  | cons q r ih =>
    rw [List.map_cons, List.nodup_cons] at nd
    rcases List.mem_cons.mp h1 with e1 | h1
    · rcases List.mem_cons.mp h2 with e2 | h2
      · rw [← e1] at e2
        exact (congrArg Prod.snd e2).symm
      · exact absurd (List.mem_map.mpr ⟨_, h2, by rw [← e1]⟩) nd.1
    · rcases List.mem_cons.mp h2 with e2 | h2
      · exact absurd (List.mem_map.mpr ⟨_, h1, by rw [← e2]⟩) nd.1
      · exact ih nd.2 h1 h2
/-- the search for ways, step by step -/
def stepW (P S : List Pr) (s : List Pl × WyL) (n : Nat) : List Pl × WyL := match s.1[n]? with
  | none => s
  | some p => (addTo s.1 (moves P S p), addW (wayTo s.2 p) s.2 (moves P S p))
def runW (P S : List Pr) (o : Pl) : Nat → List Pl × WyL
  | 0 => ([o], [(o, ([], []))])
  | n + 1 => stepW P S (runW P S o n) n
theorem run_stay {P S : List Pr} {o : Pl} {n : Nat} (h : n = (runW P S o n).1.length) : ∀ k, runW P S o (n + k) = runW P S o n
  | 0 => rfl
  | k + 1 => by
    show stepW P S (runW P S o (n + k)) (n + k) = _
    rw [run_stay h k]
    unfold stepW
    rw [List.getElem?_eq_none (by omega)]
/-- the ways that the search keeps at last -/
def waysW (P S : List Pr) (o : Pl) : WyL := (runW P S o 600).2
/-- a dict with a way to each place -/
def WysD (K : PySem.W.Frag) (ω : World) (P S : List Pr) (o : Pl) (R : List Pl) (W : WyL) (H : Hp) (d : Addr) : Prop := (∃ as ks, H d = some (DX ω d as ks) ∧ KyA K H as ks ∧ Paired (KW H) ks W) ∧ Wys P S o R W ∧ (∀ q ∈ W, wlen q.2 ≤ 600) ∧ W = waysW P S o
/-- .. read, locked or not -/
def AllR (K : PySem.W.Frag) (ω : World) (P S : List Pr) (Q : List Pl) (H : Hp) (d : Addr) : Prop := ∃ as kvs, Rd H d (DX ω d as kvs) ∧ KyA K H as kvs ∧ Paired (MvD K P S H) kvs Q
theorem AllM.rd {P S : List Pr} {Q : List Pl} {H : Hp} {d : Addr} (h : AllM K ω P S Q H d) : AllR K ω P S Q H d := by
  obtain ⟨as, ks, h1, h2⟩ := h
  exact ⟨as, ks, .inl h1, h2⟩
theorem rd_same {H H' : Hp} {d : Addr} {o : HO} (h : Rd H d o) (s : Same H H') : Rd H' d o := by
  rcases h with h | ⟨od, h⟩
  · exact .inl (s _ _ h)
  · exact .inr ⟨od, s _ _ h⟩
def spWays (K : PySem.W.Frag) (ω : World) : Sp := fun vs H Q _ => ∃ (d b : Addr) (P S : List Pr) (Qs : List Pl) (o : Pl), vs = [.ref d, .ref b] ∧ AllR K ω P S Qs H d ∧ Bfs P S .start Qs Qs.length ∧ PlT K H b o ∧ o ∈ Qs ∧ Qs.length ≤ 542 ∧ PrOk P ∧ PrOk S ∧
  ∀ (wd : Addr) (R : List Pl) (W : WyL) (H' : Hp), Same H H' → H wd = none → Bfs P S o R R.length → WysD K ω P S o R W H' wd → Q (.ref wd) H'
/-- what the search for ways keeps -/
structure WyS (K : PySem.W.Frag) (ω : World) (P S : List Pr) (o : Pl) (wd qu : Addr) (H0 : Hp) (R : List Pl) (W : WyL) (n : Nat) (H : Hp) : Prop where
  b : Bfs P S o R n
  wy : Wys P S o R W
  wd_ : ∃ ts ks, H wd = some (DX ω wd ts ks) ∧ KyA K H ts ks ∧ Paired (KW H) ks W
  qu_ : ∃ as, H qu = some (.lst (as.map V.ref)) ∧ Paired (PlT K H) as R
  sh : ∀ q ∈ W, wlen q.2 ≤ n
  run : runW P S o n = (R, W)
  sm : Same H0 H
section
variable {P : Program} {w : World} {K : PySem.W.Frag} {mg : Str → Option Value} {base : Heap} {aS aE aV : Addr}
theorem ok_ways_from {f : Addr} {fd : FuncData} (F : Fun K "ways_from" "ways_from" s_ways_from f fd) (T : Tm mg aS aE aV) (D_with_label : Df P w K mg base 1 "with_label" spLabel) : FnOk P w K mg base CX0 2 f fd ["moves", "place"] (spWays K w) := by
  refine F.ok sc_ways_from (fun vs H Q E h => ?_) (fun cdv A outer s H vs Q E hr h => ?_)
  · obtain ⟨d, b, P, S, Qs, o, rfl, _⟩ := h
    rfl
  · obtain ⟨d, b0, P1, S1, Qs, o, rfl, ⟨vs, kvs, hd, kyv, pk⟩, bf0, hb0, ho, few, okP, okS, q⟩ := h
    refine ⟨_, (pss_cons (ps_set (i := 2) sc_ways_from.nd rfl (.inl rfl) (pe_dispY (w := w) (K := K) rfl rfl (hu_of hr) (pps_cons (pv 1) (pe_tup (pa_cons pe_str (pa_cons pe_str pa_nil))) pps_nil)))
      (pss_cons (ps_set (i := 3) sc_ways_from.nd rfl (.inl rfl) (pe_lst (pa_cons (pv 1) pa_nil)))
      (pss_cons (ps_set (i := 4) sc_ways_from.nd rfl (.inl rfl) pe_int)
      (pss_cons (ps_while PassesOwn.never (pt_cmpR op_lt (pv 4) (pe_callB (call_len_seqK (K := K) rfl) (by rfl) T.len (by decide +kernel) (pa_cons (pv 3) pa_nil)) (nomark _))
        (pss_cons (ps_set (i := 5) sc_ways_from.nd rfl (.inl rfl) (pe_ix (ix_listK (K := K) rfl) (pv 3) (pv 4) (fun _ _ => rfl)))
        (pss_cons (ps_for PassesOwn.never rfl (pi_list (pe_dgetY (w := w) (K := K) rfl rfl (hu_of hr) (pv 0) (pv 5) (fun _ _ => rfl))) (pg_tup (by rfl) (pgs_cons (pg_name (i := 6) sc_ways_from.nd rfl (.inl rfl)) (pgs_cons (pg_name (i := 7) sc_ways_from.nd rfl (.inl rfl)) (pgs_cons (pg_name (i := 8) sc_ways_from.nd rfl (.inl rfl)) pgs_nil))))
          (pss_one (ps_if (pt_cmp (pc_dnotinY (w := w) (K := K) rfl rfl (hu_of hr) (pv 8) (pv 2)))
            (pss_cons (ps_dputY (w := w) (K := K) rfl rfl (hu_of hr) (pv 2) (pv 8) (pe_c D_with_label hr (by decide) (by rfl) (pa_cons (pe_dgetY (w := w) (K := K) rfl rfl (hu_of hr) (pv 2) (pv 5) (fun _ _ => rfl)) (pa_cons (pv 6) (pa_cons (pv 7) pa_nil)))) rfl)
            (pss_one (ps_expr (pe_bmK (K := K) rfl PySem.F.plainAttrs_list PySem.F.slot_list_append PySem.F.type_list_append mt_append (pv 3) (pa_cons (pv 8) pa_nil)))))
            pss_nil)))
        (pss_one (ps_aug (i := 4) sc_ways_from.nd rfl (.inl rfl) pe_int ip_add)))))
      (pss_one (ps_ret (pv 2))))))), ?_⟩
    have kK := keysM pk
    have ndK : (kvs.map (·.1)).Nodup := by
      rw [kK]
      exact map_nd bf0.nd
    refine fun wd nwd => ⟨_, rfl, by show 2 ≤ sizeLine; decide, fun c nc => ⟨?_, plK o, b0, .ref c, rfl, ?_, ?_⟩⟩
    · rw [upd_ne (ne_of_none (show upd H wd (DX w wd [] []) wd = _ from upd_same) nc)]
      exact upd_same
    · exact sq_same hb0 (same_put (s := same_put (s := Same.refl H) nwd) nc)
    have wdc : wd ≠ c := ne_of_none (show upd H wd (DX w wd [] []) wd = some (DX w wd [] []) from upd_same) nc
    have ncH : H c = none := same_none (same_put (s := Same.refl H) (o := DX w wd [] []) nwd) nc
    have sA : Same H (upd (upd (upd H wd (DX w wd [] [])) c (.tup [.str "", .str ""])) wd (DX w wd [b0] [(plK o, V.ref c)])) := fun x u e => by
      rw [upd_ne (ne_of_none e nwd), upd_ne (ne_of_none e ncH), upd_ne (ne_of_none e nwd)]
      exact e
    have hwd : upd (upd (upd H wd (DX w wd [] [])) c (.tup [.str "", .str ""])) wd (DX w wd [b0] [(plK o, V.ref c)]) wd = some (DX w wd [b0] [(plK o, V.ref c)]) := upd_same
    have hc : WyT (upd (upd (upd H wd (DX w wd [] [])) c (.tup [.str "", .str ""])) wd (DX w wd [b0] [(plK o, V.ref c)])) c ([], []) := by
      show upd _ _ _ c = _
      rw [upd_ne (Ne.symm wdc)]
      exact upd_same
    show Ends.nx _ _ (upd (upd (upd H wd (DX w wd [] [])) c (.tup [.str "", .str ""])) wd (DX w wd [b0] [(plK o, V.ref c)]))
    generalize upd (upd (upd H wd (DX w wd [] [])) c (.tup [.str "", .str ""])) wd (DX w wd [b0] [(plK o, V.ref c)]) = H1 at sA hwd hc ⊢
    refine ⟨_, rfl, by show 1 ≤ sizeLine; decide, fun qu nqu => ?_⟩
    have sq := same_put (s := sA) (o := .lst [V.ref b0]) nqu
    have sq1 := same_put (s := Same.refl H1) (o := .lst [V.ref b0]) nqu
    have nquH : H qu = none := same_none sA nqu
    have wdqu : wd ≠ qu := ne_of_none hwd nqu
    have R0 : WyS K w P1 S1 o wd qu H [o] [(o, ([], []))] 0 (upd H1 qu (.lst [V.ref b0])) := ⟨Bfs.start P1 S1 o, Wys.start P1 S1 o, ⟨_, _, sq1 _ _ hwd, .cons (sq_same hb0 sq) .nil, .cons ⟨rfl, c, rfl, sq1 _ _ hc⟩ .nil⟩, ⟨[b0], upd_same, .cons (sq_same hb0 sq) .nil⟩, fun q h => by rw [List.mem_singleton.mp h]; exact Nat.le_refl _, rfl, sq⟩
    show Ends.nx _ _ (upd H1 qu (.lst [V.ref b0]))
    generalize upd H1 qu (.lst [V.ref b0]) = H2 at R0 ⊢
    clear sq sq1 nqu hc hwd sA ncH wdc nc
    have kept : ∀ {H' : Hp}, Same H H' → Rd H' d (DX w d vs kvs) := fun s => rd_same hd s
    refine ⟨fun m σ H3 => ∃ (R : List Pl) (W : WyL) (n : Nat), m = 600 - n ∧ (∃ v5 v6 v7 v8 : Option V, σ = [some (.ref d), some (.ref b0), some (.ref wd), some (.ref qu), some (.int ((n : Nat) : Int)), v5, v6, v7, v8]) ∧ WyS K w P1 S1 o wd qu H R W n H3, ⟨_, [o], _, 0, rfl, ⟨_, _, _, _, rfl⟩, R0⟩, ?_⟩
    rintro m σ H3 ⟨R, W, n, rfl, ⟨v5, v6, v7, v8, rfl⟩, S⟩
    obtain ⟨bf, wy, ⟨ts, ks, hwd, kyw, pw⟩, ⟨as, hqu, pa⟩, sh, run, sm⟩ := id S
    have la := prd_len pa
    have RQ : ∀ p ∈ R, p ∈ Qs := fun p hp => by
      obtain ⟨v, k⟩ := bf.reach p hp
      obtain ⟨v0, k0⟩ := bf0.reach o ho
      exact (bf0.all p).mpr ⟨_, k0.trans k⟩
    have lR : R.length ≤ 542 := Nat.le_trans (nd_le bf.nd RQ) few
    refine ⟨_, rfl, _, rfl, qu, _, rfl, .inl (SqL.of hqu), _, _, rfl, rfl, _, rfl, ?_⟩
    rw [List.length_map, la]
    by_cases hn : n < R.length
    · rw [decide_eq_true (show ((n : Nat) : Int) < ((R.length : Nat) : Int) by omega)]
      refine iteT ⟨fun σ' H' => ∃ m', m' < 600 - n ∧ ∃ (R : List Pl) (W : WyL) (n : Nat), m' = 600 - n ∧ (∃ v5 v6 v7 v8 : Option V, σ' = [some (.ref d), some (.ref b0), some (.ref wd), some (.ref qu), some (.int ((n : Nat) : Int)), v5, v6, v7, v8]) ∧ WyS K w P1 S1 o wd qu H R W n H', fun _ _ z => z, ?_⟩
      obtain ⟨p, hp⟩ : ∃ p, R[n]? = some p := ⟨R[n], List.getElem?_eq_getElem hn⟩
      obtain ⟨b, hb, ebp⟩ : ∃ b, as[n]? = some b ∧ PlT K H3 b p := by
        have h1 : n < as.length := by omega
        obtain ⟨y, e1, e2⟩ := prd_at pa (List.getElem?_eq_getElem h1)
        rw [hp] at e1
        cases e1
        exact ⟨_, List.getElem?_eq_getElem h1, e2⟩
      have hpm : p ∈ R := List.mem_of_getElem? hp
      obtain ⟨j, hj, ej⟩ := List.getElem_of_mem (RQ p hpm)
      have hjk : j < kvs.length := by rw [prd_len pk]; exact hj
      obtain ⟨p2, e2, ek, ml⟩ := prd_at pk (List.getElem?_eq_getElem hjk)
      rw [List.getElem?_eq_getElem hj, ej] at e2
      cases e2
      have hval : valV kvs (plK p) = some kvs[j].2 := by
        rw [← ek]
        exact val_at ndK (List.getElem?_eq_getElem hjk)
      have hbx : (as.map V.ref)[n]? = some (.ref b) := by rw [List.getElem?_map, hb]; rfl
      -- its way
      obtain ⟨wn, hwn, ewn⟩ : ∃ wn, W[n]? = some (p, wn) ∧ (p, wn) ∈ W := by
        have e := wy.keys
        have e2 := hp
        rw [← e, List.getElem?_map] at e2
        cases hW : W[n]? with
        | none =>
          rw [hW] at e2
          cases e2
        | some z =>
          rw [hW] at e2
          have e3 : z.1 = p := Option.some.inj e2
          refine ⟨z.2, by rw [← e3], ?_⟩
          rw [← e3]
          exact List.mem_of_getElem? hW
      have shn := sh _ ewn
      refine ⟨_, rfl, _, rfl, qu, _, _, _, rfl, rfl, SqL.of hqu, atI_nat (j := n) hbx, ?_⟩
      obtain ⟨d0, xs, ev, hxs, prx⟩ := ml
      have hxs3 := sm _ _ hxs
      have prx3 : Paired (MoT K H3) xs (moves P1 S1 p) := prd_imp prx fun _ _ r => r.same sm
      have lx := prd_len prx3
      have l30 := moves_len okP okS p
      have d0qu : d0 ≠ qu := ne_of_none hxs nquH
      refine ⟨_, rfl, _, rfl, d, _, rfl, ⟨vs, kvs, plK p, b, kept sm, ky_same kyv sm, rfl, ebp, hval.symm⟩, d0, ev, ⟨_, SqL.of hxs3⟩, ?_⟩
      have bfs := bf.step hp
      have fewW : ∀ i, (addW wn W ((moves P1 S1 p).take i)).length ≤ 542 := fun i => by
        have e2 : addW wn W (moves P1 S1 p) = addW wn (addW wn W ((moves P1 S1 p).take i)) ((moves P1 S1 p).drop i) := by
          show List.foldl _ _ _ = List.foldl _ (List.foldl _ _ _) _
          rw [← List.foldl_append, List.take_append_drop]
        obtain ⟨R1, e1⟩ := addW_pre wn ((moves P1 S1 p).drop i) (addW wn W ((moves P1 S1 p).take i))
        have e3 := addW_keys wn (moves P1 S1 p) W
        rw [wy.keys] at e3
        have l1 : (addTo R (moves P1 S1 p)).length ≤ 542 := Nat.le_trans (nd_le bfs.nd fun x hx => by
          obtain ⟨v, k⟩ := bfs.reach x hx
          obtain ⟨v0, k0⟩ := bf0.reach o ho
          exact (bf0.all x).mpr ⟨_, k0.trans k⟩) few
        have l2 := congrArg List.length e3
        rw [List.length_map, e2, e1, List.length_append] at l2
        omega
      refine for_it (walk_list (K := K) (a := d0) (xs := xs)) (fun i σ H4 => ∃ (as' ts' : List Addr) (ks' : List (List Key × V)), (∃ v6 v7 v8 : Option V, σ = [some (.ref d), some (.ref b0), some (.ref wd), some (.ref qu), some (.int ((n : Nat) : Int)), some (.ref b), v6, v7, v8]) ∧
        H4 wd = some (DX w wd ts' ks') ∧ KyA K H4 ts' ks' ∧ Paired (KW H4) ks' (addW wn W ((moves P1 S1 p).take i)) ∧ H4 qu = some (.lst (as'.map V.ref)) ∧ Paired (PlT K H4) as' ((addW wn W ((moves P1 S1 p).take i)).map (·.1)) ∧ But2 wd qu H3 H4) ?_ ?_ ?_ ?_
      · exact ⟨as, ts, ks, ⟨_, _, _, rfl⟩, hwd, kyw, pw, hqu, (by show Paired (PlT K H3) as (W.map (·.1)); rw [wy.keys]; exact pa), fun _ _ e _ _ => e⟩
      · rintro i σ H4 hi ⟨as', ts', ks', _, _, _, _, _, _, u⟩
        exact SqL.of (u _ _ hxs3 (ne_of_none hxs nwd) d0qu)
      · rintro i y σ H40 H4 hi ⟨as', ts', ks', ⟨v6, v7, v8, rfl⟩, hwd4, kyw4, pw4, hqu4, pa4, u⟩ ⟨rfl, hy⟩
        obtain ⟨m, hm, mo⟩ := prd_at prx3 hy
        obtain ⟨c, b4, rfl, hc4, hb4⟩ := mo.but u hwd hqu
        have hb4p : PlT K H4 b p := u.sq ebp hwd hqu
        have kW := keysW pw4
        have lks := prd_len pw4
        have fW := fewW i
        have et : (moves P1 S1 p).take (i + 1) = (moves P1 S1 p).take i ++ [m] := by rw [List.take_add_one, hm]; rfl
        refine ⟨c, _, rfl, .inl (.inl hc4), rfl, _, _, rfl, _, _, rfl, _, _, rfl, rfl, ?_⟩
        refine ⟨_, rfl, _, rfl, wd, _, rfl, DGetY.t (k := plK m.2.2) hwd4 kyw4 hb4, _, rfl, ?_⟩
        rw [keysP_is kW, et, addW_snoc]
        have hWn : (addW wn W ((moves P1 S1 p).take i))[n]? = some (p, wn) := by
          obtain ⟨R1, e1⟩ := addW_pre wn ((moves P1 S1 p).take i) W
          rw [e1, List.getElem?_append_left (List.getElem?_eq_some_iff.mp hwn).1]
          exact hwn
        have ndW : ((addW wn W ((moves P1 S1 p).take i)).map (·.1)).Nodup := by
          rw [addW_keys, wy.keys]
          exact addTo_nd _ _ bf.nd
        generalize addW wn W ((moves P1 S1 p).take i) = W' at pw4 pa4 kW lks fW hWn ndW ⊢
        have la4 := prd_len pa4
        rw [List.length_map] at la4
        by_cases hin : m.2.2 ∈ W'.map (·.1)
        · rw [decide_eq_true hin, if_pos hin]
          exact iteF ⟨as', ts', ks', ⟨_, _, _, rfl⟩, hwd4, kyw4, pw4, hqu4, pa4, u⟩
        · rw [decide_eq_false hin, if_neg hin]
          have hn4 : n < ks'.length := by
            rw [lks]
            exact (List.getElem?_eq_some_iff.mp hWn).1
          obtain ⟨y, e1, e2, cw, e3, hcw⟩ := prd_at pw4 (List.getElem?_eq_getElem hn4)
          rw [hWn] at e1
          cases e1
          have hv4 : valV ks' (plK p) = some (.ref cw) := by
            have := val_at (kvs := ks') (i := n) (k := plK p) (v := .ref cw) (by rw [kW]; exact map_nd ndW) (by rw [List.getElem?_eq_getElem hn4]; exact congrArg some (Prod.ext e2 e3))
            exact this
          have lw1 : wn.1.length ≤ 2000 := by
            have : wn.1.length + wn.2.length ≤ n := shn
            omega
          have lw2 : wn.2.length ≤ 2000 := by
            have : wn.1.length + wn.2.length ≤ n := shn
            omega
          refine iteT ⟨_, rfl, _, rfl, wd, _, rfl, (by rw [← hv4]; exact DGetY.t (k := plK p) hwd4 kyw4 hb4p), _, rfl, _, rfl, cw, wn, m.1, m.2.1, rfl, hcw, lw1, lw2, fun c5 H5 s5 hc5 => ?_⟩
          have hwd5 := s5 _ _ hwd4
          have hqu5 := s5 _ _ hqu4
          refine ⟨_, rfl, _, rfl, wd, _, rfl, DPutY.t (k := plK m.2.2) hwd5 (ky_same kyw4 s5) (sq_same hb4 s5) (keysP_none kW hin) (by rw [lks, sizeLine_eq]; omega), ?_⟩
          have hqu6 : upd H5 wd (DX w wd (ts' ++ [b4]) (ks' ++ [(plK m.2.2, V.ref c5)])) qu = some (.lst (as'.map V.ref)) := by rw [upd_ne (Ne.symm wdqu)]; exact hqu5
          refine ⟨_, rfl, .inl ⟨rfl, _, SqL.of hqu6⟩, _, rfl, qu, _, _, rfl, rfl, hqu6, by rw [List.length_map, sizeLine_eq]; omega, ?_⟩
          have up : ∀ {x : Addr} {xs : List V}, H5 x = some (.tup xs) → upd (upd H5 wd (DX w wd (ts' ++ [b4]) (ks' ++ [(plK m.2.2, V.ref c5)]))) qu (.lst (as'.map V.ref ++ [.ref b4])) x = some (.tup xs) := fun {x xs} h => by
            rw [upd_ne (ne_of h hqu5 (fun z => nomatch z)), upd_ne (ne_of h hwd5 (fun z => nomatch z))]
            exact h
          have upS : ∀ {x : Addr} {xs : List V}, SqT K H4 x xs → SqT K (upd (upd H5 wd (DX w wd (ts' ++ [b4]) (ks' ++ [(plK m.2.2, V.ref c5)]))) qu (.lst (as'.map V.ref ++ [.ref b4]))) x xs := fun {x xs} h => sq_lst (sq_dx (sq_same h s5) hwd5) hqu6
          refine ⟨as' ++ [b4], ts' ++ [b4], ks' ++ [(plK m.2.2, V.ref c5)], ⟨_, _, _, rfl⟩, ?_, (prd_imp kyw4 fun _ _ z => upS z).snoc (upS hb4), ?_, ?_, ?_, ?_⟩
          · rw [upd_ne wdqu]
            exact upd_same
          · exact (prd_imp pw4 fun _ _ ⟨h1, c, h2, h3⟩ => ⟨h1, c, h2, up (s5 _ _ h3)⟩).snoc ⟨rfl, c5, rfl, up hc5⟩
          · rw [upd_same, List.map_append]
            rfl
          · rw [List.map_append]
            exact (prd_imp pa4 fun _ _ h => upS h).snoc (upS hb4)
          · intro x u' e n1 n2
            rw [upd_ne n2, upd_ne n1]
            exact s5 _ _ (u _ _ e n1 n2)
      rintro σ H4 ⟨as', ts', ks', ⟨v6, v7, v8, rfl⟩, hwd4, kyw4, pw4, hqu4, pa4, u⟩
      rw [List.take_of_length_le (by omega)] at pw4 pa4
      have hpu : ((n : Nat) : Int) + 1 = ((n + 1 : Nat) : Int) := by omega
      refine ⟨_, rfl, _, _, rfl, rfl, ?_⟩
      refine ⟨600 - (n + 1), by omega, addTo R (moves P1 S1 p), addW wn W (moves P1 S1 p), n + 1, rfl, ⟨_, _, _, _, by rw [← hpu]; rfl⟩, bfs, wy.step ewn, ⟨ts', ks', hwd4, kyw4, pw4⟩, ⟨as', hqu4, by rw [addW_keys, wy.keys] at pa4; exact pa4⟩, ?_, ?_, ?_⟩
      · exact addW_short shn _ _ fun z hz => by have := sh z hz; omega
      · have ew : wayTo W p = wn := way_one (by rw [wy.keys]; exact bf.nd) (wayTo_has wy hpm).1 ewn
        show stepW P1 S1 (runW P1 S1 o n) n = _
        rw [run]
        unfold stepW
        show (match R[n]? with | none => (R, W) | some p => (addTo R (moves P1 S1 p), addW (wayTo W p) W (moves P1 S1 p))) = _
        rw [hp, ← ew]
      · intro x u' e
        exact u _ _ (sm _ _ e) (ne_of_none e nwd) (ne_of_none e nquH)
    · rw [decide_eq_false (show ¬ ((n : Nat) : Int) < ((R.length : Nat) : Int) by omega)]
      have en : n = R.length := by
        have := bf.le
        omega
      subst en
      refine iteF ⟨_, rfl, q wd R W H3 sm nwd bf ⟨⟨ts, ks, hwd, kyw, pw⟩, wy, fun z hz => by have := sh z hz; omega, ?_⟩⟩
      have e1 : R.length = (runW P1 S1 o R.length).1.length := by rw [run]
      have e2 := run_stay e1 (600 - R.length)
      rw [show R.length + (600 - R.length) = 600 by omega, run] at e2
      unfold waysW
      rw [e2]
end
end V8
set_option Elab.async false
set_option linter.all false
set_option maxRecDepth 100000
set_option maxHeartbeats 8000000
set_option pp.maxSteps 900
/-! Meetings made; a meeting ended; one that is not alike. -/
namespace V8
open PySem PySem.Spec PyProof.Rows L2 MZ
variable {K : PySem.W.Frag} {ω : World}
abbrev s_Meetings_init : Stmt := inClass (topS 43) 0
theorem sc_Meetings_init : FnScope ["self", "first", "second"] ["self", "first", "second"] (defScope s_Meetings_init) := ⟨rfl, rfl, rfl, by decide +kernel, rfl, by decide +kernel, by decide +kernel⟩
abbrev s_ended : Stmt := topS 51
theorem sc_ended : FnScope ["meetings", "way", "place", "one", "other"] ["meetings", "way", "place"] (defScope s_ended) := ⟨rfl, rfl, rfl, by decide +kernel, rfl, by decide +kernel, by decide +kernel⟩
abbrev s_unlike_meeting : Stmt := topS 53
theorem sc_unlike_meeting : FnScope ["meetings", "place", "taker", "label", "target", "way", "lead", "known", "found"] ["meetings"] (defScope s_unlike_meeting) := ⟨rfl, rfl, rfl, by decide +kernel, rfl, by decide +kernel, by decide +kernel⟩
/-- all but instances stays -/
def NI (H H' : Hp) : Prop := ∀ b o, H b = some o → (∀ C dx fs, o ≠ .ins C dx fs) → H' b = some o
theorem NI.ofSame {H H' : Hp} (s : Same H H') : NI H H' := fun b o e _ => s b o e
theorem NI.trans {H H1 H2 : Hp} (a : NI H H1) (b : NI H1 H2) : NI H H2 := fun c o e n => b c o (a c o e n) n
theorem NI.put {H : Hp} {x C dx : Addr} {fs : List (Str × V)} {o : HO} (h : H x = some (.ins C dx fs)) : NI H (upd H x o) := fun b u e n => by
  rw [upd_ne fun z => ?_]
  · exact e
  · rw [z, h] at e
    exact n _ _ _ (Option.some.inj e).symm
theorem sq_ni {H H' : Hp} {b : Addr} {xs : List V} (h : SqT K H b xs) (s : NI H H') : SqT K H' b xs := sq_mono h fun o eo z => s _ _ eo fun C dx fs e => by
  rw [e] at z
  rcases z with z | ⟨_, z⟩ <;> cases z
theorem MoT.ni {H H' : Hp} {v : V} {m : Mo} (h : MoT K H v m) (s : NI H H') : MoT K H' v m := by
  obtain ⟨c, b, e, h1, h2⟩ := h
  exact ⟨c, b, e, s _ _ h1 (fun _ _ _ z => nomatch z), sq_ni h2 s⟩
theorem MoL.ni {H H' : Hp} {v : V} {l : List Mo} (h : MoL K H v l) (s : NI H H') : MoL K H' v l := by
  obtain ⟨d, xs, e, h1, h2⟩ := h
  exact ⟨d, xs, e, s _ _ h1 (fun _ _ _ z => nomatch z), prd_imp h2 fun _ _ r => r.ni s⟩
theorem AllM.ni {P S : List Pr} {Q : List Pl} {H H' : Hp} {d : Addr} (h : AllM K ω P S Q H d) (s : NI H H') : AllM K ω P S Q H' d := by
  obtain ⟨as, ks, h1, ky, h2⟩ := h
  exact ⟨as, ks, s _ _ h1 (fun _ _ _ z => nomatch z), prd_imp ky fun _ _ z => sq_ni z s, prd_imp h2 fun _ _ r => ⟨r.1, r.2.ni s⟩⟩
theorem LivD.ni {P S : List Pr} {Q L : List Pl} {H H' : Hp} {d : Addr} (h : LivD K ω P S Q L H d) (s : NI H H') : LivD K ω P S Q L H' d := by
  obtain ⟨⟨as, ks, h1, ky, h2⟩, b, c⟩ := h
  exact ⟨⟨as, ks, s _ _ h1 (fun _ _ _ z => nomatch z), prd_imp ky fun _ _ z => sq_ni z s, h2⟩, b, c⟩
theorem WysD.ni {P S : List Pr} {o : Pl} {R : List Pl} {W : WyL} {H H' : Hp} {d : Addr} (h : WysD K ω P S o R W H d) (s : NI H H') : WysD K ω P S o R W H' d := by
  obtain ⟨⟨as, ks, h1, ky, h2⟩, b, c⟩ := h
  exact ⟨⟨as, ks, s _ _ h1 (fun _ _ _ z => nomatch z), prd_imp ky fun _ _ z => sq_ni z s, prd_imp h2 fun _ _ ⟨e, c, e2, h3⟩ => ⟨e, c, e2, s _ _ h3 (fun _ _ _ z => nomatch z)⟩⟩, b, c⟩
theorem PrL.ni {H H' : Hp} {a : Addr} {P : List Pr} (h : PrL H a P) (s : NI H H') : PrL H' a P := by
  obtain ⟨xs, h1, h2⟩ := h
  exact ⟨xs, s _ _ h1 (fun _ _ _ z => nomatch z), prd_imp h2 fun _ _ ⟨c, e, h3⟩ => ⟨c, e, s _ _ h3 (fun _ _ _ z => nomatch z)⟩⟩
theorem CnH.ni {aS aE aV : Addr} {H H' : Hp} (c : CnH K aS aE aV H) (s : NI H H') : CnH K aS aE aV H' := ⟨sq_ni c.st s, sq_ni c.en s, sq_ni c.ev s⟩
def fM (mv ld wd : Addr) : List (Str × V) := putF "ways" (.ref wd) (putF "living" (.ref ld) (putF "moves" (.ref mv) []))
theorem fM_m (mv ld wd : Addr) : (fM mv ld wd).lookup ("moves" : Str) = some (.ref mv) := by rfl
theorem fM_l (mv ld wd : Addr) : (fM mv ld wd).lookup ("living" : Str) = some (.ref ld) := by rfl
theorem fM_w (mv ld wd : Addr) : (fM mv ld wd).lookup ("ways" : Str) = some (.ref wd) := by rfl
/-- meetings, as an instance -/
structure MeeA (K : PySem.W.Frag) (ω : World) (CM : Addr) (P S : List Pr) (Qs L R : List Pl) (W : WyL) (H : Hp) (x : Addr) : Prop where
  at_ : ∃ dx mv ld wd, H x = some (.ins CM dx (fM mv ld wd)) ∧ AllM K ω P S Qs H mv ∧ LivD K ω P S Qs L H ld ∧ WysD K ω P S .start R W H wd ∧ mv ≠ ld ∧ mv ≠ wd
  b : Bfs P S .start Qs Qs.length
  r : Bfs P S .start R R.length
  few : Qs.length ≤ 542
  eqQ : Qs = placesQ P S
structure Tn (K : PySem.W.Frag) (mg : Str → Option Value) (aS aE aV CM : Addr) : Prop extends Tm mg aS aE aV where
  cl : Cls K CM
  n1 : NoAttr K CM "moves"
  n2 : NoAttr K CM "living"
  n3 : NoAttr K CM "ways"
def spMee (K : PySem.W.Frag) (ω : World) (aS aE aV CM : Addr) : Sp := fun vs H Q _ => ∃ (x dx f1 f2 : Addr) (P S : List Pr), vs = [.ref x, .ref f1, .ref f2] ∧ H x = some (.ins CM dx []) ∧ PrL H f1 P ∧ PrL H f2 S ∧ CnH K aS aE aV H ∧ PrOk P ∧ PrOk S ∧ (∀ q ∈ P, q.1 ≠ []) ∧
  ∀ (Qs L R : List Pl) (W : WyL) (H' : Hp), (∀ b o, H b = some o → b ≠ x → H' b = some o) → MeeA K ω CM P S Qs L R W H' x → Q .non H'
section
variable {P : Program} {w : World} {K : PySem.W.Frag} {mg : Str → Option Value} {base : Heap} {aS aE aV CM : Addr}
theorem ok_meet {f : Addr} {fd : FuncData} (F : Fun K "__init__" "Meetings.__init__" s_Meetings_init f fd) (T : Tn K mg aS aE aV CM) (D_all_moves : Df P w K mg base 4 "all_moves" (spAll K w aS aE aV)) (D_all_living : Df P w K mg base 1 "all_living" (spLiving K w aS aE aV)) (D_ways_from : Df P w K mg base 2 "ways_from" (spWays K w)) :
    FnOk P w K mg base CX0 5 f fd ["self", "first", "second"] (spMee K w aS aE aV CM) := by
  refine F.ok sc_Meetings_init (fun vs H Q E h => ?_) (fun cdv A outer s H vs Q E hr h => ?_)
  · obtain ⟨x, dx, f1, f2, P, S, rfl, _⟩ := h
    rfl
  · obtain ⟨x, dx, f1, f2, P1, S1, rfl, hx, hP, hS, cn, okP, okS, nP, q⟩ := h
    refine ⟨_, (pss_cons (ps_fld (pv 0) (pe_c D_all_moves hr (by decide) (by rfl) (pa_cons (pv 1) (pa_cons (pv 2) pa_nil))) rfl)
      (pss_cons (ps_fld (pv 0) (pe_c D_all_living hr (by decide) (by rfl) (pa_cons (pe_fldK (K := K) rfl (pv 0) rfl) pa_nil)) rfl)
      (pss_one (ps_fld (pv 0) (pe_c D_ways_from hr (by decide) (by rfl) (pa_cons (pe_fldK (K := K) rfl (pv 0) rfl) (pa_cons (pe_gv T.gSTART (by rfl)) pa_nil))) rfl)))), ?_⟩
    refine ⟨_, rfl, _, rfl, f1, f2, P1, S1, rfl, hP, hS, cn, okP, okS, nP, fun mv Qs H1 s1 nmv bf eqQ am => ?_⟩
    have hx1 := s1 _ _ hx
    refine ⟨_, rfl, x, CM, dx, _, rfl, hx1, T.cl, T.n1, by show 0 < 1000; decide, ?_⟩
    have i2 : NI H1 (upd H1 x (.ins CM dx (putF "moves" (.ref mv) []))) := NI.put hx1
    have hx2 : upd H1 x (.ins CM dx (putF "moves" (.ref mv) [])) x = some (.ins CM dx (putF "moves" (.ref mv) [])) := upd_same
    have k2 : ∀ b o, H b = some o → b ≠ x → upd H1 x (.ins CM dx (putF "moves" (.ref mv) [])) b = some o := fun b o e n => by
      rw [upd_ne n]
      exact s1 _ _ e
    have am2 := am.ni i2
    have cn2 := (cn.same s1).ni i2
    show Ends.nx _ _ (upd H1 x (.ins CM dx (putF "moves" (.ref mv) [])))
    generalize upd H1 x (.ins CM dx (putF "moves" (.ref mv) [])) = H2 at hx2 k2 am2 cn2 ⊢
    have few : Qs.length ≤ 542 := by
      have := bf.few nP
      have := sum_ok okP
      have := sum_ok okS
      omega
    refine ⟨_, rfl, x, CM, dx, _, V.ref mv, rfl, hx2, T.cl, T.n1, rfl, mv, P1, S1, Qs, rfl, am2, bf, cn2, few, okP, okS, fun ld L H3 s3 nld lv => ?_⟩
    have hx3 := s3 _ _ hx2
    refine ⟨_, rfl, x, CM, dx, _, rfl, hx3, T.cl, T.n2, by show 1 < 1000; decide, ?_⟩
    have i4 : NI H3 (upd H3 x (.ins CM dx (putF "living" (.ref ld) (putF "moves" (.ref mv) [])))) := NI.put hx3
    have hx4 : upd H3 x (.ins CM dx (putF "living" (.ref ld) (putF "moves" (.ref mv) []))) x = some (.ins CM dx (putF "living" (.ref ld) (putF "moves" (.ref mv) []))) := upd_same
    have k4 : ∀ b o, H b = some o → b ≠ x → upd H3 x (.ins CM dx (putF "living" (.ref ld) (putF "moves" (.ref mv) []))) b = some o := fun b o e n => by
      rw [upd_ne n]
      exact s3 _ _ (k2 _ _ e n)
    have am4 := (am2.ni (NI.ofSame s3)).ni i4
    have cn4 := (cn2.same s3).ni i4
    have lv4 := lv.ni i4
    show Ends.nx _ _ (upd H3 x (.ins CM dx (putF "living" (.ref ld) (putF "moves" (.ref mv) []))))
    generalize upd H3 x (.ins CM dx (putF "living" (.ref ld) (putF "moves" (.ref mv) []))) = H4 at hx4 k4 am4 cn4 lv4 ⊢
    refine ⟨_, rfl, x, CM, dx, _, V.ref mv, rfl, hx4, T.cl, T.n1, rfl, mv, aS, P1, S1, Qs, .start, rfl, am4.rd, bf, cn4.st, (bf.all .start).mpr ⟨_, .nil⟩, few, okP, okS, fun wd R W H5 s5 nwd bR wy => ?_⟩
    have hx5 := s5 _ _ hx4
    refine ⟨_, rfl, x, CM, dx, _, rfl, hx5, T.cl, T.n3, by show 2 < 1000; decide, ?_⟩
    have i6 : NI H5 (upd H5 x (.ins CM dx (fM mv ld wd))) := NI.put hx5
    refine q Qs L R W _ (fun b o e n => ?_) ⟨⟨dx, mv, ld, wd, upd_same, (am4.ni (NI.ofSame s5)).ni i6, (lv4.ni (NI.ofSame s5)).ni i6, wy.ni i6, ne_of_none am2.choose_spec.choose_spec.1 nld, ne_of_none am4.choose_spec.choose_spec.1 nwd⟩, bf, bR, few, eqQ⟩
    show upd H5 x _ b = _
    rw [upd_ne n]
    exact s5 _ _ (k4 _ _ e n)
end
end V8
set_option Elab.async false
set_option linter.all false
set_option maxRecDepth 100000
set_option maxHeartbeats 8000000
set_option pp.maxSteps 900
/-! A meeting ended. -/
namespace V8
open PySem PySem.Spec PyProof.Rows L2 MZ
variable {K : PySem.W.Frag} {ω : World}
/-- meetings read: the dict of steps locked or not -/
structure MeeR (K : PySem.W.Frag) (ω : World) (CM : Addr) (P S : List Pr) (Qs L R : List Pl) (W : WyL) (H : Hp) (x : Addr) : Prop where
  at_ : ∃ dx mv ld wd, H x = some (.ins CM dx (fM mv ld wd)) ∧ AllR K ω P S Qs H mv ∧ LivD K ω P S Qs L H ld ∧ WysD K ω P S .start R W H wd
  b : Bfs P S .start Qs Qs.length
  r : Bfs P S .start R R.length
  few : Qs.length ≤ 542
theorem AllR.same {P S : List Pr} {Q : List Pl} {H H' : Hp} {d : Addr} (h : AllR K ω P S Q H d) (s : Same H H') : AllR K ω P S Q H' d := by
  obtain ⟨as, ks, h1, ky, h2⟩ := h
  exact ⟨as, ks, rd_same h1 s, ky_same ky s, prd_imp h2 fun _ _ r => r.up s⟩
theorem MeeR.same {CM : Addr} {P S : List Pr} {Qs L R : List Pl} {W : WyL} {H H' : Hp} {x : Addr} (h : MeeR K ω CM P S Qs L R W H x) (s : Same H H') : MeeR K ω CM P S Qs L R W H' x := by
  obtain ⟨⟨dx, mv, ld, wd, h1, h2, h3, h4⟩, b, c, d⟩ := h
  exact ⟨⟨dx, mv, ld, wd, s _ _ h1, h2.same s, h3.ni (NI.ofSame s), h4.ni (NI.ofSame s)⟩, b, c, d⟩
/-- a way and its end -/
def spEnded (K : PySem.W.Frag) (ω : World) (aS aE aV CM : Addr) : Sp := fun vs H Q _ => ∃ (x c b : Addr) (P S : List Pr) (Qs L R : List Pl) (W : WyL) (w : List Nat × List Nat) (p : Pl), vs = [.ref x, .ref c, .ref b] ∧ MeeR K ω CM P S Qs L R W H x ∧ CnH K aS aE aV H ∧ WyT H c w ∧ wlen w ≤ 700 ∧ PlT K H b p ∧ p ∈ Qs ∧ (∃ v, Way P S p .fin v) ∧ PrOk P ∧ PrOk S ∧
  ∀ (e : Addr) (v : List Nat × List Nat) (H' : Hp), Same H H' → Way P S p .fin v → WyT H' e (w.1 ++ v.1, w.2 ++ v.2) → wlen v ≤ 600 → v = wayTo (waysW P S p) .fin → Q (.ref e) H'
theorem wys_at {P S : List Pr} {o : Pl} {R : List Pl} {W : WyL} {H : Hp} {d : Addr} (h : WysD K ω P S o R W H d) (nd : R.Nodup) {p : Pl} (hp : p ∈ R) : ∃ as ks c, H d = some (DX ω d as ks) ∧ KyA K H as ks ∧ valV ks (plK p) = some (.ref c) ∧ WyT H c (wayTo W p) ∧ Way P S o p (wayTo W p) ∧ wlen (wayTo W p) ≤ 600 := by
  obtain ⟨⟨as, ks, h1, ky, h2⟩, wy, sh, _⟩ := h
  obtain ⟨m, k⟩ := wayTo_has wy hp
  obtain ⟨j, hj, e⟩ := List.getElem_of_mem m
  have hjk : j < ks.length := by rw [prd_len h2]; exact hj
  obtain ⟨y, e1, e2, c, e3, hc⟩ := prd_at h2 (List.getElem?_eq_getElem hjk)
  rw [List.getElem?_eq_getElem hj, e] at e1
  cases e1
  have nk : (ks.map (·.1)).Nodup := by
    rw [keysW h2, wy.keys]
    exact map_nd nd
  exact ⟨as, ks, c, h1, ky, val_at nk (by rw [List.getElem?_eq_getElem hjk]; exact congrArg some (Prod.ext e2 e3)), hc, k, sh _ m⟩
section
variable {P : Program} {w : World} {K : PySem.W.Frag} {mg : Str → Option Value} {base : Heap} {aS aE aV CM : Addr}
theorem ok_ended {f : Addr} {fd : FuncData} (F : Fun K "ended" "ended" s_ended f fd) (T : Tn K mg aS aE aV CM) (D_ways_from : Df P w K mg base 2 "ways_from" (spWays K w)) : FnOk P w K mg base CX0 3 f fd ["meetings", "way", "place"] (spEnded K w aS aE aV CM) := by
  refine F.ok sc_ended (fun vs H Q E h => ?_) (fun cdv A outer s H vs Q E hr h => ?_)
  · obtain ⟨x, c, b, P, S, Qs, L, R, W, y, p, rfl, _⟩ := h
    rfl
  · obtain ⟨x, c, b, P1, S1, Qs, L, R, W, y, p, rfl, me, cn, hc, ly, hb, hp, ⟨v0, k0⟩, okP, okS, q⟩ := h
    refine ⟨_, (pss_cons (ps_asg (pe_dgetY (w := w) (K := K) rfl rfl (hu_of hr) (pe_c D_ways_from hr (by decide) (by rfl) (pa_cons (pe_fldK (K := K) rfl (pv 0) rfl) (pa_cons (pv 2) pa_nil))) (pe_gv T.gEND (by rfl)) (fun _ _ => rfl)) (pg_tup (by rfl) (pgs_cons (pg_name (i := 3) sc_ended.nd rfl (.inl rfl)) (pgs_cons (pg_name (i := 4) sc_ended.nd rfl (.inl rfl)) pgs_nil))))
      (pss_one (ps_ret (pe_tup (pa_cons (pe_op op_add_str (pe_ix (ix_tupK (K := K) rfl) (pv 1) pe_int (fun _ _ => rfl)) (pv 3)) (pa_cons (pe_op op_add_str (pe_ix (ix_tupK (K := K) rfl) (pv 1) pe_int (fun _ _ => rfl)) (pv 4)) pa_nil)))))), ?_⟩
    obtain ⟨⟨dx, mv, ld, wd, hx, am, lv, wy⟩, bf, br, few⟩ := id me
    refine ⟨_, rfl, x, CM, dx, _, V.ref mv, rfl, hx, T.cl, T.n1, fM_m mv ld wd, _, rfl, mv, b, P1, S1, Qs, p, rfl, am, bf, hb, hp, few, okP, okS, fun wd2 R2 W2 H2 s2 _ b2 wy2 => ?_⟩
    have hfin : Pl.fin ∈ R2 := (b2.all .fin).mpr ⟨_, k0⟩
    obtain ⟨as, ks, e, h1, ky, h2, h3, k, l3⟩ := wys_at wy2 b2.nd hfin
    have cn2 := cn.same s2
    have hc2 := s2 _ _ hc
    refine ⟨wd2, _, rfl, by rw [← h2]; exact DGetY.t (k := plK .fin) h1 ky cn2.en, e, _, rfl, .inl (.inl h3), rfl, _, _, rfl, _, _, rfl, rfl, ?_⟩
    have l1 : y.1.length + y.2.length ≤ 700 := ly
    have l2 : (wayTo W2 .fin).1.length + (wayTo W2 .fin).2.length ≤ 600 := l3
    refine ⟨_, rfl, c, _, _, _, rfl, rfl, .inl (.inl hc2), atI_nat (j := 0) rfl, _, rfl, _, _, rfl, rfl, by rw [Sx_len, Sx_len, sizeLine_eq]; omega, ?_⟩
    refine ⟨_, rfl, c, _, _, _, rfl, rfl, .inl (.inl hc2), atI_nat (j := 1) rfl, _, rfl, _, _, rfl, rfl, by rw [Sx_len, Sx_len, sizeLine_eq]; omega, by show 2 ≤ sizeLine; decide, fun d nd => ?_⟩
    rw [Sx_app, Sx_app]
    exact q d _ _ (same_put (s := s2) nd) k upd_same l3 (by rw [wy2.2.2.2])
end
end V8
set_option Elab.async false
set_option linter.all false
set_option maxRecDepth 100000
set_option maxHeartbeats 8000000
set_option pp.maxSteps 900
/-! A meeting that is not alike. -/
namespace V8
open PySem PySem.Spec PyProof.Rows L2 MZ
variable {K : PySem.W.Frag} {ω : World}
def LbOk (P : List Pr) : Prop := ∀ q ∈ P, isLt q.2
def LtW (w : List Nat × List Nat) : Prop := (∀ c ∈ w.1, isLt c) ∧ ∀ c ∈ w.2, isLt c
theorem mo_lt {P S : List Pr} (lP : LbOk P) (lS : LbOk S) {p : Pl} {m : Mo} (h : m ∈ moves P S p) : isLt m.2.1 := by
  cases p with
  | fin => cases h
  | start =>
    obtain ⟨q, hq, rfl⟩ := List.mem_map.mp h
    exact lP q hq
  | rest a r =>
    obtain ⟨q, hq, e⟩ := List.mem_filterMap.mp h
    obtain ⟨t, _, rfl⟩ := Option.map_eq_some_iff.mp e
    cases a with
    | true => exact lS q hq
    | false => exact lP q hq
theorem put_lt {w : List Nat × List Nat} (h : LtW w) (t : Bool) {l : Nat} (hl : isLt l) : LtW (put t l w) := by
  cases t with
  | true =>
    refine ⟨fun c hc => ?_, h.2⟩
    rcases List.mem_append.mp hc with a | a
    · exact h.1 c a
    · rw [List.mem_singleton.mp a]
      exact hl
  | false =>
    refine ⟨h.1, fun c hc => ?_⟩
    rcases List.mem_append.mp hc with a | a
    · exact h.2 c a
    · rw [List.mem_singleton.mp a]
      exact hl
theorem way_lt {P S : List Pr} (lP : LbOk P) (lS : LbOk S) {o p : Pl} {w : List Nat × List Nat} (h : Way P S o p w) : LtW w := by
  induction h with
  | nil => exact ⟨fun c h => (List.not_mem_nil h).elim, fun c h => (List.not_mem_nil h).elim⟩
  | step _ m ih => exact put_lt ih _ (mo_lt lP lS m)
theorem way_start {P S : List Pr} {o : Pl} {w : List Nat × List Nat} (h : Way P S o .start w) : w = ([], []) := by
  cases h with
  | nil => rfl
  | @step p w t l q _ m =>
    exfalso
    cases p with
    | fin => cases m
    | start =>
      obtain ⟨q, hq, e⟩ := List.mem_map.mp m
      cases e
    | rest a r =>
      obtain ⟨q, hq, e⟩ := List.mem_filterMap.mp m
      obtain ⟨t, et, e2⟩ := Option.map_eq_some_iff.mp e
      cases e2
      rcases behind_cases et with ⟨_, z⟩ | ⟨_, _, _, z⟩ | ⟨_, _, _, z⟩ <;> cases z
def ldD : Option (Bool × List Nat) → PyData
  | none => .none
  | some k => .tuple [.str (sideS k.1), .str (Sx k.2)]
theorem ld_dp {K : PySem.W.Frag} {H : Hp} {v : V} {o : Option (Bool × List Nat)} (h : LdO K H v o) : Dp K H v (ldD o) := by
  cases o with
  | none =>
    have h : v = .non := h
    subst h
    exact .non
  | some k =>
    obtain ⟨b, rfl, h1⟩ := h
    exact .tup h1 (.cons (.str _) (.cons (.str _) .nil))
theorem lead_lt {w : List Nat × List Nat} (h : LtW w) {k : Bool × List Nat} (e : lead w = some k) : ∀ c ∈ k.2, isLt c := fun c hc => by
  rcases lead_some e with ⟨_, e2⟩ | ⟨_, _, e2⟩
  · exact h.1 c (by rw [e2]; exact List.mem_append_right _ hc)
  · exact h.2 c (by rw [e2]; exact List.mem_append_right _ hc)
theorem ld_shaped {o : Option (Bool × List Nat)} (h : ∀ k, o = some k → ∀ c ∈ k.2, isLt c) : SeqAt.shaped (ldD o) = true := by
  cases o with
  | none => rfl
  | some k =>
    have ok1 : PyData.strOk (sideS k.1) = true := by
      cases k.1 with
      | true => exact (show PyData.strOk (sideS true) = true by decide +kernel)
      | false => exact (show PyData.strOk (sideS false) = true by decide +kernel)
    have ok2 : PyData.strOk (Sx k.2) = true := ok_sx (h k rfl)
    refine shaped_of (by simp only [ldD, PyData.canLay0, PyData.canLayAll0, ok1, ok2]; rfl) ?_
    simp [ldD, PyData.depth, PyData.depthAll]
theorem ld_eqv (k : Bool × List Nat) (o : Option (Bool × List Nat)) : PyData.eqv (ldD (some k)) (ldD o) = decide (o = some k) := by
  cases o with
  | none => rfl
  | some j =>
    show (decide (sideS k.1 = sideS j.1) && (decide (Sx k.2 = Sx j.2) && true)) = _
    rw [Bool.and_true, Bool.eq_iff_iff, Bool.and_eq_true, decide_eq_true_iff, decide_eq_true_iff, decide_eq_true_iff]
    exact ⟨fun h => by rw [Prod.ext (side_inj h.1) (Sx_inj h.2)], fun h => by rw [Option.some.inj h]; exact ⟨rfl, rfl⟩⟩
theorem all_at {P S : List Pr} {Q : List Pl} {H : Hp} {d : Addr} (h : AllR K ω P S Q H d) (nd : Q.Nodup) {p : Pl} (hp : p ∈ Q) : ∃ as kvs v, Rd H d (DX ω d as kvs) ∧ KyA K H as kvs ∧ valV kvs (plK p) = some v ∧ MoL K H v (moves P S p) := by
  obtain ⟨as, ks, h1, ky, h2⟩ := h
  obtain ⟨j, hj, e⟩ := List.getElem_of_mem hp
  have hjk : j < ks.length := by rw [prd_len h2]; exact hj
  obtain ⟨y, e1, e2, ml⟩ := prd_at h2 (List.getElem?_eq_getElem hjk)
  rw [List.getElem?_eq_getElem hj, e] at e1
  cases e1
  have nk : (ks.map (·.1)).Nodup := by
    rw [keysM h2]
    exact map_nd nd
  exact ⟨as, ks, ks[j].2, h1, ky, val_at nk (by rw [List.getElem?_eq_getElem hjk]; exact congrArg some (Prod.ext e2 rfl)), ml⟩
theorem wlen_app (a v : List Nat × List Nat) : wlen (a.1 ++ v.1, a.2 ++ v.2) = wlen a + wlen v := by
  show (a.1 ++ v.1).length + (a.2 ++ v.2).length = (a.1.length + a.2.length) + (v.1.length + v.2.length)
  rw [List.length_append, List.length_append]
  omega
open Classical in
/-- whether the end can be reached -/
noncomputable def livesB (P S : List Pr) (p : Pl) : Bool := decide (∃ v, Way P S p .fin v)
open Classical in
theorem livesB_iff {P S : List Pr} {p : Pl} : livesB P S p = true ↔ ∃ v, Way P S p .fin v := by
  unfold livesB
  exact decide_eq_true_iff
/-- the meeting that is made of an odd step -/
def foundW (P S : List Pr) (p : Pl) (m : Mo) : List Nat × List Nat :=
  if (put m.1 m.2.1 (wayTo (waysW P S .start) p)).1 ++ (wayTo (waysW P S m.2.2) .fin).1 = (put m.1 m.2.1 (wayTo (waysW P S .start) p)).2 ++ (wayTo (waysW P S m.2.2) .fin).2
  then ((wayTo (waysW P S .start) m.2.2).1 ++ (wayTo (waysW P S m.2.2) .fin).1, (wayTo (waysW P S .start) m.2.2).2 ++ (wayTo (waysW P S m.2.2) .fin).2)
  else ((put m.1 m.2.1 (wayTo (waysW P S .start) p)).1 ++ (wayTo (waysW P S m.2.2) .fin).1, (put m.1 m.2.1 (wayTo (waysW P S .start) p)).2 ++ (wayTo (waysW P S m.2.2) .fin).2)
noncomputable def oddB (P S : List Pr) (p : Pl) (m : Mo) : Bool := livesB P S m.2.2 && oddM (waysW P S .start) p m
noncomputable def oddsW (P S : List Pr) : List (Pl × Mo) := (placesQ P S).flatMap fun p => ((moves P S p).filter (oddB P S p)).map fun m => (p, m)
/-- the meeting that is told, as the program finds it -/
noncomputable def unlikeW (P S : List Pr) : Option (List Nat × List Nat) := (oddsW P S).head?.map fun z => foundW P S z.1 z.2
theorem filter_first {α : Type} {f : α → Bool} {l : List α} {i : Nat} {x : α} (e : l[i]? = some x) (h : f x = true) (no : ∀ j y, j < i → l[j]? = some y → f y = false) : ∃ r, l.filter f = x :: r := by
  obtain ⟨hi, ex⟩ := List.getElem?_eq_some_iff.mp e
  refine ⟨(l.drop (i + 1)).filter f, ?_⟩
  have e0 : (l.take i).filter f = [] := List.filter_eq_nil_iff.mpr fun y hy => by
    obtain ⟨j, hj, ey⟩ := List.getElem_of_mem hy
    have hji : j < i := by rw [List.length_take] at hj; omega
    have e1 : l[j]? = some y := by
      rw [List.getElem_take] at ey
      rw [List.getElem?_eq_getElem (by omega), ey]
    rw [no j y hji e1]
    decide
  conv => lhs; rw [← List.take_append_drop i l, List.filter_append, e0, List.drop_eq_getElem_cons hi, List.filter_cons, ex, if_pos h]
  rfl
theorem odds_first {P S : List Pr} {i k : Nat} {p : Pl} {m : Mo} (hp : (placesQ P S)[i]? = some p) (hm : (moves P S p)[k]? = some m) (h : oddB P S p m = true)
    (no : ∀ j p', j < i → (placesQ P S)[j]? = some p' → ∀ m' ∈ moves P S p', oddB P S p' m' = false) (no2 : ∀ j m', j < k → (moves P S p)[j]? = some m' → oddB P S p m' = false) : unlikeW P S = some (foundW P S p m) := by
  obtain ⟨r, er⟩ := filter_first hm h no2
  obtain ⟨hi, ep⟩ := List.getElem?_eq_some_iff.mp hp
  have e0 : ((placesQ P S).take i).flatMap (fun p => ((moves P S p).filter (oddB P S p)).map fun m => (p, m)) = [] := List.flatMap_eq_nil_iff.mpr fun y hy => by
    obtain ⟨j, hj, ey⟩ := List.getElem_of_mem hy
    have hji : j < i := by rw [List.length_take] at hj; omega
    have e1 : (placesQ P S)[j]? = some y := by
      rw [List.getElem_take] at ey
      rw [List.getElem?_eq_getElem (by omega), ey]
    rw [List.filter_eq_nil_iff.mpr fun m' hm' => by rw [no j y hji e1 m' hm']; decide]
    rfl
  have e1 : oddsW P S = (p, m) :: (r.map (fun m => (p, m)) ++ ((placesQ P S).drop (i + 1)).flatMap (fun p => ((moves P S p).filter (oddB P S p)).map fun m => (p, m))) := by
    unfold oddsW
    conv => lhs; rw [← List.take_append_drop i (placesQ P S), List.flatMap_append, e0, List.drop_eq_getElem_cons hi, List.flatMap_cons, ep, er]
    rfl
  unfold unlikeW
  rw [e1]
  rfl
def spUnlike (K : PySem.W.Frag) (ω : World) (aS aE aV CM : Addr) : Sp := fun vs H Q _ => ∃ (x : Addr) (P S : List Pr) (Qs L R : List Pl) (W : WyL), vs = [.ref x] ∧ MeeA K ω CM P S Qs L R W H x ∧ CnH K aS aE aV H ∧ PrOk P ∧ PrOk S ∧ LbOk P ∧ LbOk S ∧ (∀ q ∈ P, q.1 ≠ []) ∧
  (Alike P S → ∀ H', Same H H' → Q .non H') ∧ ∀ (e : Addr) (w : List Nat × List Nat) (H' : Hp), Same H H' → WyT H' e w → Way P S .start .fin w → w.1 ≠ w.2 → wlen w ≤ 1300 → unlikeW P S = some w → Q (.ref e) H'
section
variable {P : Program} {w : World} {K : PySem.W.Frag} {mg : Str → Option Value} {base : Heap} {aS aE aV CM : Addr}
theorem ok_unlike {f : Addr} {fd : FuncData} (F : Fun K "unlike_meeting" "unlike_meeting" s_unlike_meeting f fd) (T : Tn K mg aS aE aV CM) (D_with_label : Df P w K mg base 1 "with_label" spLabel) (D_lead_of : Df P w K mg base 1 "lead_of" (spLead K)) (D_ended : Df P w K mg base 3 "ended" (spEnded K w aS aE aV CM)) : FnOk P w K mg base CX0 4 f fd ["meetings"] (spUnlike K w aS aE aV CM) := by
  refine F.ok sc_unlike_meeting (fun vs H Q E h => ?_) (fun cdv A outer s H vs Q E hr h => ?_)
  · obtain ⟨x, P, S, Qs, L, R, W, rfl, _⟩ := h
    rfl
  · obtain ⟨x, P1, S1, Qs, L, R, W, rfl, ⟨⟨dx, mv, ld, wd, hx, ⟨vs, kvs, hd, kyv, pk⟩, lv, wy, nml, nmw⟩, bf, br, few, eqQ⟩, cn, okP, okS, lP, lS, nP, qn, qf⟩ := h
    refine ⟨_, (pss_cons (ps_lock (ps_for PassesOwn.never rfl (pi_keysXt (w := w) rfl (pe_fldK (K := K) rfl (pv 0) rfl)) (pg_name (i := 1) sc_unlike_meeting.nd rfl (.inl rfl))
        (pss_one (ps_for PassesOwn.never rfl (pi_list (pe_dgetY (w := w) (K := K) rfl rfl (hu_of hr) (pe_fldK (K := K) rfl (pv 0) rfl) (pv 1) (fun _ _ => rfl))) (pg_tup (by rfl) (pgs_cons (pg_name (i := 2) sc_unlike_meeting.nd rfl (.inl rfl)) (pgs_cons (pg_name (i := 3) sc_unlike_meeting.nd rfl (.inl rfl)) (pgs_cons (pg_name (i := 4) sc_unlike_meeting.nd rfl (.inl rfl)) pgs_nil))))
          (pss_one (ps_if (pt_cmp (pc_dinY (w := w) (K := K) rfl rfl (hu_of hr) (pv 4) (pe_fldK (K := K) rfl (pv 0) rfl)))
            (pss_cons (ps_set (i := 5) sc_unlike_meeting.nd rfl (.inl rfl) (pe_c D_with_label hr (by decide) (by rfl) (pa_cons (pe_dgetY (w := w) (K := K) rfl rfl (hu_of hr) (pe_fldK (K := K) rfl (pv 0) rfl) (pv 1) (fun _ _ => rfl)) (pa_cons (pv 2) (pa_cons (pv 3) pa_nil)))))
            (pss_cons (ps_set (i := 6) sc_unlike_meeting.nd rfl (.inl rfl) (pe_c D_lead_of hr (by decide) (by rfl) (pa_cons (pv 5) pa_nil)))
            (pss_cons (ps_set (i := 7) sc_unlike_meeting.nd rfl (.inl rfl) (pe_ifExp (pt_cmpR (op_eqDK (K := K) rfl hr.units) (pv 4) (pe_gv T.gEND (by rfl)) (nomark _)) (pe_gv T.gEVEN (by rfl)) (pe_c D_lead_of hr (by decide) (by rfl) (pa_cons (pe_dgetY (w := w) (K := K) rfl rfl (hu_of hr) (pe_fldK (K := K) rfl (pv 0) rfl) (pv 4) (fun _ _ => rfl)) pa_nil))))
            (pss_one (ps_if (PW.pt (pw_or (pt_cmpR op_isN (pv 6) pe_non (nomark _)) (pw_or1 (pt_cmpR (op_neDK (K := K) rfl hr.units) (pv 6) (pv 7) (nomark _)))))
              (pss_cons (ps_set (i := 8) sc_unlike_meeting.nd rfl (.inl rfl) (pe_c D_ended hr (by decide) (by rfl) (pa_cons (pv 0) (pa_cons (pv 5) (pa_cons (pv 4) pa_nil)))))
              (pss_one (ps_ret (pe_ifExp (pt_cmpR op_eq (pe_ix (ix_tupK (K := K) rfl) (pv 8) pe_int (fun _ _ => rfl)) (pe_ix (ix_tupK (K := K) rfl) (pv 8) pe_int (fun _ _ => rfl)) (nomark _)) (pe_c D_ended hr (by decide) (by rfl) (pa_cons (pv 0) (pa_cons (pe_dgetY (w := w) (K := K) rfl rfl (hu_of hr) (pe_fldK (K := K) rfl (pv 0) rfl) (pv 4) (fun _ _ => rfl)) (pa_cons (pv 4) pa_nil)))) (pv 8)))))
              pss_nil)))))
            pss_nil))))))
      (pss_one (ps_ret pe_non))), ?_⟩
    have lkv := prd_len pk
    have lvs := prd_len kyv
    have lv0 : Liv P1 S1 L ∧ ∀ p ∈ Qs, ∀ v, Way P1 S1 p .fin v → p ∈ L := ⟨lv.liv, lv.all⟩
    refine ⟨mv, _, hd, True.intro, fun od => ⟨_, rfl, x, CM, dx, _, V.ref mv, rfl, ?_, T.cl, T.n1, fM_m mv ld wd, mv, od, vs, kvs, rfl, upd_same, ?_⟩⟩
    · rw [upd_ne (ne_of hx hd (fun z => nomatch z))]
      exact hx
    have sf : ∀ c u, H c = some u → c ≠ mv → upd H mv (.frz od (DX w mv vs kvs)) c = some u := fun c u e n => by
      rw [upd_ne n]
      exact e
    have back : ∀ {H' : Hp}, Same (upd H mv (.frz od (DX w mv vs kvs))) H' → Same H (upd H' mv (DX w mv vs kvs)) := fun {H'} s b o e => by
      by_cases hb : b = mv
      · rw [hb, upd_same]
        rw [hb, hd] at e
        exact e
      · rw [upd_ne hb]
        exact s _ _ (sf _ _ e hb)
    have ndK : (kvs.map (·.1)).Nodup := by
      rw [keysM pk]
      exact map_nd bf.nd
    have upS : ∀ {y : Addr} {xs : List V}, SqT K H y xs → SqT K (upd H mv (.frz od (DX w mv vs kvs))) y xs := fun e => sq_dx e hd
    have upT : ∀ {y : Addr} {xs : List V}, H y = some (.tup xs) → upd H mv (.frz od (DX w mv vs kvs)) y = some (.tup xs) := fun e => sf _ _ e (ne_of e hd (fun z => nomatch z))
    have upL : ∀ {y : Addr} {xs : List V}, H y = some (.lst xs) → upd H mv (.frz od (DX w mv vs kvs)) y = some (.lst xs) := fun e => sf _ _ e (ne_of e hd (fun z => nomatch z))
    have pk1 : Paired (MvD K P1 S1 (upd H mv (.frz od (DX w mv vs kvs)))) kvs Qs := prd_imp pk fun _ _ ⟨e, d, xs, e2, h1, h2⟩ => ⟨e, d, xs, e2, upL h1, prd_imp h2 fun _ _ ⟨c, b, e3, h3, h4⟩ => ⟨c, b, e3, upT h3, upS h4⟩⟩
    have kyv1 : KyA K (upd H mv (.frz od (DX w mv vs kvs))) vs kvs := prd_imp kyv fun _ _ z => upS z
    have me1 : MeeR K w CM P1 S1 Qs L R W (upd H mv (.frz od (DX w mv vs kvs))) x := by
      obtain ⟨⟨as, ks, h1, ky1, h2⟩, h3, h4⟩ := lv
      obtain ⟨⟨a2, k2, h5, ky2, h6⟩, h7, h8, h9⟩ := wy
      exact ⟨⟨dx, mv, ld, wd, sf _ _ hx (ne_of hx hd (fun z => nomatch z)), ⟨vs, kvs, .inr ⟨od, upd_same⟩, kyv1, pk1⟩, ⟨⟨as, ks, sf _ _ h1 (Ne.symm nml), prd_imp ky1 fun _ _ z => upS z, h2⟩, h3, h4⟩, ⟨⟨a2, k2, sf _ _ h5 (Ne.symm nmw), prd_imp ky2 fun _ _ z => upS z, prd_imp h6 fun _ _ ⟨e, c, e2, h⟩ => ⟨e, c, e2, upT h⟩⟩, h7, h8, h9⟩⟩, bf, br, few⟩
    have cn1 : CnH K aS aE aV (upd H mv (.frz od (DX w mv vs kvs))) := ⟨upS cn.st, upS cn.en, upS cn.ev⟩
    have hmv1 : upd H mv (.frz od (DX w mv vs kvs)) mv = some (.frz od (DX w mv vs kvs)) := upd_same
    clear upT upS upL pk cn hx sf lv kyv
    generalize upd H mv (.frz od (DX w mv vs kvs)) = H1 at back pk1 me1 cn1 hmv1 kyv1 ⊢
    have wyW := wy.2.1
    have eWW := wy.2.2.2
    have tell : ∀ {i i2 : Nat} {p : Pl} {m : Mo}, Qs[i]? = some p → (moves P1 S1 p)[i2]? = some m → m.2.2 ∈ L → oddM W p m = true → (∀ j p', j < i → Qs[j]? = some p' → ∀ m ∈ moves P1 S1 p', m.2.2 ∈ L → oddM W p' m = false) → (∀ k m', k < i2 → (moves P1 S1 p)[k]? = some m' → m'.2.2 ∈ L → oddM W p m' = false) → unlikeW P1 S1 = some (foundW P1 S1 p m) := fun {i i2 p m} hp hm hl ho n1 n2 => by
      have toL : ∀ {p' : Pl} {m' : Mo}, p' ∈ Qs → m' ∈ moves P1 S1 p' → livesB P1 S1 m'.2.2 = true → m'.2.2 ∈ L := fun {p' m'} hp' hm' hl' => by
        obtain ⟨v, k⟩ := livesB_iff.mp hl'
        obtain ⟨w0, k0⟩ := bf.reach p' hp'
        exact lv0.2 _ ((bf.all _).mpr ⟨_, k0.step (t := m'.1) (l := m'.2.1) (q := m'.2.2) hm'⟩) v k
      have no : ∀ {p' : Pl} {m' : Mo}, p' ∈ Qs → m' ∈ moves P1 S1 p' → (m'.2.2 ∈ L → oddM W p' m' = false) → oddB P1 S1 p' m' = false := fun {p' m'} hp' hm' z => by
        unfold oddB
        cases el : livesB P1 S1 m'.2.2 with
        | false => rfl
        | true => rw [Bool.true_and, ← eWW, z (toL hp' hm' el)]
      rw [eqQ] at hp
      refine odds_first hp hm ?_ (fun j p' hj e m' hm' => ?_) fun j m' hj e => ?_
      · unfold oddB
        rw [livesB_iff.mpr (lv0.1.live _ hl), ← eWW, ho]
        rfl
      · rw [← eqQ] at e
        exact no (List.mem_of_getElem? e) hm' (n1 j p' hj e m' hm')
      · rw [← eqQ] at hp
        exact no (List.mem_of_getElem? hp) (List.mem_of_getElem? e) (n2 j m' hj e)
    have QR : ∀ p, p ∈ Qs → p ∈ R := fun p hp => (br.all p).mpr ((bf.all p).mp hp)
    have h0 : wayTo W .start = ([], []) := way_start (wayTo_has wyW ((br.all .start).mpr ⟨_, .nil⟩)).2
    refine for_it (walk_keysX (w := w) (d := mv) (o := od) (as := vs) (kvs := kvs)) (fun i σ H4 => (∃ v1 v2 v3 v4 v5 v6 v7 v8 : Option V, σ = [some (.ref x), v1, v2, v3, v4, v5, v6, v7, v8]) ∧ Same H1 H4 ∧ ∀ j p, j < i → Qs[j]? = some p → ∀ m ∈ moves P1 S1 p, m.2.2 ∈ L → oddM W p m = false) ?_ ?_ ?_ ?_
    · exact ⟨⟨_, _, _, _, _, _, _, _, rfl⟩, Same.refl _, fun j p hj => absurd hj (Nat.not_lt_zero _)⟩
    · rintro i σ H4 hi ⟨_, s4, _⟩
      exact s4 _ _ hmv1
    · rintro i y σ H40 H4 hi ⟨⟨v1, v2, v3, v4, v5, v6, v7, v8, rfl⟩, s4, no⟩ ⟨rfl, qk, hbk, rfl⟩
      obtain ⟨⟨k, v⟩, hkv, hqk0⟩ := prd_at kyv1 hbk
      obtain ⟨p, hp, ek, ml⟩ := prd_at pk1 hkv
      have ek : k = plK p := ek
      subst ek
      have hqk : PlT K H4 qk p := sq_same hqk0 s4
      have hpQ : p ∈ Qs := List.mem_of_getElem? hp
      have me4 := me1.same s4
      obtain ⟨⟨dx1, mv1, ld1, wd1, hx1, am1, lv1, wy1⟩, _, _, _⟩ := id me4
      obtain ⟨vs1, kv1, v1', hr1, hky1, hv1, d0, xs, ev, hxs, prx⟩ := all_at am1 bf.nd hpQ
      subst ev
      have lx := prd_len prx
      refine ⟨_, rfl, x, CM, dx1, _, V.ref mv1, rfl, hx1, T.cl, T.n1, fM_m mv1 ld1 wd1, _, rfl, mv1, _, rfl, ⟨vs1, kv1, plK p, qk, hr1, hky1, rfl, hqk, hv1.symm⟩, d0, rfl, ⟨_, SqL.of hxs⟩, ?_⟩
      refine for_it (walk_list (K := K) (a := d0) (xs := xs)) (fun i2 σ H5 => (∃ v2 v3 v4 v5 v6 v7 v8 : Option V, σ = [some (.ref x), some (.ref qk), v2, v3, v4, v5, v6, v7, v8]) ∧ Same H4 H5 ∧ ∀ k m, k < i2 → (moves P1 S1 p)[k]? = some m → m.2.2 ∈ L → oddM W p m = false) ?_ ?_ ?_ ?_
      · exact ⟨⟨_, _, _, _, _, _, _, rfl⟩, Same.refl _, fun k m hk => absurd hk (Nat.not_lt_zero _)⟩
      · rintro i2 σ H5 hi2 ⟨_, s5, _⟩
        exact SqL.of (s5 _ _ hxs)
      · rintro i2 y σ H50 H5 hi2 ⟨⟨v2, v3, v4, v5, v6, v7, v8, rfl⟩, s5, no5⟩ ⟨rfl, hy⟩
        obtain ⟨m, hm, mo⟩ := prd_at prx hy
        obtain ⟨c, b4, rfl, hc5, hb5⟩ := mo.same s5
        have hmm : m ∈ moves P1 S1 p := List.mem_of_getElem? hm
        have me5 := me4.same s5
        have cn5 := (cn1.same s4).same s5
        obtain ⟨⟨dx2, mv2, ld2, wd2, hx2, am2, lv2, wy2⟩, _, _, _⟩ := id me5
        obtain ⟨al, kl, hl2, hkl, kL⟩ := lv2.at_
        have next : oddM W p m = false ∨ m.2.2 ∉ L → ∀ k m', k < i2 + 1 → (moves P1 S1 p)[k]? = some m' → m'.2.2 ∈ L → oddM W p m' = false := fun z k m' hk e hL => by
          by_cases hk2 : k < i2
          · exact no5 k m' hk2 e hL
          · have : k = i2 := by omega
            subst this
            rw [hm] at e
            cases e
            rcases z with z | z
            · exact z
            · exact absurd hL z
        refine ⟨c, _, rfl, .inl (.inl hc5), rfl, _, _, rfl, _, _, rfl, _, _, rfl, rfl, ?_⟩
        refine ⟨_, rfl, _, rfl, x, CM, dx2, _, V.ref ld2, rfl, hx2, T.cl, T.n2, fM_l mv2 ld2 wd2, ld2, _, rfl, DGetY.t (k := plK m.2.2) hl2 hkl hb5, _, rfl, ?_⟩
        rw [keysP_is kL]
        by_cases hin : m.2.2 ∈ L
        · rw [decide_eq_true hin]
          refine iteT ?_
          have hqk5 := sq_same hqk s5
          obtain ⟨aw, kw, cw, hw1, hwk, hw2, hw3, kw4, lw5⟩ := wys_at wy2 br.nd (QR p hpQ)
          have lw : (wayTo W p).1.length + (wayTo W p).2.length ≤ 600 := lw5
          refine ⟨_, rfl, x, CM, dx2, _, V.ref wd2, rfl, hx2, T.cl, T.n3, fM_w mv2 ld2 wd2, _, rfl, wd2, _, rfl, (by rw [← hw2]; exact DGetY.t (k := plK p) hw1 hwk hqk5), _, rfl, _, rfl, cw, wayTo W p, m.1, m.2.1, rfl, hw3, by omega, by omega, fun ca H6 s6 hca => ?_⟩
          have kst : Way P1 S1 .start m.2.2 (put m.1 m.2.1 (wayTo W p)) := kw4.step (t := m.1) (l := m.2.1) (q := m.2.2) hmm
          have ltw := way_lt lP lS kst
          have l6 : (put m.1 m.2.1 (wayTo W p)).1.length + (put m.1 m.2.1 (wayTo W p)).2.length ≤ 601 := by
            have := wput_len m.1 m.2.1 (wayTo W p)
            unfold wlen at this
            omega
          have l6w : wlen (put m.1 m.2.1 (wayTo W p)) ≤ 601 := l6
          refine ⟨_, rfl, ca, _, rfl, hca, by omega, by omega, fun lv_ H7 s7 hl7 => ?_⟩
          have hqR : m.2.2 ∈ R := (br.all _).mpr ⟨_, kst⟩
          have s57 : Same H5 H7 := fun b o e => s7 _ _ (s6 _ _ e)
          have me7 := me5.same s57
          have cn7 := cn5.same s57
          have hb7 := sq_same hb5 s57
          obtain ⟨⟨dx7, mv7, ld7, wd7, hx7, am7, lvv7, wy7⟩, _, _, _⟩ := id me7
          obtain ⟨aq0, kq0, cq0, hq10, hqk0, hq20, hq30, kq40, lq50⟩ := wys_at wy7 br.nd hqR
          have lq0 : (wayTo W m.2.2).1.length + (wayTo W m.2.2).2.length ≤ 600 := lq50
          have pok := reach_ok nP okP okS kst
          refine via (t := tIf (tTest (tOp (rEqD K) (tVar 4) (tC (V.ref aE)))) (tC (V.ref aV)) (tCall (spLead K) [] E0 (tCons (tDGetY w K (tFld K (tVar 0) "ways") (tVar 4)) tNil))) (fun kv H8 => Same H7 H8 ∧ LdO K H8 kv (known (wayTo W) m.2.2)) (fun R' hR => ?_) (fun kv H8 z => ?_)
          · refine ⟨_, rfl, plD m.2.2, plD .fin, pl_dp hb7, pl_dp cn7.en, pl_shaped pok, pl_shaped True.intro, _, rfl, ?_⟩
            rw [pl_eqv]
            by_cases ef : m.2.2 = .fin
            · rw [decide_eq_true ef]
              refine iteT (hR _ _ ⟨Same.refl _, ?_⟩)
              rw [ef]
              exact ⟨aV, rfl, cn7.ev⟩
            · rw [decide_eq_false ef]
              refine iteF ⟨_, rfl, x, CM, dx7, _, V.ref wd7, rfl, hx7, T.cl, T.n3, fM_w mv7 ld7 wd7, _, rfl, wd7, _, rfl, (by rw [← hq20]; exact DGetY.t (k := plK m.2.2) hq10 hqk0 hb7), cq0, _, rfl, hq30, by omega, by omega, fun kv H8 s8 h8 => hR _ _ ⟨s8, ?_⟩⟩
              have e : known (wayTo W) m.2.2 = lead (wayTo W m.2.2) := by
                cases eq : m.2.2 with
                | fin => exact absurd eq ef
                | start => rfl
                | rest a r => rfl
              rw [e]
              exact h8
          obtain ⟨s8, hk8⟩ := z
          have s58 : Same H5 H8 := fun b o e => s8 _ _ (s57 _ _ e)
          have hca8 := s8 _ _ (s7 _ _ hca)
          have hb8 := sq_same hb5 s58
          have hl8 : LdO K H8 lv_ (lead (put m.1 m.2.1 (wayTo W p))) := by
            cases e : lead (put m.1 m.2.1 (wayTo W p)) with
            | none =>
              rw [e] at hl7
              exact hl7
            | some k =>
              rw [e] at hl7
              obtain ⟨b, e2, h⟩ := hl7
              exact ⟨b, e2, sq_same h s8⟩
          cases el : lead (put m.1 m.2.1 (wayTo W p)) with
          | none =>
            rw [el] at hl8
            have hl8 : lv_ = .non := hl8
            subst hl8
            have hodd : oddM W p m = true := by
              unfold oddM
              rw [el]
            refine ⟨_, rfl, rfl, true, rfl, iteT ?_⟩
            obtain ⟨v0, k0⟩ := lv0.1.live _ hin
            have hqQ : m.2.2 ∈ Qs := (bf.all _).mpr ⟨_, kst⟩
            refine ⟨_, rfl, _, rfl, _, rfl, x, ca, b4, P1, S1, Qs, L, R, W, put m.1 m.2.1 (wayTo W p), m.2.2, rfl, me5.same s58, cn5.same s58, hca8, by omega, hb8, hqQ, ⟨v0, k0⟩, okP, okS, fun e1 v1 H9 s9 kv1 he1 lv1 ev1 => ?_⟩
            obtain ⟨o1, o2, o3⟩ := odd_meets br wyW (QR p hpQ) hmm kv1 hodd
            have l9 : v1.1.length + v1.2.length ≤ 600 := lv1
            have s59 : Same H5 H9 := fun b o e => s9 _ _ (s58 _ _ e)
            have me9 := me5.same s59
            obtain ⟨⟨dx9, mv9, ld9, wd9, hx9, am9, lvv9, wy9⟩, _, _, _⟩ := id me9
            refine ⟨_, rfl, e1, _, _, _, rfl, rfl, .inl (.inl he1), atI_nat (j := 0) rfl, _, rfl, e1, _, _, _, rfl, rfl, .inl (.inl he1), atI_nat (j := 1) rfl, rfl, _, rfl, ?_⟩
            rw [Sx_eq]
            by_cases eq1 : (put m.1 m.2.1 (wayTo W p)).1 ++ v1.1 = (put m.1 m.2.1 (wayTo W p)).2 ++ v1.2
            · rw [decide_eq_true eq1]
              obtain ⟨aq, kq, cq, hq1, hqky, hq2, hq3, kq4, lq5⟩ := wys_at wy9 br.nd (QR _ hqQ)
              refine iteT ⟨_, rfl, _, rfl, x, CM, dx9, _, V.ref wd9, rfl, hx9, T.cl, T.n3, fM_w mv9 ld9 wd9, _, rfl, wd9, _, rfl, (by rw [← hq2]; exact DGetY.t (k := plK m.2.2) hq1 hqky (sq_same hb5 s59)), _, rfl, x, cq, b4, P1, S1, Qs, L, R, W, wayTo W m.2.2, m.2.2, rfl, me9, cn5.same s59, hq3, by omega, sq_same hb5 s59, hqQ, ⟨v0, k0⟩, okP, okS, fun e2 v2 H10 s10 kv2 he2 lv2 ev2 => ?_⟩
              have ev : v2 = v1 := ev2.trans ev1.symm
              rw [ev] at kv2 he2 lv2
              have sA : Same H1 H10 := fun b o e => s10 _ _ (s59 _ _ (s5 _ _ (s4 _ _ e)))
              have lq : (wayTo W m.2.2).1.length + (wayTo W m.2.2).2.length ≤ 600 := lq5
              exact ⟨sA _ _ hmv1, qf e2 _ _ (back sA) (by show upd _ _ _ _ = _; rw [upd_ne (ne_of he2 (sA _ _ hmv1) (fun z => nomatch z))]; exact he2) o2 (o3 eq1) (by rw [wlen_app]; unfold wlen; omega) (by
                rw [tell hp hm hin hodd no no5]
                unfold foundW
                rw [← eWW, ← ev1, if_pos eq1])⟩
            · rw [decide_eq_false eq1]
              have sA : Same H1 H9 := fun b o e => s59 _ _ (s5 _ _ (s4 _ _ e))
              exact iteF ⟨_, rfl, sA _ _ hmv1, qf e1 _ _ (back sA) (by show upd _ _ _ _ = _; rw [upd_ne (ne_of he1 (sA _ _ hmv1) (fun z => nomatch z))]; exact he1) o1 eq1 (by rw [wlen_app]; unfold wlen; omega) (by
                rw [tell hp hm hin hodd no no5]
                unfold foundW
                rw [← eWW, ← ev1, if_neg eq1])⟩
          | some k =>
            rw [el] at hl8
            have hl9 := hl8
            obtain ⟨bk, rfl, hbk⟩ := hl8
            have hkn : ∀ j, known (wayTo W) m.2.2 = some j → ∀ c ∈ j.2, isLt c := fun j e => by
              cases eq : m.2.2 with
              | fin =>
                rw [eq] at e
                cases e
                exact fun c hc => absurd hc List.not_mem_nil
              | start =>
                rw [eq] at e
                rw [h0] at *
                exact lead_lt (w := wayTo W .start) (way_lt lP lS (wayTo_has wyW ((br.all .start).mpr ⟨_, .nil⟩)).2) e
              | rest a r =>
                rw [eq] at e kq40
                exact lead_lt (way_lt lP lS kq40) e
            refine ⟨_, rfl, rfl, false, rfl, iteF ⟨_, rfl, _, rfl, ldD (some k), ldD (known (wayTo W) m.2.2), ld_dp hl9, ld_dp hk8, ld_shaped (fun j e => by cases e; exact lead_lt ltw el), ld_shaped hkn, _, rfl, ?_⟩⟩
            rw [ld_eqv]
            by_cases ek2 : known (wayTo W) m.2.2 = some k
            · rw [decide_eq_true ek2]
              refine iteF ⟨⟨_, _, _, _, _, _, _, rfl⟩, fun b o e => s58 _ _ (s5 _ _ e), next (.inl ?_)⟩
              unfold oddM
              rw [el]
              exact decide_eq_false fun z => z ek2
            · rw [decide_eq_false ek2]
              have hodd : oddM W p m = true := by
                unfold oddM
                rw [el]
                exact decide_eq_true ek2
              refine iteT ?_
              obtain ⟨v0, k0⟩ := lv0.1.live _ hin
              have hqQ : m.2.2 ∈ Qs := (bf.all _).mpr ⟨_, kst⟩
              refine ⟨_, rfl, _, rfl, _, rfl, x, ca, b4, P1, S1, Qs, L, R, W, put m.1 m.2.1 (wayTo W p), m.2.2, rfl, me5.same s58, cn5.same s58, hca8, by omega, hb8, hqQ, ⟨v0, k0⟩, okP, okS, fun e1 v1 H9 s9 kv1 he1 lv1 ev1 => ?_⟩
              obtain ⟨o1, o2, o3⟩ := odd_meets br wyW (QR p hpQ) hmm kv1 hodd
              have l9 : v1.1.length + v1.2.length ≤ 600 := lv1
              have s59 : Same H5 H9 := fun b o e => s9 _ _ (s58 _ _ e)
              have me9 := me5.same s59
              obtain ⟨⟨dx9, mv9, ld9, wd9, hx9, am9, lvv9, wy9⟩, _, _, _⟩ := id me9
              refine ⟨_, rfl, e1, _, _, _, rfl, rfl, .inl (.inl he1), atI_nat (j := 0) rfl, _, rfl, e1, _, _, _, rfl, rfl, .inl (.inl he1), atI_nat (j := 1) rfl, rfl, _, rfl, ?_⟩
              rw [Sx_eq]
              by_cases eq1 : (put m.1 m.2.1 (wayTo W p)).1 ++ v1.1 = (put m.1 m.2.1 (wayTo W p)).2 ++ v1.2
              · rw [decide_eq_true eq1]
                obtain ⟨aq, kq, cq, hq1, hqky, hq2, hq3, kq4, lq5⟩ := wys_at wy9 br.nd (QR _ hqQ)
                refine iteT ⟨_, rfl, _, rfl, x, CM, dx9, _, V.ref wd9, rfl, hx9, T.cl, T.n3, fM_w mv9 ld9 wd9, _, rfl, wd9, _, rfl, (by rw [← hq2]; exact DGetY.t (k := plK m.2.2) hq1 hqky (sq_same hb5 s59)), _, rfl, x, cq, b4, P1, S1, Qs, L, R, W, wayTo W m.2.2, m.2.2, rfl, me9, cn5.same s59, hq3, by omega, sq_same hb5 s59, hqQ, ⟨v0, k0⟩, okP, okS, fun e2 v2 H10 s10 kv2 he2 lv2 ev2 => ?_⟩
                have ev : v2 = v1 := ev2.trans ev1.symm
                rw [ev] at kv2 he2 lv2
                have sA : Same H1 H10 := fun b o e => s10 _ _ (s59 _ _ (s5 _ _ (s4 _ _ e)))
                have lq : (wayTo W m.2.2).1.length + (wayTo W m.2.2).2.length ≤ 600 := lq5
                exact ⟨sA _ _ hmv1, qf e2 _ _ (back sA) (by show upd _ _ _ _ = _; rw [upd_ne (ne_of he2 (sA _ _ hmv1) (fun z => nomatch z))]; exact he2) o2 (o3 eq1) (by rw [wlen_app]; unfold wlen; omega) (by
                rw [tell hp hm hin hodd no no5]
                unfold foundW
                rw [← eWW, ← ev1, if_pos eq1])⟩
              · rw [decide_eq_false eq1]
                have sA : Same H1 H9 := fun b o e => s59 _ _ (s5 _ _ (s4 _ _ e))
                exact iteF ⟨_, rfl, sA _ _ hmv1, qf e1 _ _ (back sA) (by show upd _ _ _ _ = _; rw [upd_ne (ne_of he1 (sA _ _ hmv1) (fun z => nomatch z))]; exact he1) o1 eq1 (by rw [wlen_app]; unfold wlen; omega) (by
                rw [tell hp hm hin hodd no no5]
                unfold foundW
                rw [← eWW, ← ev1, if_neg eq1])⟩
        · rw [decide_eq_false hin]
          exact iteF ⟨⟨_, _, _, _, _, _, _, rfl⟩, s5, next (.inr hin)⟩
      · rintro σ H5 ⟨⟨v2, v3, v4, v5, v6, v7, v8, rfl⟩, s5, no5⟩
        refine ⟨⟨_, _, _, _, _, _, _, _, rfl⟩, fun b o e => s5 _ _ (s4 _ _ e), fun j p' hj e m hm hl => ?_⟩
        by_cases hj2 : j < i
        · exact no j p' hj2 e m hm hl
        · have : j = i := by omega
          subst this
          rw [hp] at e
          cases e
          obtain ⟨k, hk, ek⟩ := List.getElem_of_mem hm
          exact no5 k m (by rw [lx]; exact hk) (by rw [List.getElem?_eq_getElem hk, ek]) hl
    · rintro σ H4 ⟨⟨v1, v2, v3, v4, v5, v6, v7, v8, rfl⟩, s4, no⟩
      refine ⟨s4 _ _ hmv1, qn ?_ _ (back s4)⟩
      refine alike_no (L := L) br wyW h0 (fun p hp v k => lv0.2 p ((bf.all p).mpr ((br.all p).mp hp)) v k) fun p hp m hm hl => ?_
      obtain ⟨j, hj, ej⟩ := List.getElem_of_mem ((bf.all p).mpr ((br.all p).mp hp))
      exact no j p (by rw [lvs, lkv]; exact hj) (by rw [List.getElem?_eq_getElem hj, ej]) m hm hl
end
end V8
set_option Elab.async false
set_option linter.all false
/-! Lists of texts that are sorted: one order only. -/
namespace MZ
open PySem PySem.Spec PyProof.Rows
theorem pw_perm_eq {α : Type} {r : α → α → Prop} (anti : ∀ a b, r a b → r b a → a = b) : ∀ {l m : List α}, l.Pairwise r → m.Pairwise r → l.Perm m → l = m
  | [], m, _, _, h => (List.Perm.nil_eq h)
  | a :: l, [], _, _, h => absurd (List.Perm.length_eq h) (by simp)
  | a :: l, b :: m, hl, hm, h => by
    have hab : a = b := by
      rcases List.mem_cons.mp (h.mem_iff.mp (List.mem_cons_self (a := a) (l := l))) with e | e
      · exact e
      · rcases List.mem_cons.mp (h.mem_iff.mpr (List.mem_cons_self (a := b) (l := m))) with e2 | e2
        · exact e2.symm
        · exact anti a b (List.rel_of_pairwise_cons hl e2) (List.rel_of_pairwise_cons hm e)
    subst hab
    rw [pw_perm_eq anti (List.Pairwise.of_cons hl) (List.Pairwise.of_cons hm) (List.Perm.cons_inv h)]
def leS (a b : Str) : Prop := ¬ b.cps.toList < a.cps.toList
theorem leS_trans {a b c : Str} (h : leS a b) (k : leS b c) : leS a c := List.not_lt.mpr (List.le_trans (List.not_lt.mp h) (List.not_lt.mp k))
theorem leS_anti (a b : Str) (h : leS a b) (k : leS b a) : a = b := by
  have e := List.le_antisymm (List.not_lt.mp h) (List.not_lt.mp k)
  cases a with
  | mk x =>
    cases b with
    | mk y =>
      have e : x.toList = y.toList := e
      rw [Array.toList_inj.mp e]
theorem rise_pwS : ∀ (l : List Str) (p : Str), risingS p l = true → (p :: l).Pairwise leS
  | [], p, _ => by simp
  | x :: r, p, h => by
    unfold risingS at h
    rw [Bool.and_eq_true] at h
    obtain ⟨h1, h2⟩ := h
    have ih := rise_pwS r x h2
    have hx : leS p x := fun z => by
      rw [ltCps_eq, decide_eq_true z] at h1
      cases h1
    refine List.Pairwise.cons (fun y hy => ?_) ih
    rcases List.mem_cons.mp hy with rfl | hy
    · exact hx
    · exact leS_trans hx (List.rel_of_pairwise_cons ih hy)
theorem sorted_pwS : ∀ {l : List Str}, sortedS l = true → l.Pairwise leS
  | [], _ => List.Pairwise.nil
  | x :: r, h => rise_pwS r x h
theorem sorted_one {l m : List Str} (h : sortedS l = true) (k : sortedS m = true) (p : l.Perm m) : l = m := pw_perm_eq leS_anti (sorted_pwS h) (sorted_pwS k) p
end MZ
set_option Elab.async false
set_option linter.all false
set_option maxRecDepth 100000
set_option maxHeartbeats 8000000
set_option pp.maxSteps 900
/-! The rests. -/
namespace V8
open PySem PySem.Spec PyProof.Rows L2 MZ
variable {K : PySem.W.Frag} {ω : World}
abbrev s_rests_of : Stmt := topS 54
abbrev n_rests_of : List Str := ["meetings", "living", "places", "found", "side", "place", "word", "ahead", "rest"]
theorem sc_rests_of : FnScope ["meetings", "living", "places", "found", "side", "place", "word", "ahead", "rest"] ["meetings", "living"] (defScope s_rests_of) := ⟨rfl, rfl, rfl, by decide +kernel, rfl, by decide +kernel, by decide +kernel⟩
theorem pi_tupK {X : Cx} {K : PySem.W.Frag} {tg l : Expr} {tl : TE} (hK : X.K = K) (hl : PE X l tl) : PI X tg l (iTup K tl) := by
  subst hK
  exact pi_tup hl
def RsV (H : Hp) (v : V) (q : Bool × Wd) : Prop := ∃ c, v = .ref c ∧ H c = some (.tup [.str (sideS q.1), .str (Sx q.2)])
def RsT (H : Hp) (e : Addr) (rs : List (Bool × Wd)) : Prop := ∃ vs, H e = some (.tup vs) ∧ Paired (RsV H) vs rs
theorem prd_app {α β : Type} {R : α → β → Prop} {xs xs' : List α} {ys ys' : List β} (h : Paired R xs ys) (k : Paired R xs' ys') : Paired R (xs ++ xs') (ys ++ ys') := by
  induction h with
  | nil => exact k
  | cons r _ ih => exact .cons r ih
def onSide (s : Bool) : Pl → Bool
  | .rest a _ => decide (a = s)
  | _ => false
def restOf : Pl → Wd
  | .rest _ r => r
  | _ => []
/-- the rests of one side that live, or do not -/
noncomputable def sideQ (P S : List Pr) (g s : Bool) : List Wd := (((placesQ P S).filter fun p => decide (livesB P S p = g)).filter (onSide s)).map restOf
/-- few rests on each side -/
def FewR (P S : List Pr) : Prop := ∀ s, ((placesQ P S).filter (onSide s)).length ≤ 63
/-- the rests that live, or do not, in their order -/
def RsIs (P S : List Pr) (g : Bool) (rs : List (Bool × Wd)) : Prop := ∃ a b : List Wd, rs = a.map (fun r => (true, r)) ++ b.map (fun r => (false, r)) ∧ a.Perm (sideQ P S g true) ∧ b.Perm (sideQ P S g false) ∧ sortedS (a.map Sx) = true ∧ sortedS (b.map Sx) = true
theorem sx_map_inj {a b : List Wd} (h : a.map Sx = b.map Sx) : a = b := by
  induction a generalizing b with
  | nil =>
    cases b with
    | nil => rfl
    | cons _ _ => cases h
  | cons x r ih =>
    cases b with
    | nil => cases h
    | cons y s =>
      rw [List.map_cons, List.map_cons] at h
      injection h with h1 h2
      rw [Sx_inj h1, ih h2]
theorem RsIs.inj {P S : List Pr} {g : Bool} {rs rs' : List (Bool × Wd)} (h : RsIs P S g rs) (k : RsIs P S g rs') : rs = rs' := by
  obtain ⟨a, b, rfl, p1, p2, s1, s2⟩ := h
  obtain ⟨c, d, rfl, q1, q2, t1, t2⟩ := k
  rw [sx_map_inj (sorted_one s1 t1 ((p1.trans q1.symm).map Sx)), sx_map_inj (sorted_one s2 t2 ((p2.trans q2.symm).map Sx))]
theorem filter_swap {α : Type} (f g : α → Bool) (l : List α) : (l.filter f).filter g = (l.filter g).filter f := by
  rw [List.filter_filter, List.filter_filter]
  exact List.filter_congr fun x _ => Bool.and_comm _ _
theorem side_few {P S : List Pr} (h : FewR P S) (g s : Bool) : (sideQ P S g s).length ≤ 63 := by
  unfold sideQ
  rw [List.length_map, filter_swap]
  exact Nat.le_trans (List.length_filter_le _ _) (h s)
theorem RsIs.mem {P S : List Pr} {g : Bool} {rs : List (Bool × Wd)} (h : RsIs P S g rs) {q : Bool × Wd} (hq : q ∈ rs) : Pl.rest q.1 q.2 ∈ placesQ P S ∧ livesB P S (.rest q.1 q.2) = g := by
  have side : ∀ {s : Bool} {r : Wd}, r ∈ sideQ P S g s → Pl.rest s r ∈ placesQ P S ∧ livesB P S (.rest s r) = g := fun {s r} hr => by
    obtain ⟨p, hp, e⟩ := List.mem_map.mp hr
    obtain ⟨hp1, hp2⟩ := List.mem_filter.mp hp
    obtain ⟨hp3, hp4⟩ := List.mem_filter.mp hp1
    cases p with
    | start => cases hp2
    | fin => cases hp2
    | rest a r' =>
      have ea : a = s := of_decide_eq_true hp2
      have er : r' = r := e
      rw [ea, er] at hp3 hp4
      exact ⟨hp3, of_decide_eq_true hp4⟩
  obtain ⟨a, b, rfl, p1, p2, _⟩ := h
  rcases List.mem_append.mp hq with m | m
  · obtain ⟨r, hr, rfl⟩ := List.mem_map.mp m
    exact side (p1.mem_iff.mp hr)
  · obtain ⟨r, hr, rfl⟩ := List.mem_map.mp m
    exact side (p2.mem_iff.mp hr)
theorem RsIs.len {P S : List Pr} {g : Bool} {rs : List (Bool × Wd)} (h : RsIs P S g rs) (f : FewR P S) : rs.length ≤ 126 := by
  obtain ⟨a, b, rfl, p1, p2, _⟩ := h
  have := side_few f g true
  have := side_few f g false
  rw [List.length_append, List.length_map, List.length_map, p1.length_eq, p2.length_eq]
  omega
theorem side_dec (s : Bool) (p : Pl) : decide (V.str (plS p).1 = V.str (sideS s)) = onSide s p := by
  cases p with
  | start => cases s <;> exact decide_eq_false (show ¬ V.str "start" = V.str _ by decide +kernel)
  | fin => cases s <;> exact decide_eq_false (show ¬ V.str "end" = V.str _ by decide +kernel)
  | rest a r =>
    refine decide_eq_decide.mpr ⟨fun e => side_inj (V.str.inj e), fun e => ?_⟩
    show V.str (sideS a) = _
    rw [e]
theorem plS_rest (p : Pl) : (plS p).2 = Sx (restOf p) := by
  cases p <;> rfl
theorem RsV.same {H H' : Hp} {v : V} {q : Bool × Wd} (h : RsV H v q) (s : Same H H') : RsV H' v q := by
  obtain ⟨c, e, h1⟩ := h
  exact ⟨c, e, s _ _ h1⟩
theorem RsV.put {H : Hp} {v : V} {q : Bool × Wd} {D : Addr} {ys : List V} {o : HO} (h : RsV H v q) (hD : H D = some (.lst ys)) : RsV (upd H D o) v q := by
  obtain ⟨c, e, h1⟩ := h
  exact ⟨c, e, by rw [upd_ne (ne_of h1 hD (fun z => nomatch z))]; exact h1⟩
def spRests (K : PySem.W.Frag) (ω : World) (aD CM : Addr) : Sp := fun vs H Q _ => ∃ (x : Addr) (g : Bool) (P S : List Pr) (Qs L R : List Pl) (W : WyL), vs = [.ref x, .bl g] ∧ MeeA K ω CM P S Qs L R W H x ∧ SqT K H aD [.str (sideS true), .str (sideS false)] ∧ PrOk P ∧ PrOk S ∧ FewR P S ∧
  ∀ (e : Addr) (rs : List (Bool × Wd)) (H' : Hp), Same H H' → RsT H' e rs → RsIs P S g rs → Q (.ref e) H'
/-- what is found when so many sides are gone through -/
def PartR (P S : List Pr) (g : Bool) (i : Nat) (rs : List (Bool × Wd)) : Prop := ∃ a b : List Wd, rs = a.map (fun r => (true, r)) ++ b.map (fun r => (false, r)) ∧ (i = 0 → a = []) ∧ (i ≤ 1 → b = []) ∧ (0 < i → a.Perm (sideQ P S g true) ∧ sortedS (a.map Sx) = true) ∧ (1 < i → b.Perm (sideQ P S g false) ∧ sortedS (b.map Sx) = true)
theorem un_mapS {ys : List Str} {xs : List Wd} (h : ys.Perm (xs.map Sx)) : ∃ zs : List Wd, ys = zs.map Sx ∧ zs.Perm xs := by
  have hs : ∀ y ∈ ys, ∃ z : Wd, y = Sx z := fun y hy => by
    obtain ⟨z, _, e⟩ := List.mem_map.mp (h.mem_iff.mp hy)
    exact ⟨z, e.symm⟩
  have ex : ∀ l : List Str, (∀ y ∈ l, ∃ z : Wd, y = Sx z) → ∃ zs : List Wd, l = zs.map Sx := by
    intro l
    induction l with
    | nil => exact fun _ => ⟨[], rfl⟩
    | cons y r ih =>
      intro hl
      obtain ⟨z, rfl⟩ := hl y List.mem_cons_self
      obtain ⟨zs, rfl⟩ := ih fun y hy => hl y (List.mem_cons_of_mem _ hy)
      exact ⟨z :: zs, rfl⟩
  obtain ⟨zs, rfl⟩ := ex ys hs
  refine ⟨zs, rfl, ?_⟩
  have h2 := h.map (fun s : Str => s.cps.toList)
  rw [List.map_map, List.map_map] at h2
  have e : ∀ l : List Wd, l.map ((fun s : Str => s.cps.toList) ∘ Sx) = l := fun l => by
    conv => rhs; rw [← List.map_id l]
    exact List.map_congr_left fun w _ => by show w.toArray.toList = w; simp
  rw [e, e] at h2
  exact h2
section
variable {P : Program} {w : World} {K : PySem.W.Frag} {mg : Str → Option Value} {base : Heap} {aS aE aV aD CM : Addr}
theorem ok_rests {f : Addr} {fd : FuncData} (F : Fun K "rests_of" "rests_of" s_rests_of f fd) (T : Tn K mg aS aE aV CM) (hSD : GV mg "SIDES" (.ref aD)) : FnOk P w K mg base CX0 1 f fd ["meetings", "living"] (spRests K w aD CM) := by
  refine F.ok sc_rests_of (fun vs H Q E h => ?_) (fun cdv A outer s H vs Q E hr h => ?_)
  · obtain ⟨x, g, P, S, Qs, L, R, W, rfl, _⟩ := h
    rfl
  · obtain ⟨x, g, P1, S1, Qs, L, R, W, rfl, ⟨⟨dx, mv, ld, wd, hx, ⟨vs0, kvs, hd, kyv, pk⟩, lv, wy, nml, nmw⟩, bf, br, few, eqQ⟩, hD, okP, okS, fewR, q⟩ := h
    refine ⟨_, (pss_cons (ps_lock (ps_setLc (i := 2) (own := [("place", 5)]) (g := gName 5) (by rfl) sc_rests_of.nd rfl rfl (sw_true rfl rfl rfl (by decide +kernel)) (pi_keysXt (w := w) rfl (pe_fldK (K := K) rfl (pv 0) rfl)) (blkOk_by (own := [("place", 5)]) (N := n_rests_of) (sc := defScope s_rests_of) (by decide +kernel)) (fun _ _ _ _ _ => (pg_name (i := 5) sc_rests_of.nd rfl (.inl rfl))) (fun _ _ _ _ _ => (pts_one (pt_cmpR op_eq (pe_cmp (pc_dinY (w := w) (K := K) rfl rfl (hu_of hr) (pv 5) (pe_fldK (K := K) rfl (pv 0) rfl)) rfl) (pv 1) (nomark _)))) (fun _ _ _ _ _ => (pv 5))))
      (pss_cons (ps_set (i := 3) sc_rests_of.nd rfl (.inl rfl) (pe_lst pa_nil))
      (pss_cons (ps_for PassesOwn.never rfl (pi_tupK (K := K) rfl (pe_gv hSD (by rfl))) (pg_name (i := 4) sc_rests_of.nd rfl (.inr rfl))
        (pss_one (ps_expr (pe_bmK (K := K) rfl PySem.F.plainAttrs_list PySem.F.slot_list_extend PySem.F.type_list_extend mt_extend (pv 3) (pa_cons (pe_lc (own := [("word", 6)]) (g := gName 6) (by rfl) sc_rests_of.nd (pi_list (pe_callB cr_sortedS (by rfl) T.sorted (by decide +kernel) (pa_cons (pe_lc (own := [("ahead", 7), ("rest", 8)]) (g := gTup K 2 (gCons (gName 7) (gCons (gName 8) gNil))) (by rfl) sc_rests_of.nd (pi_list (pv 2)) (blkOk_by (own := [("ahead", 7), ("rest", 8)]) (N := n_rests_of) (sc := defScope s_rests_of) (by decide +kernel)) (fun _ _ _ _ _ => (pg_tup (by rfl) (pgs_cons (pg_name (i := 7) sc_rests_of.nd rfl (.inl rfl)) (pgs_cons (pg_name (i := 8) sc_rests_of.nd rfl (.inl rfl)) pgs_nil)))) (fun _ _ _ _ _ => (pts_one (pt_cmpR op_eq (pv 7) (pv 4) (nomark _)))) (fun _ _ _ _ _ => (pe_callTy call_strS (by rfl) T.str (by decide +kernel) (pa_cons (pv 8) pa_nil)))) pa_nil))) (blkOk_by (own := [("word", 6)]) (N := n_rests_of) (sc := defScope s_rests_of) (by decide +kernel)) (fun _ _ _ _ _ => (pg_name (i := 6) sc_rests_of.nd rfl (.inl rfl))) (fun _ _ _ _ _ => pts_nil) (fun _ _ _ _ _ => (pe_tup (pa_cons (pv 4) (pa_cons (pv 6) pa_nil))))) pa_nil)))))
      (pss_one (ps_ret (pe_callTy (call_tuple_ofK (K := K) rfl) (by rfl) T.tuple (by decide +kernel) (pa_cons (pv 3) pa_nil))))))), ?_⟩
    have lkv := prd_len pk
    have lv0 := prd_len kyv
    refine ⟨mv, _, hd, True.intro, fun od => ⟨_, rfl, x, CM, dx, _, V.ref mv, rfl, ?_, T.cl, T.n1, fM_m mv ld wd, mv, od, vs0, kvs, rfl, upd_same, ?_⟩⟩
    · rw [upd_ne (ne_of hx hd (fun z => nomatch z))]
      exact hx
    obtain ⟨al, kl, hl0, hkl, kL⟩ := lv.at_
    have upS : ∀ {y : Addr} {xs : List V}, SqT K H y xs → SqT K (upd H mv (.frz od (DX w mv vs0 kvs))) y xs := fun e => sq_dx e hd
    have hkl1 : KyA K (upd H mv (.frz od (DX w mv vs0 kvs))) al kl := prd_imp hkl fun _ _ z => upS z
    have kyv1 : KyA K (upd H mv (.frz od (DX w mv vs0 kvs))) vs0 kvs := prd_imp kyv fun _ _ z => upS z
    have sf : ∀ c u, H c = some u → c ≠ mv → upd H mv (.frz od (DX w mv vs0 kvs)) c = some u := fun c u e n => by
      rw [upd_ne n]
      exact e
    have back : ∀ {H' : Hp}, Same (upd H mv (.frz od (DX w mv vs0 kvs))) H' → Same H (upd H' mv (DX w mv vs0 kvs)) := fun {H'} s b o e => by
      by_cases hb : b = mv
      · rw [hb, upd_same]
        rw [hb, hd] at e
        exact e
      · rw [upd_ne hb]
        exact s _ _ (sf _ _ e hb)
    clear upS
    have hx1 := sf _ _ hx (ne_of hx hd (fun z => nomatch z))
    have hl1 := sf _ _ hl0 (Ne.symm nml)
    have hmv1 : upd H mv (.frz od (DX w mv vs0 kvs)) mv = some (.frz od (DX w mv vs0 kvs)) := upd_same
    generalize upd H mv (.frz od (DX w mv vs0 kvs)) = H1 at back hx1 hl1 hmv1 hkl1 kyv1 ⊢
    refine fun D nD => lc_it (walk_keysX (w := w) (d := mv) (o := od) (as := vs0) (kvs := kvs)) (fun i H3 => ∃ qs : List Addr, Paired (PlT K H3) qs ((Qs.take i).filter fun p => decide (decide (p ∈ L) = g)) ∧ H3 D = some (.lst (qs.map V.ref)) ∧ Same H1 H3) ?_ ?_ ?_ ?_
    · exact ⟨[], .nil, upd_same, same_put (s := Same.refl H1) nD⟩
    · rintro i H3 hi ⟨qs, _, _, s3⟩
      exact s3 _ _ hmv1
    · rintro i y H30 H3 hi ⟨qs, pq, hD3, s3⟩ ⟨rfl, qk, hbk, rfl⟩
      obtain ⟨⟨k, v⟩, hkv, hqk0⟩ := prd_at kyv1 hbk
      obtain ⟨p, hp, ek, _⟩ := prd_at pk hkv
      have ek : k = plK p := ek
      subst ek
      have hqk : PlT K H3 qk p := sq_same hqk0 s3
      have lq := prd_len pq
      have lf : ((Qs.take i).filter fun p => decide (decide (p ∈ L) = g)).length ≤ 542 := Nat.le_trans (List.length_filter_le _ _) (by rw [List.length_take]; omega)
      have ef : (Qs.take (i + 1)).filter (fun p => decide (decide (p ∈ L) = g)) = ((Qs.take i).filter fun p => decide (decide (p ∈ L) = g)) ++ if decide (decide (p ∈ L) = g) = true then [p] else [] := by
        rw [List.take_add_one, hp, List.filter_append]
        congr 1
        show List.filter _ [p] = _
        rw [List.filter_cons]
        rfl
      refine ⟨rfl, _, rfl, _, rfl, x, CM, dx, _, V.ref ld, rfl, s3 _ _ hx1, T.cl, T.n2, fM_l mv ld wd, ld, _, rfl, DGetY.t (k := plK p) (s3 _ _ hl1) (ky_same hkl1 s3) hqk, _, rfl, rfl, _, rfl, ?_⟩
      rw [keysP_is kL, ef]
      have eb : decide (V.bl (decide (p ∈ L)) = V.bl g) = decide (decide (p ∈ L) = g) := decide_eq_decide.mpr ⟨fun e => V.bl.inj e, fun e => by rw [e]⟩
      rw [eb]
      by_cases hg : decide (p ∈ L) = g
      · rw [decide_eq_true hg]
        refine iteT ⟨_, rfl, _, hD3, by rw [List.length_map, sizeLine_eq]; omega, qs ++ [qk], ?_, ?_, ?_⟩
        · exact (prd_imp pq fun _ _ h => sq_lst h hD3).snoc (sq_lst hqk hD3)
        · rw [upd_same, List.map_append]
          rfl
        · intro b o e
          rw [upd_ne (ne_of_none e nD)]
          exact s3 _ _ e
      · rw [decide_eq_false hg]
        refine iteF ⟨qs, ?_, hD3, s3⟩
        show Paired _ qs (_ ++ [])
        rw [List.append_nil]
        exact pq
    rintro H3 ⟨qs, pq, hD3, s3⟩
    rw [List.take_of_length_le (by omega)] at pq
    refine ⟨s3 _ _ hmv1, ?_⟩
    have eF : (Qs.filter fun p => decide (decide (p ∈ L) = g)) = (placesQ P1 S1).filter fun p => decide (livesB P1 S1 p = g) := by
      rw [eqQ]
      refine List.filter_congr fun p hp => ?_
      rw [← eqQ] at hp
      have e1 : decide (p ∈ L) = livesB P1 S1 p := by
        rw [Bool.eq_iff_iff, decide_eq_true_iff, livesB_iff]
        exact ⟨lv.liv.live p, fun ⟨v, k⟩ => lv.all p hp v k⟩
      rw [e1]
    rw [eF] at pq
    have fl : ∀ s, ((((placesQ P1 S1).filter fun p => decide (livesB P1 S1 p = g)).filter (onSide s)).map restOf).length ≤ 63 := fun s => side_few fewR g s
    have eS : ∀ s, sideQ P1 S1 g s = (((placesQ P1 S1).filter fun p => decide (livesB P1 S1 p = g)).filter (onSide s)).map restOf := fun s => rfl
    have lq := prd_len pq
    have okF : ∀ p ∈ (placesQ P1 S1).filter fun p => decide (livesB P1 S1 p = g), p ∈ Qs := fun p hp => by
      rw [eqQ]
      exact (List.mem_filter.mp hp).1
    have sB := back s3
    have pqB : Paired (PlT K (upd H3 mv (DX w mv vs0 kvs))) qs ((placesQ P1 S1).filter fun p => decide (livesB P1 S1 p = g)) := prd_imp pq fun _ _ h => sq_ne h (s3 _ _ hmv1) (fun z => nomatch z) (fun _ z => nomatch z)
    have hDB : upd H3 mv (DX w mv vs0 kvs) D = some (.lst (qs.map V.ref)) := by
      rw [upd_ne (ne_of hD3 (s3 _ _ hmv1) (fun z => nomatch z))]
      exact hD3
    have lF : ((placesQ P1 S1).filter fun p => decide (livesB P1 S1 p = g)).length ≤ 542 := by
      refine Nat.le_trans (List.length_filter_le _ _) ?_
      rw [← eqQ]
      exact few
    generalize (placesQ P1 S1).filter (fun p => decide (livesB P1 S1 p = g)) = F at pqB lq fl eS okF lF
    show Ends.nx _ _ (upd H3 mv (DX w mv vs0 kvs))
    generalize upd H3 mv (DX w mv vs0 kvs) = H4 at sB pqB hDB ⊢
    have hD4 := sq_same hD sB
    refine ⟨Nat.zero_le _, fun fd nfd => ?_⟩
    have hfd0 : upd H4 fd (.lst []) fd = some (.lst []) := upd_same
    have s40 := same_put (s := Same.refl H4) (o := .lst []) nfd
    show tSeq _ _ _ _ (upd H4 fd (.lst []))
    generalize upd H4 fd (.lst []) = H5 at hfd0 s40 ⊢
    refine ⟨aD, rfl, ⟨_, sq_same hD4 s40⟩, for_it (walk_tup (K := K) (a := aD) (xs := [.str (sideS true), .str (sideS false)])) (fun i σ H6 => ∃ (rs : List (Bool × Wd)) (vs : List V) (v4 v5 v6 v7 v8 : Option V), σ = [some (.ref x), some (.bl g), some (.ref D), some (.ref fd), v4, v5, v6, v7, v8] ∧
      H6 fd = some (.lst vs) ∧ Paired (RsV H6) vs rs ∧ PartR P1 S1 g i rs ∧ rs.length ≤ 63 * i ∧ Same H4 H6) ?_ ?_ ?_ ?_⟩
    · exact ⟨[], [], none, none, none, none, none, rfl, hfd0, .nil, ⟨[], [], rfl, fun _ => rfl, fun _ => rfl, fun z => absurd z (by decide), fun z => absurd z (by decide)⟩, Nat.le_refl _, s40⟩
    · rintro i σ H6 hi ⟨rs, vs, v4, v5, v6, v7, v8, _, _, _, _, _, s6⟩
      exact sq_same hD4 s6
    · rintro i y σ H60 H6 hi ⟨rs, vs, v4, v5, v6, v7, v8, rfl, hfd6, pr6, part, lrs, s6⟩ ⟨rfl, hy⟩
      have hi2 : i < 2 := hi
      obtain ⟨s, hs, hsi⟩ : ∃ s : Bool, y = .str (sideS s) ∧ s = decide (i = 0) := by
        match i, hi2 with
        | 0, _ => exact ⟨true, (Option.some.inj hy).symm, rfl⟩
        | 1, _ => exact ⟨false, (Option.some.inj hy).symm, rfl⟩
      subst hs
      have lvs := prd_len pr6
      have pq6 : Paired (PlT K H6) qs F := prd_imp pqB fun _ _ h => sq_same h s6
      have hD6 := s6 _ _ hDB
      refine ⟨_, rfl, .inl ⟨rfl, _, SqL.of hfd6⟩, ?_⟩
      -- the rests of this side
      refine ⟨_, rfl, D, rfl, ⟨_, SqL.of hD6⟩, fun D2 nD2 => lc_it (walk_list (K := K) (a := D) (xs := qs.map V.ref)) (fun j H7 => H7 = upd H6 D2 (.lst (((((F.take j).filter (onSide s)).map restOf).map Sx).map V.str))) rfl ?_ ?_ ?_⟩
      · rintro j H7 hj rfl
        exact SqL.of (by rw [upd_ne (ne_of_none hD6 nD2)]; exact hD6)
      · rintro j y H70 H7 hj rfl ⟨eH, hy2⟩
        rw [eH]
        obtain ⟨b, hb, rfl⟩ : ∃ b, qs[j]? = some b ∧ y = .ref b := by
          rw [List.getElem?_map] at hy2
          obtain ⟨b, hb, e⟩ := Option.map_eq_some_iff.mp hy2
          exact ⟨b, hb, e.symm⟩
        obtain ⟨p, hp, hpl⟩ := prd_at pq6 hb
        have hpl : SqT K H6 b (plV p) := hpl
        have s7 := same_put (s := Same.refl H6) (o := .lst (((((F.take j).filter (onSide s)).map restOf).map Sx).map V.str)) nD2
        have et : (F.take (j + 1)).filter (onSide s) = (F.take j).filter (onSide s) ++ if onSide s p = true then [p] else [] := by
          rw [List.take_add_one, hp, List.filter_append]
          congr 1
          show List.filter _ [p] = _
          rw [List.filter_cons]
          rfl
        have lj : ((((F.take j).filter (onSide s)).map restOf).map Sx).length ≤ 600 := by
          rw [List.length_map, List.length_map]
          refine Nat.le_trans (List.length_filter_le _ _) ?_
          rw [List.length_take]
          have lqq := congrArg List.length (rfl : qs = qs)
          have h1 : j < qs.length := by
            have := (List.getElem?_eq_some_iff.mp hb).1
            exact this
          have h2 := lF
          omega
        refine ⟨b, _, rfl, sq_same hpl s7, rfl, _, _, rfl, _, _, rfl, rfl, ?_⟩
        refine ⟨rfl, _, rfl, _, rfl, rfl, _, rfl, ?_⟩
        rw [side_dec, et]
        cases eo : onSide s p with
        | false =>
          refine iteF ?_
          rw [if_neg (by decide), List.append_nil]
        | true =>
          refine iteT ⟨_, rfl, _, rfl, _, upd_same, by rw [List.length_map, sizeLine_eq]; omega, ?_⟩
          rw [if_pos rfl, upd_upd, plS_rest, List.map_append, List.map_append, List.map_append]
          rfl
      rintro H7 rfl
      rw [List.take_of_length_le (by rw [List.length_map, lq]; exact Nat.le_refl _)]
      have fls := fl s
      rw [← eS] at fls ⊢
      have s7 := same_put (s := Same.refl H6) (o := .lst (((sideQ P1 S1 g s).map Sx).map V.str)) nD2
      have hD27 : upd H6 D2 (.lst (((sideQ P1 S1 g s).map Sx).map V.str)) D2 = some (.lst (((sideQ P1 S1 g s).map Sx).map V.str)) := upd_same
      generalize upd H6 D2 (.lst (((sideQ P1 S1 g s).map Sx).map V.str)) = H7 at s7 hD27 ⊢
      refine ⟨D2, (sideQ P1 S1 g s).map Sx, rfl, SqL.of hD27, by rw [List.length_map]; omega, fun ys p2 pm so np2 => ?_⟩
      obtain ⟨zs, rfl, pz⟩ := un_mapS pm
      have lz := pz.length_eq
      have s8 := same_put (s := s7) (o := .lst ((zs.map Sx).map V.str)) np2
      have hp28 : upd H7 p2 (.lst ((zs.map Sx).map V.str)) p2 = some (.lst ((zs.map Sx).map V.str)) := upd_same
      refine ⟨p2, rfl, ⟨_, SqL.of upd_same⟩, fun D3 nD3 => ?_⟩
      generalize upd H7 p2 (.lst ((zs.map Sx).map V.str)) = H8 at s8 hp28 nD3 ⊢
      refine lc_it (walk_list (K := K) (a := p2) (xs := (zs.map Sx).map V.str)) (fun j H9 => ∃ ws, Paired (RsV H9) ws ((zs.take j).map fun r => (s, r)) ∧ H9 D3 = some (.lst ws) ∧ Same H8 H9) ?_ ?_ ?_ ?_
      · exact ⟨[], .nil, upd_same, same_put (s := Same.refl H8) nD3⟩
      · rintro j H9 hj ⟨ws, _, _, s9⟩
        exact SqL.of (s9 _ _ hp28)
      · rintro j y H90 H9 hj ⟨ws, pw, hD39, s9⟩ ⟨rfl, hy2⟩
        obtain ⟨r, hr, rfl⟩ : ∃ r, zs[j]? = some r ∧ y = .str (Sx r) := by
          rw [List.getElem?_map, List.getElem?_map] at hy2
          obtain ⟨b, hb, e⟩ := Option.map_eq_some_iff.mp hy2
          obtain ⟨r, hr, e2⟩ := Option.map_eq_some_iff.mp hb
          exact ⟨r, hr, by rw [← e, ← e2]⟩
        have lw := prd_len pw
        rw [List.length_map, List.length_take] at lw
        refine ⟨rfl, _, rfl, _, rfl, by show 2 ≤ sizeLine; decide, fun c nc => ?_⟩
        have sc := same_put (s := Same.refl H9) (o := .tup [.str (sideS s), .str (Sx r)]) nc
        have hc : upd H9 c (.tup [.str (sideS s), .str (Sx r)]) c = some (.tup [.str (sideS s), .str (Sx r)]) := upd_same
        have hD3c := sc _ _ hD39
        generalize upd H9 c (.tup [.str (sideS s), .str (Sx r)]) = H10 at sc hc hD3c ⊢
        refine ⟨_, hD3c, by rw [sizeLine_eq]; omega, ws ++ [.ref c], ?_, upd_same, ?_⟩
        · rw [List.take_add_one, hr, List.map_append]
          exact (prd_imp pw fun _ _ z => (z.same sc).put hD3c).snoc (RsV.put ⟨c, rfl, hc⟩ hD3c)
        · intro b o e
          rw [upd_ne (ne_of_none e nD3)]
          exact sc _ _ (s9 _ _ e)
      rintro H9 ⟨ws, pw, hD39, s9⟩
      rw [List.take_of_length_le (by rw [List.length_map, List.length_map]; exact Nat.le_refl _)] at pw
      have s69 : Same H6 H9 := fun b o e => s9 _ _ (s8 _ _ e)
      have hfd9 := s69 _ _ hfd6
      have lw := prd_len pw
      rw [List.length_map] at lw
      refine ⟨fd, D3, vs, ws, rfl, rfl, hfd9, hD39, by rw [sizeLine_eq]; omega, ?_⟩
      have nfd4 : ∀ {b o}, H4 b = some o → b ≠ fd := fun {b o} e z => by
        rw [z] at e
        rw [nfd] at e
        cases e
      refine ⟨rs ++ zs.map (fun r => (s, r)), vs ++ ws, _, _, _, _, _, rfl, upd_same, ?_, ?_, ?_, ?_⟩
      · exact prd_app (prd_imp pr6 fun _ _ z => (z.same s69).put hfd9) (prd_imp pw fun _ _ z => z.put hfd9)
      · obtain ⟨a, b, er, p1, p2', p3, p4⟩ := part
        match i, hi2 with
        | 0, _ =>
          have hsi : s = true := hsi
          subst hsi
          have ea := p1 rfl
          have eb := p2' (by decide)
          subst ea eb
          refine ⟨zs, [], by rw [er]; simp, fun z => absurd z (by decide), fun _ => rfl, fun _ => ⟨pz, so⟩, fun z => absurd z (by decide)⟩
        | 1, _ =>
          have hsi : s = false := hsi
          subst hsi
          have eb := p2' (by decide)
          subst eb
          refine ⟨a, zs, by rw [er, List.map_nil, List.append_nil], fun z => absurd z (by decide), fun z => absurd z (by decide), fun _ => p3 (by decide), fun _ => ⟨pz, so⟩⟩
      · rw [List.length_append, List.length_map]
        omega
      · intro b o e
        rw [upd_ne (nfd4 e)]
        exact s69 _ _ (s6 _ _ e)
    · rintro σ H6 ⟨rs, vs, v4, v5, v6, v7, v8, rfl, hfd6, pr6, ⟨a, b, er, _, _, p3, p4⟩, lrs, s6⟩
      obtain ⟨pa, sa⟩ := p3 (by show 0 < 2; decide)
      obtain ⟨pb, sb⟩ := p4 (by show 1 < 2; decide)
      refine ⟨_, rfl, fd, vs, rfl, .inl ⟨SqL.of hfd6, fun e ne => ?_⟩⟩
      refine q e rs _ (fun b o h => same_put (s := Same.refl H6) ne _ _ (s6 _ _ (sB _ _ h))) ⟨vs, upd_same, prd_imp pr6 fun _ _ z => z.same (same_put (s := Same.refl H6) ne)⟩ ⟨a, b, er, pa, pb, sa, sb⟩
end
end V8
set_option Elab.async false
set_option linter.all false
set_option maxRecDepth 100000
set_option maxHeartbeats 8000000
set_option pp.maxSteps 900
/-! The leads. -/
namespace V8
open PySem PySem.Spec PyProof.Rows L2 MZ
variable {K : PySem.W.Frag} {ω : World}
abbrev s_leads_of : Stmt := topS 55
abbrev n_leads_of : List Str := ["meetings", "rest"]
theorem sc_leads_of : FnScope ["meetings", "rest"] ["meetings"] (defScope s_leads_of) := ⟨rfl, rfl, rfl, by decide +kernel, rfl, by decide +kernel, by decide +kernel⟩
theorem op_catTK {X : Cx} {K : PySem.W.Frag} (hK : X.K = K) : OpR X (binaryOp .Add) (rCatT K) := by
  subst hK
  exact op_catT
/-- the lead of a rest -/
def leadQ (P S : List Pr) (q : Bool × Wd) : Bool × List Nat := (lead (wayTo (waysW P S .start) (.rest q.1 q.2))).getD (true, [])
def LsV (P S : List Pr) (H : Hp) (v : V) (q : Bool × Wd) : Prop := ∃ c, v = .ref c ∧ H c = some (.tup [.str (sideS q.1), .str (Sx q.2), .str (sideS (leadQ P S q).1), .str (Sx (leadQ P S q).2)])
def LsT (P S : List Pr) (H : Hp) (e : Addr) (rs : List (Bool × Wd)) : Prop := ∃ vs, H e = some (.tup vs) ∧ Paired (LsV P S H) vs rs
theorem LsV.same {P S : List Pr} {H H' : Hp} {v : V} {q : Bool × Wd} (h : LsV P S H v q) (s : Same H H') : LsV P S H' v q := by
  obtain ⟨c, e, h1⟩ := h
  exact ⟨c, e, s _ _ h1⟩
theorem LsV.put {P S : List Pr} {H : Hp} {v : V} {q : Bool × Wd} {D : Addr} {ys : List V} {o : HO} (h : LsV P S H v q) (hD : H D = some (.lst ys)) : LsV P S (upd H D o) v q := by
  obtain ⟨c, e, h1⟩ := h
  exact ⟨c, e, by rw [upd_ne (ne_of h1 hD (fun z => nomatch z))]; exact h1⟩
theorem MeeA.same {CM : Addr} {P S : List Pr} {Qs L R : List Pl} {W : WyL} {H H' : Hp} {x : Addr} (h : MeeA K ω CM P S Qs L R W H x) (s : Same H H') : MeeA K ω CM P S Qs L R W H' x := by
  obtain ⟨⟨dx, mv, ld, wd, h1, h2, h3, h4, n1, n2⟩, b, c, d, e⟩ := h
  exact ⟨⟨dx, mv, ld, wd, s _ _ h1, h2.ni (NI.ofSame s), h3.ni (NI.ofSame s), h4.ni (NI.ofSame s), n1, n2⟩, b, c, d, e⟩
def spLeads (K : PySem.W.Frag) (ω : World) (aD CM : Addr) : Sp := fun vs H Q _ => ∃ (x : Addr) (P S : List Pr) (Qs L R : List Pl) (W : WyL), vs = [.ref x] ∧ MeeA K ω CM P S Qs L R W H x ∧ SqT K H aD [.str (sideS true), .str (sideS false)] ∧ PrOk P ∧ PrOk S ∧ FewR P S ∧ Alike P S ∧
  ∀ (e : Addr) (rs : List (Bool × Wd)) (H' : Hp), Same H H' → LsT P S H' e rs → RsIs P S true rs → Q (.ref e) H'
section
variable {P : Program} {w : World} {K : PySem.W.Frag} {mg : Str → Option Value} {base : Heap} {aS aE aV aD CM : Addr}
theorem ok_leads {f : Addr} {fd : FuncData} (F : Fun K "leads_of" "leads_of" s_leads_of f fd) (T : Tn K mg aS aE aV CM) (D_rests_of : Df P w K mg base 1 "rests_of" (spRests K w aD CM)) (D_lead_of : Df P w K mg base 1 "lead_of" (spLead K)) : FnOk P w K mg base CX0 2 f fd ["meetings"] (spLeads K w aD CM) := by
  refine F.ok sc_leads_of (fun vs H Q E h => ?_) (fun cdv A outer s H vs Q E hr h => ?_)
  · obtain ⟨x, P, S, Qs, L, R, W, rfl, _⟩ := h
    rfl
  · obtain ⟨x, P1, S1, Qs, L, R, W, rfl, me, hD, okP, okS, fewR, ak, q⟩ := h
    refine ⟨_, (pss_one (ps_ret (pe_callTy (call_tuple_ofK (K := K) rfl) (by rfl) T.tuple (by decide +kernel) (pa_cons (pe_lc (own := [("rest", 1)]) (g := gName 1) (by rfl) sc_leads_of.nd (pi_tupK (K := K) rfl (pe_c D_rests_of hr (by decide) (by rfl) (pa_cons (pv 0) (pa_cons pe_bl pa_nil)))) (blkOk_by (own := [("rest", 1)]) (N := n_leads_of) (sc := defScope s_leads_of) (by decide +kernel)) (fun _ _ _ _ _ => (pg_name (i := 1) sc_leads_of.nd rfl (.inl rfl))) (fun _ _ _ _ _ => pts_nil) (fun _ _ _ _ _ => (pe_op (op_catTK (K := K) rfl) (pv 1) (pe_c D_lead_of hr (by decide) (by rfl) (pa_cons (pe_dgetY (w := w) (K := K) rfl rfl (hu_of hr) (pe_fldK (K := K) rfl (pv 0) rfl) (pv 1) (fun _ _ => rfl)) pa_nil))))) pa_nil)))), ?_⟩
    refine ⟨_, rfl, x, true, P1, S1, Qs, L, R, W, rfl, me, hD, okP, okS, fewR, fun e rs H1 s1 hrs isr => ?_⟩
    obtain ⟨vs, hvs, prs⟩ := hrs
    have lvs := prd_len prs
    have lrs := isr.len fewR
    have me1 := me.same s1
    refine ⟨e, rfl, ⟨_, .inl (.inl hvs)⟩, fun D nD => lc_it (walk_tup (K := K) (a := e) (xs := vs)) (fun i H2 => ∃ ws, Paired (LsV P1 S1 H2) ws (rs.take i) ∧ H2 D = some (.lst ws) ∧ Same H1 H2) ?_ ?_ ?_ ?_⟩
    · exact ⟨[], .nil, upd_same, same_put (s := Same.refl H1) nD⟩
    · rintro i H2 hi ⟨ws, _, _, s2⟩
      exact .inl (.inl (s2 _ _ hvs))
    · rintro i y H20 H2 hi ⟨ws, pw, hD2, s2⟩ ⟨rfl, hy⟩
      obtain ⟨r, hr0, c, rfl, hc⟩ := prd_at prs hy
      have lw := prd_len pw
      rw [List.length_take] at lw
      obtain ⟨hrQ, hrl⟩ := isr.mem (List.mem_of_getElem? hr0)
      obtain ⟨⟨dx, mv, ld, wd, hx, am, lv, wy, n1, n2⟩, bf, br, few, eqQ⟩ := me1.same s2
      rw [← eqQ] at hrQ
      have hrR : Pl.rest r.1 r.2 ∈ R := (br.all _).mpr ((bf.all _).mp hrQ)
      obtain ⟨aw, kw, cw, hw1, hwk, hw2, hw3, kw4, lw5⟩ := wys_at wy br.nd hrR
      have lw6 : (wayTo W (.rest r.1 r.2)).1.length + (wayTo W (.rest r.1 r.2)).2.length ≤ 600 := lw5
      have hc2 := s2 _ _ hc
      have el : lead (wayTo W (.rest r.1 r.2)) = some (leadQ P1 S1 r) := by
        obtain ⟨v, kv⟩ := livesB_iff.mp hrl
        have e1 := ak _ (kw4.trans kv)
        obtain ⟨k, e2, _⟩ := lead_back e1 e1
        unfold leadQ
        rw [← wy.2.2.2, e2]
        rfl
      refine ⟨rfl, _, rfl, _, rfl, x, CM, dx, _, V.ref wd, rfl, hx, T.cl, T.n3, fM_w mv ld wd, _, rfl, wd, _, rfl, (by rw [← hw2]; exact DGetY.t (k := plK (.rest r.1 r.2)) hw1 hwk (SqT.of hc2)), cw, _, rfl, hw3, by omega, by omega, fun lv_ H3 s3 hl3 => ?_⟩
      rw [el] at hl3
      obtain ⟨b, rfl, hb⟩ := hl3
      refine ⟨c, b, _, _, rfl, rfl, SqT.of (s3 _ _ hc2), hb, (by intro z; cases z), by show 4 ≤ sizeLine; decide, (fun z => by cases z), fun _ p np => ?_⟩
      have s4 := same_put (s := s3) (o := .tup ([V.str (sideS r.1), V.str (Sx r.2)] ++ [V.str (sideS (leadQ P1 S1 r).1), V.str (Sx (leadQ P1 S1 r).2)])) np
      have hp : upd H3 p (.tup ([V.str (sideS r.1), V.str (Sx r.2)] ++ [V.str (sideS (leadQ P1 S1 r).1), V.str (Sx (leadQ P1 S1 r).2)])) p = some (.tup [V.str (sideS r.1), V.str (Sx r.2), V.str (sideS (leadQ P1 S1 r).1), V.str (Sx (leadQ P1 S1 r).2)]) := upd_same
      have hD4 := s4 _ _ hD2
      generalize upd H3 p (.tup ([V.str (sideS r.1), V.str (Sx r.2)] ++ [V.str (sideS (leadQ P1 S1 r).1), V.str (Sx (leadQ P1 S1 r).2)])) = H4 at s4 hp hD4 ⊢
      refine ⟨_, hD4, by rw [sizeLine_eq]; omega, ws ++ [.ref p], ?_, upd_same, ?_⟩
      · rw [List.take_add_one, hr0]
        exact (prd_imp pw fun _ _ z => (z.same s4).put hD4).snoc (LsV.put ⟨p, rfl, hp⟩ hD4)
      · intro b o e
        rw [upd_ne (ne_of_none e nD)]
        exact s4 _ _ (s2 _ _ e)
    · rintro H2 ⟨ws, pw, hD2, s2⟩
      rw [List.take_of_length_le (by omega)] at pw
      refine ⟨D, ws, rfl, .inl ⟨SqL.of hD2, fun e2 ne => ?_⟩⟩
      have s3 := same_put (s := Same.refl H2) (o := .tup ws) ne
      exact q e2 rs _ (fun b o h => s3 _ _ (s2 _ _ (s1 _ _ h))) ⟨ws, upd_same, prd_imp pw fun _ _ z => z.same s3⟩ isr
end
end V8
set_option Elab.async false
set_option linter.all false
set_option maxRecDepth 100000
set_option maxHeartbeats 8000000
set_option pp.maxSteps 900
/-! Values of tuples, texts and None: copied and compared. -/
namespace V8
open PySem PySem.Spec PyProof.Rows L2 MZ
variable {K : PySem.W.Frag} {ω : World}
mutual
/-- a value of tuples, texts and None -/
inductive TV (H : Hp) : V → PyData → Prop
  | non : TV H .non .none
  | str (z : Str) : TV H (.str z) (.str z)
  | int (i : Int) : TV H (.int i) (.int i)
  | tup {a : Addr} {xs : List V} {ds : List PyData} : H a = some (.tup xs) → TVs H xs ds → TV H (.ref a) (.tuple ds)
inductive TVs (H : Hp) : List V → List PyData → Prop
  | nil : TVs H [] []
  | cons {x : V} {d : PyData} {xs : List V} {ds : List PyData} : TV H x d → TVs H xs ds → TVs H (x :: xs) (d :: ds)
end
mutual
theorem TV.keep {H H2 : Hp} (s : ∀ b xs, H b = some (.tup xs) → H2 b = some (.tup xs)) : ∀ {x : V} {d : PyData}, TV H x d → TV H2 x d
  | _, _, .non => .non
  | _, _, .str z => .str z
  | _, _, .int i => .int i
  | _, _, .tup h r => .tup (s _ _ h) (TVs.keep s r)
theorem TVs.keep {H H2 : Hp} (s : ∀ b xs, H b = some (.tup xs) → H2 b = some (.tup xs)) : ∀ {xs : List V} {ds : List PyData}, TVs H xs ds → TVs H2 xs ds
  | _, _, .nil => .nil
  | _, _, .cons h r => .cons (TV.keep s h) (TVs.keep s r)
end
theorem TV.same {H H2 : Hp} {x : V} {d : PyData} (h : TV H x d) (s : Same H H2) : TV H2 x d := h.keep fun b xs e => s b _ e
theorem TVs.same {H H2 : Hp} {xs : List V} {ds : List PyData} (h : TVs H xs ds) (s : Same H H2) : TVs H2 xs ds := h.keep fun b xs e => s b _ e
theorem TVs.put {H : Hp} {xs : List V} {ds : List PyData} {D : Addr} {ys : List V} {o : HO} (h : TVs H xs ds) (hD : H D = some (.lst ys)) : TVs (upd H D o) xs ds := h.keep fun b zs e => by
  rw [upd_ne (ne_of e hD (fun z => nomatch z))]
  exact e
theorem TV.put {H : Hp} {x : V} {d : PyData} {D : Addr} {ys : List V} {o : HO} (h : TV H x d) (hD : H D = some (.lst ys)) : TV (upd H D o) x d := h.keep fun b zs e => by
  rw [upd_ne (ne_of e hD (fun z => nomatch z))]
  exact e
theorem TVs.len {H : Hp} : ∀ {xs : List V} {ds : List PyData}, TVs H xs ds → xs.length = ds.length
  | _, _, .nil => rfl
  | _, _, .cons _ r => congrArg Nat.succ (TVs.len r)
theorem TVs.at {H : Hp} : ∀ {xs : List V} {ds : List PyData} {i : Nat} {x : V}, TVs H xs ds → xs[i]? = some x → ∃ d, ds[i]? = some d ∧ TV H x d
  | _, _, i, x, .nil, e => by simp at e
  | _, _, 0, x, .cons h _, e => by
    rw [List.getElem?_cons_zero] at e
    cases e
    exact ⟨_, rfl, h⟩
  | _, _, i + 1, x, .cons _ r, e => by
    rw [List.getElem?_cons_succ] at e ⊢
    exact TVs.at r e
theorem TVs.snoc {H : Hp} : ∀ {xs : List V} {ds : List PyData} {x : V} {d : PyData}, TVs H xs ds → TV H x d → TVs H (xs ++ [x]) (ds ++ [d])
  | _, _, _, _, .nil, h => .cons h .nil
  | _, _, _, _, .cons h r, k => .cons h (TVs.snoc r k)
def FlT (d : PyData) : Prop := d = .none ∨ (∃ z, d = .str z ∧ PyData.strOk z = true) ∨ ∃ i, d = .int i
/-- at most so deep -/
def TD : Nat → PyData → Prop
  | 0, d => FlT d
  | n + 1, d => FlT d ∨ ∃ ds, d = .tuple ds ∧ ds.length ≤ 200 ∧ ∀ e ∈ ds, TD n e
theorem TD.flat {d : PyData} (h : FlT d) : ∀ n, TD n d
  | 0 => h
  | _ + 1 => .inl h
theorem TD.up : ∀ {n : Nat} {d : PyData}, TD n d → TD (n + 1) d
  | 0, _, h => .inl h
  | n + 1, _, .inl h => .inl h
  | n + 1, _, .inr ⟨ds, e, l, k⟩ => .inr ⟨ds, e, l, fun x hx => TD.up (k x hx)⟩
theorem td_cases {n : Nat} {d : PyData} (h : TD n d) : FlT d ∨ ∃ m ds, n = m + 1 ∧ d = .tuple ds ∧ ds.length ≤ 200 ∧ ∀ e ∈ ds, TD m e := by
  cases n with
  | zero => exact .inl h
  | succ m =>
    rcases h with h | ⟨ds, e, l, k⟩
    · exact .inl h
    · exact .inr ⟨m, ds, rfl, e, l, k⟩
theorem flt_ty {H : Hp} {x : V} {d : PyData} (h : TV H x d) (f : FlT d) : Flat x := by
  rcases f with rfl | ⟨z, rfl, _⟩ | ⟨i, rfl⟩
  · cases h
    exact .inr (.inr (.inl rfl))
  · cases h
    exact .inl ⟨z, rfl⟩
  · cases h
    exact .inr (.inl ⟨i, rfl⟩)
structure Te (mg : Str → Option Value) : Prop extends Tq mg where
  bool : mg "bool" = none
  all : mg "all" = none
  zip : mg "zip" = none
def spCopT (n : Nat) : Sp := fun vs H Q _ => ∃ (x : V) (d : PyData), vs = [x] ∧ TV H x d ∧ TD n d ∧ ∀ y H', Same H H' → TV H' y d → Q y H'
section
variable {P : Program} {w : World} {K : PySem.W.Frag} {mg : Str → Option Value} {base : Heap}
theorem ok_copT {f : Addr} {fd : FuncData} {n k : Nat} (F : Fun K "copied" "copied" s_copied f fd) (T : Te mg) (D_copied : Df P w K mg base k "copied" (if n = 0 then fun _ _ _ _ => False else spCopT (n - 1))) : FnOk P w K mg base CX0 (k + 1) f fd ["value"] (spCopT n) := by
  refine F.ok sc_copied (fun vs H Q E h => ?_) (fun cdv A outer s H vs Q E hr h => ?_)
  · obtain ⟨x, d, rfl, _⟩ := h
    rfl
  · obtain ⟨x, d, rfl, tv, td, q⟩ := h
    refine ⟨_, (pss_cons (ps_if (pt_val (pe_callB call_isi (by rfl) T.isinstance (by decide +kernel) (pa_cons (pv 0) (pa_cons (pe_bltn (v := .ty "list") (by rfl) T.list (by decide +kernel) rfl) pa_nil))))
        (pss_one (ps_ret (pe_lc (own := [("part", 1)]) (g := gName 1) (by rfl) sc_copied.nd (pi_list (pv 0)) (blkOk_by (own := [("part", 1)]) (N := n_copied) (sc := defScope s_copied) (by decide +kernel)) (fun _ _ _ _ _ => (pg_name (i := 1) sc_copied.nd rfl (.inl rfl))) (fun _ _ _ _ _ => pts_nil) (fun _ _ _ _ _ => (pe_c D_copied hr (Nat.le_refl _) (by rfl) (pa_cons (pv 1) pa_nil))))))
        pss_nil)
      (pss_cons (ps_if (pt_val (pe_callB call_isi (by rfl) T.isinstance (by decide +kernel) (pa_cons (pv 0) (pa_cons (pe_bltn (v := .ty "tuple") (by rfl) T.tuple (by decide +kernel) rfl) pa_nil))))
        (pss_one (ps_ret (pe_callTy (call_tuple_ofK (K := K) rfl) (by rfl) T.tuple (by decide +kernel) (pa_cons (pe_lc (own := [("part", 1)]) (g := gName 1) (by rfl) sc_copied.nd (pi_tup (pv 0)) (blkOk_by (own := [("part", 1)]) (N := n_copied) (sc := defScope s_copied) (by decide +kernel)) (fun _ _ _ _ _ => (pg_name (i := 1) sc_copied.nd rfl (.inl rfl))) (fun _ _ _ _ _ => pts_nil) (fun _ _ _ _ _ => (pe_c D_copied hr (Nat.le_refl _) (by rfl) (pa_cons (pv 1) pa_nil)))) pa_nil))))
        pss_nil)
      (pss_cons (ps_if (pt_val (pe_callB call_isi (by rfl) T.isinstance (by decide +kernel) (pa_cons (pv 0) (pa_cons (pe_bltn (v := .ty "dict") (by rfl) T.dict (by decide +kernel) rfl) pa_nil))))
        (pss_one (ps_ret (pe_lock (pe_dc (own := [("key", 2)]) (g := gName 2) (by rfl) sc_copied.nd (pi_keys (pv 0)) (blkOk_by (own := [("key", 2)]) (N := n_copied) (sc := defScope s_copied) (by decide +kernel)) (fun _ _ _ _ _ => (pg_name (i := 2) sc_copied.nd rfl (.inl rfl))) (fun _ _ _ _ _ => pts_nil) (fun _ _ _ _ _ => (pv 2)) (fun _ _ _ _ _ => (pe_c D_copied hr (Nat.le_refl _) (by rfl) (pa_cons (pe_dget (hu_of hr) (pv 0) (pv 2) (fun _ _ => rfl)) pa_nil)))))))
        pss_nil)
      (pss_one (ps_ret (pv 0)))))), ?_⟩
    rcases td_cases td with fl | ⟨m, ds, rfl, rfl, l200, hd⟩
    · obtain ⟨t, ty, e1, e2, e3⟩ := (flt_ty tv fl).ty (K := K)
      refine ⟨_, rfl, _, .ty "list", t, .type "list", false, rfl, .ty _, ty _, e1, false, rfl, iteF ?_⟩
      refine ⟨_, rfl, _, .ty "tuple", t, .type "tuple", false, rfl, .ty _, ty _, e2, false, rfl, iteF ?_⟩
      refine ⟨_, rfl, _, .ty "dict", t, .type "dict", false, rfl, .ty _, ty _, e3, false, rfl, iteF ?_⟩
      exact ⟨_, rfl, q _ _ (Same.refl H) tv⟩
    · cases tv with
      | @tup a xs ds ha tvs =>
        have lx := tvs.len
        refine ⟨_, rfl, _, .ty "list", .type "tuple", .type "list", false, rfl, .ty _, .base (.tup ha), kit_ty (by decide +kernel), false, rfl, iteF ?_⟩
        refine ⟨_, rfl, _, .ty "tuple", .type "tuple", .type "tuple", true, rfl, .ty _, .base (.tup ha), kit_ty (by decide +kernel), true, rfl, iteT ?_⟩
        refine ⟨_, rfl, a, rfl, ⟨_, .inl (.inl ha)⟩, fun D nD => lc_it (walk_tup (K := K) (a := a) (xs := xs)) (fun i H2 => ∃ ys, TVs H2 ys (ds.take i) ∧ H2 D = some (.lst ys) ∧ Same H H2) ?_ ?_ ?_ ?_⟩
        · exact ⟨[], .nil, upd_same, same_put (s := Same.refl H) nD⟩
        · rintro i H2 hi ⟨ys, _, _, s2⟩
          exact .inl (.inl (s2 _ _ ha))
        · rintro i y H2 H3 hi ⟨ys, ty, hD, s2⟩ ⟨rfl, hy⟩
          obtain ⟨d, hdi, tv⟩ := tvs.at hy
          have ly := ty.len
          rw [List.length_take] at ly
          refine ⟨rfl, _, rfl, y, d, rfl, tv.same s2, hd d (List.mem_of_getElem? hdi), fun z H4 s4 tz => ?_⟩
          have hD4 := s4 _ _ hD
          refine ⟨_, hD4, by rw [sizeLine_eq]; omega, ys ++ [z], ?_, upd_same, ?_⟩
          · rw [List.take_add_one, hdi]
            exact ((ty.same s4).put hD4).snoc (tz.put hD4)
          · intro b o e
            rw [upd_ne (ne_of_none e nD)]
            exact s4 _ _ (s2 _ _ e)
        · rintro H2 ⟨ys, ty, hD, s2⟩
          rw [List.take_of_length_le (by omega)] at ty
          refine ⟨D, ys, rfl, .inl ⟨SqL.of hD, fun b nb => ?_⟩⟩
          exact q _ _ (same_put (s := s2) nb) (.tup upd_same (ty.same (same_put (s := Same.refl H2) nb)))
end
end V8
set_option Elab.async false
set_option linter.all false
/-! The places as a function of the words; how many stand on one side. -/
namespace MZ
theorem all8 {P : List Pr} (h8 : ∀ q ∈ P, q.1.length = 8) {p : Pl} {w : List Nat × List Nat} (h : Way P P .start p w) : ∀ a r, p = .rest a r → r.length = 8 ∧ r ∈ P.map (·.1) := by
  induction h with
  | nil => exact fun a r e => nomatch e
  | @step p w t l q k m ih =>
    intro a r e
    subst e
    cases p with
    | fin => cases m
    | start =>
      obtain ⟨x, hx, e⟩ := List.mem_map.mp m
      cases e
      exact ⟨h8 x hx, List.mem_map_of_mem hx⟩
    | rest b s =>
      obtain ⟨l8, _⟩ := ih b s rfl
      obtain ⟨z, hz, e⟩ := List.mem_filterMap.mp m
      obtain ⟨q', eb, e2⟩ := Option.map_eq_some_iff.mp e
      cases e2
      have hz8 : z.1.length = 8 := by
        cases b with
        | true => exact h8 z hz
        | false => exact h8 z hz
      exfalso
      rcases behind_cases eb with ⟨_, e3⟩ | ⟨v, nv, e3, _⟩ | ⟨v, nv, e3, _⟩
      · cases e3
      · have e4 := congrArg List.length e3
        rw [List.length_append] at e4
        exact nv (List.eq_nil_of_length_eq_zero (by omega))
      · have e4 := congrArg List.length e3
        rw [List.length_append] at e4
        exact nv (List.eq_nil_of_length_eq_zero (by omega))
theorem sumL_le : ∀ {P : List Pr}, (∀ q ∈ P, q.1.length ≤ 8) → sumL P ≤ 8 * P.length
  | [], _ => Nat.le_refl _
  | q :: P, h => by
    have h1 := h q List.mem_cons_self
    have h2 := sumL_le (P := P) fun x hx => h x (List.mem_cons_of_mem _ hx)
    show q.1.length + sumL P ≤ 8 * (P.length + 1)
    omega
theorem sumL_lt : ∀ {P : List Pr}, (∀ q ∈ P, q.1.length ≤ 8) → (∃ q ∈ P, q.1.length ≤ 7) → sumL P + 1 ≤ 8 * P.length
  | [], _, ⟨_, h, _⟩ => absurd h List.not_mem_nil
  | q :: P, h, ⟨x, hx, l⟩ => by
    have h1 := h q List.mem_cons_self
    have hP := fun x hx => h x (List.mem_cons_of_mem q (a := x) hx)
    have h2 := sumL_le (P := P) hP
    show q.1.length + sumL P + 1 ≤ 8 * (P.length + 1)
    rcases List.mem_cons.mp hx with rfl | hx
    · omega
    · have h3 := sumL_lt hP ⟨x, hx, l⟩
      omega
theorem rests_few {P : List Pr} (hP : P.length ≤ 8) (h8 : ∀ q ∈ P, q.1.length ≤ 8) (ne : ∀ q ∈ P, q.1 ≠ []) {rs : List Wd} {s : Bool} (nd : rs.Nodup) (hr : ∀ r ∈ rs, ∃ w, Way P P .start (.rest s r) w) : rs.length ≤ 63 := by
  by_cases h7 : ∃ q ∈ P, q.1.length ≤ 7
  · have hs := sumL_lt h8 h7
    have : rs.length ≤ (P.flatMap fun q => tails q.1).length := nd_le nd fun r hr2 => by
      obtain ⟨w, k⟩ := hr r hr2
      have z := (reach_uni ne k).2
      have z2 : r ≠ [] ∧ ∃ q ∈ P, ∃ a, q.1 = a ++ r := by
        cases s with
        | true => exact z
        | false => exact z
      obtain ⟨nr, q, hq, a, e⟩ := z2
      exact List.mem_flatMap.mpr ⟨q, hq, tails_has _ a r e nr⟩
    have e : (P.flatMap fun q => tails q.1).length = sumL P := by
      rw [List.length_flatMap]
      unfold sumL
      congr 1
      exact List.map_congr_left fun q _ => tails_len _
    omega
  · have e8 : ∀ q ∈ P, q.1.length = 8 := fun q hq => by
      have := h8 q hq
      have : ¬ q.1.length ≤ 7 := fun z => h7 ⟨q, hq, z⟩
      omega
    have : rs.length ≤ (P.map (·.1)).length := nd_le nd fun r hr2 => by
      obtain ⟨w, k⟩ := hr r hr2
      exact (all8 e8 k s r rfl).2
    rw [List.length_map] at this
    omega
end MZ
set_option Elab.async false
set_option linter.all false
set_option maxRecDepth 100000
set_option maxHeartbeats 4000000
/-! Own classes by their names; a def by one keyword; bool(o) by an own __bool__. -/
namespace BoO
open PySem PySem.Spec PyProof.Rows
theorem bool_new_in (prog : Program) (w : World) (x : Value) (hx : ∀ b, x ≠ .bool b) (hn : x ≠ .none) :
    MeetsIn prog w (Builtin.«bool.__new__» ⟨[.type "bool", x], []⟩) (fun A R s => wpAny (model prog w) A.in1 (truthy x) (fun b s' => R (.ok (.ret (.bool b))) s') (fun e s' => R (.error e) s') s) :=
  .of_wp fun A R s hs => by
    obtain ⟨hp, g, d, tk, os⟩ := s
    have f1 := F.conv_sub_bool
    repeat (any_goals (first | assumption | (with_reducible refine wpAny_mono hs (fun _ _ h => ?_) fun _ _ h => ?_) | wp_step))
    all_goals first | exact ⟨_, rfl, h⟩ | exact h | skip
end BoO
namespace L2
open PySem PySem.Spec PyProof.Rows BoO
section
variable {X : Cx} {n k j : Nat} {CX : CXT} {C f : Addr} {fd : FuncData} {ps ks : List Str} {sp : Sp} {E : XK}
theorem call_boolOwn (F : FnOk X.prog X.w X.K X.mg X.base CX n f fd ps sp) (hb : Binds X.K fd ps []) (hx : Passes CX X E) (o : Own X.K C "__bool__" f) (hr : Room (n + 2) X.A) :
    CallR X (.type "bool") (fun xs H Q => ∃ a dx fs, xs = [.ref a] ∧ H a = some (.ins C dx fs) ∧ sp [.ref a] H (fun v H' => ∃ b, v = .bl b ∧ Q (.bl b) H') E) := by
  intro pins s σ H xs us Q I r h
  obtain ⟨a, dx, fs, rfl, ha, hs⟩ := h
  obtain ⟨u, rfl, rx⟩ := vals1 r
  cases rx
  obtain ⟨od, J⟩ := inst_at I ha
  obtain ⟨m, hF⟩ := I.fr
  refine callType_newIn PySem.F.called_bool PySem.F.newNe_bool (PySem.F.typeCall_bool_1 _) (PySem.F.newCall_bool_1 _) (fun obj => PySem.F.args_object_init_2 obj _) PySem.F.entry_bool_new (bool_new_in X.prog X.w (.ref a) (fun _ z => nomatch z) (fun z => nomatch z)) ?_
  refine PySem.W.truthy_K hF I.ok.mod.kin J o.find o.fn (thn (run_own (Sub.here hr).in1.in1 F hb hx I (show Vals [V.ref a] [Value.ref a] from .cons rfl .nil) hs) fun v s' q => ?_)
  obtain ⟨y, H', I', ry, b, rfl, q⟩ := q
  cases ry
  exact ⟨rfl, .bl b, H', I', rfl, q⟩
theorem call_boolO (c : Mf X.prog X.w X.K X.mg X.base k C "__bool__" sp) (hr : Room j X.A) (hk : k + 2 ≤ j) :
    CallR X (.type "bool") (fun xs H Q => ∃ a dx fs, xs = [.ref a] ∧ H a = some (.ins C dx fs) ∧ sp [.ref a] H (fun v H' => ∃ b, v = .bl b ∧ Q (.bl b) H') E0) := by
  obtain ⟨f, fd, ps, F, _, o, _, b⟩ := c.ex
  exact call_boolOwn F b pass0 o (hr.mono hk)
end
/-- a class of the text by its name: its __init__ has no defaults -/
structure MkC (P : Program) (w : World) (K : PySem.W.Frag) (mg : Str → Option Value) (base : Heap) (k : Nat) (C : Addr) (x : Str) (sp : Sp) : Prop where
  ex : ∃ (f : Addr) (fd : FuncData) (ps : List Str), Mk K C f ∧ FnOk P w K mg base CX0 k f fd ps sp ∧ mg x = some (.ref C) ∧ Binds K fd ps []
section
variable {X : Cx} {n k j : Nat} {C : Addr} {x : Str} {ks : List Str} {gV : List V → List V → List V} {sp : Sp} {p pos : Pos} {e : Expr} {es : List Expr} {kws : List Keyword} {t tk : TA}
theorem pe_mkC (M : MkC X.prog X.w X.K X.mg X.base k C x sp) (hr : Room j X.A) (hj : k + 1 ≤ j) (hg : Gl X x) (ha : PA X (e :: es) t) (hdb : (x == ("__debug__" : Str)) = false := by decide)
    (he : starEach (e :: es) X.env = (false, eval e X.env) :: starEach es X.env := by rfl) (hpl : (backTo pos (starEach es X.env)).any (·.1) = false := by rfl) : PE X (.Call (.Name x p) (e :: es) [] pos) (tMake C sp [] E0 t) := by
  obtain ⟨f, fd, ps, M, F, hm, b⟩ := M.ex
  exact pe_make M F (hr.mono hj) hg hm b .nil pass0 ha hdb he hpl
end
end L2
set_option Elab.async false
set_option linter.all false
set_option maxRecDepth 100000
set_option maxHeartbeats 8000000
set_option pp.maxSteps 900
/-! A misreading's images as pairs; its checks. -/
namespace V8
open PySem PySem.Spec PyProof.Rows L2 MZ
variable {K : PySem.W.Frag} {ω : World}
abbrev s_check_misreading : Stmt := topS 37
theorem sc_check_misreading : FnScope ["value"] ["value"] (defScope s_check_misreading) := ⟨rfl, rfl, rfl, by decide +kernel, rfl, by decide +kernel, by decide +kernel⟩
abbrev s_check_length : Stmt := topS 79
abbrev n_check_length : List Str := ["misreading", "letter"]
theorem sc_check_length : FnScope ["misreading", "letter"] ["misreading"] (defScope s_check_length) := ⟨rfl, rfl, rfl, by decide +kernel, rfl, by decide +kernel, by decide +kernel⟩
abbrev s_check_images : Stmt := topS 78
theorem sc_check_images : FnScope ["misreading"] ["misreading"] (defScope s_check_images) := ⟨rfl, rfl, rfl, by decide +kernel, rfl, by decide +kernel, by decide +kernel⟩
abbrev s_image_pairs : Stmt := topS 77
abbrev n_image_pairs : List Str := ["misreading", "letter"]
theorem sc_image_pairs : FnScope ["misreading", "letter"] ["misreading"] (defScope s_image_pairs) := ⟨rfl, rfl, rfl, by decide +kernel, rfl, by decide +kernel, by decide +kernel⟩
/-- the images with their letters as labels -/
def pairsT (u : Tab) : List Pr := (keysOf u).map fun c => ((lookT u c).getD [], c)
structure OkU (u : Tab) : Prop where
  few : (keysOf u).length ≤ 8
  img : ∀ c ∈ keysOf u, ∃ s, lookT u c = some s ∧ s ≠ [] ∧ s.length ≤ 8 ∧ ∀ d ∈ s, isLt d
theorem OkU.pr {u : Tab} (o : OkU u) : ∀ q ∈ pairsT u, q.1 ≠ [] ∧ q.1.length ≤ 8 ∧ (∀ d ∈ q.1, isLt d) ∧ isLt q.2 := fun q hq => by
  obtain ⟨c, hc, rfl⟩ := List.mem_map.mp hq
  obtain ⟨s, e, h1, h2, h3⟩ := o.img c hc
  show (lookT u c).getD [] ≠ [] ∧ _
  rw [e]
  exact ⟨h1, h2, h3, keysOf_sub u c hc⟩
theorem OkU.len {u : Tab} (o : OkU u) : (pairsT u).length ≤ 8 := by
  unfold pairsT
  rw [List.length_map]
  exact o.few
theorem OkU.prOk {u : Tab} (o : OkU u) : PrOk (pairsT u) := ⟨Nat.le_trans o.len (by decide), fun q hq => ⟨Nat.le_trans (o.pr q hq).2.1 (by decide), (o.pr q hq).2.2.1⟩⟩
theorem OkU.lb {u : Tab} (o : OkU u) : LbOk (pairsT u) := fun q hq => (o.pr q hq).2.2.2
theorem OkU.ne {u : Tab} (o : OkU u) : ∀ q ∈ pairsT u, q.1 ≠ [] := fun q hq => (o.pr q hq).1
theorem runQ_reach {P S : List Pr} : ∀ n, (runQ P S n).Nodup ∧ ∀ p ∈ runQ P S n, ∃ w, Way P S .start p w
  | 0 => ⟨List.nodup_cons.mpr ⟨List.not_mem_nil, List.nodup_nil⟩, fun p hp => by
    rw [List.mem_singleton.mp hp]
    exact ⟨_, .nil⟩⟩
  | n + 1 => by
    obtain ⟨nd, h⟩ := runQ_reach (P := P) (S := S) n
    show (stepQ P S (runQ P S n) n).Nodup ∧ ∀ p ∈ stepQ P S (runQ P S n) n, _
    unfold stepQ
    cases e : (runQ P S n)[n]? with
    | none => exact ⟨nd, h⟩
    | some p =>
      refine ⟨addTo_nd _ _ nd, fun q hq => ?_⟩
      rcases (addTo_has _ _ _).mp hq with a | ⟨m, hm, rfl⟩
      · exact h q a
      · obtain ⟨w, k⟩ := h p (List.mem_of_getElem? e)
        exact ⟨_, k.step (t := m.1) (l := m.2.1) (q := m.2.2) hm⟩
theorem OkU.fewR {u : Tab} (o : OkU u) : FewR (pairsT u) (pairsT u) := fun s => by
  obtain ⟨nd, hr⟩ := runQ_reach (P := pairsT u) (S := pairsT u) 600
  have nd2 : ((placesQ (pairsT u) (pairsT u)).filter (onSide s)).Nodup := nd.filter _
  have side : ∀ {p : Pl}, onSide s p = true → p = .rest s (restOf p) := fun {p} h => by
    cases p with
    | start => cases h
    | fin => cases h
    | rest a r =>
      rw [of_decide_eq_true (show decide (a = s) = true from h)]
      rfl
  have inj : ∀ {l : List Pl}, l.Nodup → (∀ p ∈ l, onSide s p = true) → (l.map restOf).Nodup := by
    intro l
    induction l with
    | nil => exact fun _ _ => List.nodup_nil
    | cons p r ih =>
      intro nd h
      rw [List.nodup_cons] at nd
      rw [List.map_cons, List.nodup_cons]
      refine ⟨fun z => ?_, ih nd.2 fun q hq => h q (List.mem_cons_of_mem _ hq)⟩
      obtain ⟨q, hq, e⟩ := List.mem_map.mp z
      refine nd.1 ?_
      rw [side (h p List.mem_cons_self), ← e, ← side (h q (List.mem_cons_of_mem _ hq))]
      exact hq
  have nd3 : (((placesQ (pairsT u) (pairsT u)).filter (onSide s)).map restOf).Nodup := by
    exact inj nd2 fun p hp => (List.mem_filter.mp hp).2
  have z := rests_few (s := s) o.len (fun q hq => (o.pr q hq).2.1) o.ne nd3 fun r h => by
    obtain ⟨p, hp, rfl⟩ := List.mem_map.mp h
    obtain ⟨h1, h2⟩ := List.mem_filter.mp hp
    obtain ⟨w, k⟩ := hr p h1
    rw [side h2] at k
    exact ⟨w, k⟩
  rw [List.length_map] at z
  exact z
theorem MisAt.same2 {C : Addr} {H H' : Hp} {x : Addr} {u : Tab} (m : MisAt C H x u) (s : Same H H') : MisAt C H' x u := m.mono fun b o e _ => s b o e
def spChkM (CM : Addr) : Sp := fun vs H Q _ => ∃ (x : Addr) (u : Tab), vs = [.ref x] ∧ MisAt CM H x u ∧ Q .non H
def spChkL (CM : Addr) : Sp := fun vs H Q _ => ∃ (x : Addr) (u : Tab), vs = [.ref x] ∧ MisAt CM H x u ∧ OkU u ∧ ∀ H', Same H H' → Q .non H'
def spPairs (CM : Addr) : Sp := fun vs H Q _ => ∃ (x : Addr) (u : Tab), vs = [.ref x] ∧ MisAt CM H x u ∧ OkU u ∧ ∀ a H', Same H H' → PrL H' a (pairsT u) → Q (.ref a) H'
structure Tp (K : PySem.W.Frag) (mg : Str → Option Value) (CM CJ : Addr) : Prop extends Tz K mg CM CJ where
  any : mg "any" = none
  gLONGEST_IMAGE : GV mg "LONGEST_IMAGE" (.int 8)
section
variable {P : Program} {w : World} {K : PySem.W.Frag} {mg : Str → Option Value} {base : Heap} {CM CJ : Addr}
theorem ok_check_misreading {f : Addr} {fd : FuncData} (F : Fun K "check_misreading" "check_misreading" s_check_misreading f fd) (T : Tp K mg CM CJ) : FnOk P w K mg base CX0 1 f fd ["value"] (spChkM CM) := by
  refine F.ok sc_check_misreading (fun vs H Q E h => ?_) (fun cdv A outer s H vs Q E hr h => ?_)
  · obtain ⟨x, u, rfl, _⟩ := h
    rfl
  · obtain ⟨x, u, rfl, m, q⟩ := h
    refine ⟨_, (pss_one (ps_if (pt_not (pt_val (pe_callB call_isi (by rfl) T.isinstance (by decide +kernel) (pa_cons (pv 0) (pa_cons (pe_gv T.gMisreading (by rfl)) pa_nil)))))
        (pss_one ps_never)
        pss_nil)), ?_⟩
    obtain ⟨dx, fs, hx⟩ := m.ins
    exact ⟨_, rfl, _, .ref CM, .ref CM, .ref CM, true, rfl, .own _, .base (.ins hx T.cl T.tA T.tB T.tC T.tD), T.mM, true, rfl, iteF q⟩
theorem ok_check_length {f : Addr} {fd : FuncData} (F : Fun K "check_length" "check_length" s_check_length f fd) (T : Tp K mg CM CJ) (D_iter : ItM P w K mg base 1 CM (snIter CM)) (D_get : Mf P w K mg base 2 CM "__getitem__" (spGet CM)) : FnOk P w K mg base CX0 4 f fd ["misreading"] (spChkL CM) := by
  refine F.ok sc_check_length (fun vs H Q E h => ?_) (fun cdv A outer s H vs Q E hr h => ?_)
  · obtain ⟨x, u, rfl, _⟩ := h
    rfl
  · obtain ⟨x, u, rfl, m, ok, q⟩ := h
    refine ⟨_, (pss_one (ps_if (pt_val (pe_callB (cr_any rfl) (by rfl) T.any (by decide +kernel) (pa_cons (pe_lc (own := [("letter", 1)]) (g := gName 1) (by rfl) sc_check_length.nd (pi_ownI D_iter hr (by decide) (pv 0)) (blkOk_by (own := [("letter", 1)]) (N := n_check_length) (sc := defScope s_check_length) (by decide +kernel)) (fun _ _ _ _ _ => (pg_name (i := 1) sc_check_length.nd rfl (.inl rfl))) (fun _ _ _ _ _ => pts_nil) (fun _ _ _ _ _ => (pe_cmpR op_gt (pe_callB call_len_str (by rfl) T.len (by decide +kernel) (pa_cons (pe_ixO D_get hr (by decide) (pv 0) (pv 1)) pa_nil)) (pe_gv T.gLONGEST_IMAGE (by rfl)) (nomark _)))) pa_nil)))
        (pss_one ps_never)
        pss_nil)), ?_⟩
    have few := ok.few
    have lk := lets_len (keysOf u)
    obtain ⟨dx0, fs0, hx0⟩ := m.ins
    refine ⟨_, rfl, x, dx0, _, rfl, hx0, fun k0 hk0 => ⟨x, u, rfl, m, fun it a ni hi ha => ⟨it, a, rfl, hi, upd_same, ?_⟩⟩⟩
    rw [dropH_upd ni]
    refine fun D nD => lc_it (walk_tup (K := K) (a := a) (xs := lets (keysOf u))) (fun i H2 => H2 D = some (.lst ((List.replicate i false).map V.bl)) ∧ Same H H2) ?_ ?_ ?_ ?_
    · exact ⟨upd_same, same_put (s := Same.refl H) nD⟩
    · rintro i H2 hi ⟨_, s2⟩
      exact .inl (.inl (s2 _ _ ha))
    · rintro i y H20 H2 hi ⟨hD, s2⟩ ⟨rfl, hy⟩
      obtain ⟨hi', rfl⟩ := lets_get hy
      have hc := List.getElem_mem hi'
      obtain ⟨s', es, n0, l8, _⟩ := ok.img _ hc
      have m2 := m.same2 s2
      obtain ⟨dx, a1, b1, c1, h1, _⟩ := m2.at_
      refine ⟨rfl, _, rfl, _, rfl, x, dx, _, rfl, h1, x, u, _, s', rfl, m2, hc, es, ?_⟩
      refine ⟨_, rfl, by rw [Sx_len, sizeLine_eq]; omega, _, _, rfl, rfl, ?_⟩
      have e0 : decide ((8 : Int) < ((Sx s').length : Int)) = false := decide_eq_false (by rw [Sx_len]; omega)
      refine ⟨_, hD, by rw [List.length_map, List.length_replicate, sizeLine_eq]; omega, ?_, fun b o e => ?_⟩
      · show upd _ _ (.lst (_ ++ [V.bl (decide ((8 : Int) < ((Sx s').length : Int)))])) D = _
        rw [upd_same, e0, List.replicate_succ', List.map_append]
        rfl
      · show upd H2 D _ b = _
        rw [upd_ne (ne_of_none e nD)]
        exact s2 _ _ e
    · rintro H2 ⟨hD, s2⟩
      refine ⟨D, _, rfl, SqL.of hD, false, ?_, iteF (q H2 s2)⟩
      have e0 : ∀ n : Nat, (List.replicate n false).any id = false := fun n => by
        induction n with
        | zero => rfl
        | succ n ih => rw [List.replicate_succ, List.any_cons, ih]; rfl
      rw [e0]
theorem ok_check_images {f : Addr} {fd : FuncData} (F : Fun K "check_images" "check_images" s_check_images f fd) (T : Tp K mg CM CJ) (D_check_misreading : Df P w K mg base 1 "check_misreading" (spChkM CM)) (D_check_length : Df P w K mg base 4 "check_length" (spChkL CM)) : FnOk P w K mg base CX0 5 f fd ["misreading"] (spChkL CM) := by
  refine F.ok sc_check_images (fun vs H Q E h => ?_) (fun cdv A outer s H vs Q E hr h => ?_)
  · obtain ⟨x, u, rfl, _⟩ := h
    rfl
  · obtain ⟨x, u, rfl, m, ok, q⟩ := h
    refine ⟨_, (pss_cons (ps_expr (pe_c D_check_misreading hr (by decide) (by rfl) (pa_cons (pv 0) pa_nil)))
      (pss_one (ps_expr (pe_c D_check_length hr (by decide) (by rfl) (pa_cons (pv 0) pa_nil))))), ?_⟩
    refine ⟨_, rfl, x, u, rfl, m, ?_⟩
    exact ⟨_, rfl, x, u, rfl, m, ok, fun H' s => q H' s⟩
theorem ok_image_pairs {f : Addr} {fd : FuncData} (F : Fun K "image_pairs" "image_pairs" s_image_pairs f fd) (T : Tp K mg CM CJ) (D_iter : ItM P w K mg base 1 CM (snIter CM)) (D_get : Mf P w K mg base 2 CM "__getitem__" (spGet CM)) : FnOk P w K mg base CX0 4 f fd ["misreading"] (spPairs CM) := by
  refine F.ok sc_image_pairs (fun vs H Q E h => ?_) (fun cdv A outer s H vs Q E hr h => ?_)
  · obtain ⟨x, u, rfl, _⟩ := h
    rfl
  · obtain ⟨x, u, rfl, m, ok, q⟩ := h
    refine ⟨_, (pss_one (ps_ret (pe_lc (own := [("letter", 1)]) (g := gName 1) (by rfl) sc_image_pairs.nd (pi_ownI D_iter hr (by decide) (pv 0)) (blkOk_by (own := [("letter", 1)]) (N := n_image_pairs) (sc := defScope s_image_pairs) (by decide +kernel)) (fun _ _ _ _ _ => (pg_name (i := 1) sc_image_pairs.nd rfl (.inl rfl))) (fun _ _ _ _ _ => pts_nil) (fun _ _ _ _ _ => (pe_tup (pa_cons (pe_ixO D_get hr (by decide) (pv 0) (pv 1)) (pa_cons (pv 1) pa_nil))))))), ?_⟩
    have few := ok.few
    have lk := lets_len (keysOf u)
    obtain ⟨dx0, fs0, hx0⟩ := m.ins
    refine ⟨_, rfl, x, dx0, _, rfl, hx0, fun k0 hk0 => ⟨x, u, rfl, m, fun it a ni hi ha => ⟨it, a, rfl, hi, upd_same, ?_⟩⟩⟩
    rw [dropH_upd ni]
    refine fun D nD => lc_it (walk_tup (K := K) (a := a) (xs := lets (keysOf u))) (fun i H2 => ∃ ys, Paired (PrT H2) ys ((pairsT u).take i) ∧ H2 D = some (.lst ys) ∧ Same H H2) ?_ ?_ ?_ ?_
    · exact ⟨[], .nil, upd_same, same_put (s := Same.refl H) nD⟩
    · rintro i H2 hi ⟨ys, _, _, s2⟩
      exact .inl (.inl (s2 _ _ ha))
    · rintro i y H20 H2 hi ⟨ys, pr, hD, s2⟩ ⟨rfl, hy⟩
      obtain ⟨hi', rfl⟩ := lets_get hy
      have hc := List.getElem_mem hi'
      obtain ⟨s', es, n0, l8, _⟩ := ok.img _ hc
      have m2 := m.same2 s2
      obtain ⟨dx, a1, b1, c1, h1, _⟩ := m2.at_
      have ly := prd_len pr
      rw [List.length_take] at ly
      have ep : (pairsT u)[i]? = some (s', (keysOf u)[i]) := by
        unfold pairsT
        rw [List.getElem?_map, List.getElem?_eq_getElem hi']
        show some ((lookT u _).getD [], _) = _
        rw [es]
        rfl
      refine ⟨rfl, _, rfl, _, rfl, x, dx, _, rfl, h1, x, u, _, s', rfl, m2, hc, es, _, rfl, by show 2 ≤ sizeLine; decide, fun p np => ?_⟩
      have s3 := same_put (s := Same.refl H2) (o := .tup [.str (Sx s'), .str (L1 (keysOf u)[i])]) np
      have hp : upd H2 p (.tup [.str (Sx s'), .str (L1 (keysOf u)[i])]) p = some (.tup [.str (Sx s'), .str (L1 (keysOf u)[i])]) := upd_same
      have hD3 := s3 _ _ hD
      generalize upd H2 p (.tup [.str (Sx s'), .str (L1 (keysOf u)[i])]) = H3 at s3 hp hD3 ⊢
      refine ⟨_, hD3, by rw [sizeLine_eq]; omega, ys ++ [.ref p], ?_, upd_same, ?_⟩
      · rw [List.take_add_one, ep]
        have up : ∀ {v : V} {q0 : Pr}, PrT H3 v q0 → PrT (upd H3 D (.lst (ys ++ [.ref p]))) v q0 := fun {v q0} ⟨c, e, h⟩ => ⟨c, e, by rw [upd_ne (ne_of h hD3 (fun z => nomatch z))]; exact h⟩
        exact (prd_imp pr fun _ _ z => up (z.same s3)).snoc (up ⟨p, rfl, hp⟩)
      · intro b o e
        rw [upd_ne (ne_of_none e nD)]
        exact s3 _ _ (s2 _ _ e)
    · rintro H2 ⟨ys, pr, hD, s2⟩
      rw [List.take_of_length_le (by rw [lk]; unfold pairsT; rw [List.length_map]; exact Nat.le_refl _)] at pr
      exact q D H2 s2 ⟨ys, hD, pr⟩
end
end V8
set_option Elab.async false
set_option linter.all false
set_option maxRecDepth 100000
set_option maxHeartbeats 8000000
set_option pp.maxSteps 900
/-! The papers of merging: made, compared, True or False. -/
namespace V8
open PySem PySem.Spec PyProof.Rows L2 MZ
variable {K : PySem.W.Frag} {ω : World}
abbrev s_OneToOne_init : Stmt := inClass (topS 71) 0
theorem sc_OneToOne_init : FnScope ["self", "leads", "dead"] ["self", "leads", "dead"] (defScope s_OneToOne_init) := ⟨rfl, rfl, rfl, by decide +kernel, rfl, by decide +kernel, by decide +kernel⟩
abbrev s_OneToOne_bool : Stmt := inClass (topS 71) 2
theorem sc_OneToOne_bool : FnScope ["self"] ["self"] (defScope s_OneToOne_bool) := ⟨rfl, rfl, rfl, by decide +kernel, rfl, by decide +kernel, by decide +kernel⟩
abbrev s_Merged_init : Stmt := inClass (topS 72) 0
theorem sc_Merged_init : FnScope ["self", "one", "other"] ["self", "one", "other"] (defScope s_Merged_init) := ⟨rfl, rfl, rfl, by decide +kernel, rfl, by decide +kernel, by decide +kernel⟩
abbrev s_Merged_bool : Stmt := inClass (topS 72) 2
theorem sc_Merged_bool : FnScope ["self"] ["self"] (defScope s_Merged_bool) := ⟨rfl, rfl, rfl, by decide +kernel, rfl, by decide +kernel, by decide +kernel⟩
def fO (a b : V) : List (Str × V) := putF "dead" b (putF "leads" a [])
theorem fO_l (a b : V) : (fO a b).lookup ("leads" : Str) = some a := by rfl
def fR (a b : V) : List (Str × V) := putF "other" b (putF "one" a [])
theorem fR_o (a b : V) : (fR a b).lookup ("one" : Str) = some a := by rfl
theorem fR_t (a b : V) : (fR a b).lookup ("other" : Str) = some b := by rfl
structure Tv (K : PySem.W.Frag) (mg : Str → Option Value) (CO CR : Addr) : Prop extends Te mg where
  clO : Cls K CO
  clR : Cls K CR
  nO1 : NoAttr K CO "leads"
  nO2 : NoAttr K CO "dead"
  nR1 : NoAttr K CR "one"
  nR2 : NoAttr K CR "other"
  gOneToOne : GV mg "OneToOne" (.ref CO)
  gMerged : GV mg "Merged" (.ref CR)
  /-- what an instance's type is, for the tests below -/
  tyO : ∀ (H : Hp) (x dx : Addr) (fs : List (Str × V)), H x = some (.ins CO dx fs) → TyX K H (.ref x) (.ref CO)
  tyR : ∀ (H : Hp) (x dx : Addr) (fs : List (Str × V)), H x = some (.ins CR dx fs) → TyX K H (.ref x) (.ref CR)
  kOO : PySem.W.kitOne K (.ref CO) (.ref CO) = some true
  kRR : PySem.W.kitOne K (.ref CR) (.ref CR) = some true
/-- all but x stays -/
def ButX (x : Addr) (H H' : Hp) : Prop := ∀ c o, H c = some o → c ≠ x → H' c = some o
def spOneI (CO : Addr) : Sp := fun vs H Q _ => ∃ (x dx : Addr) (a b : V) (da db : PyData), vs = [.ref x, a, b] ∧ H x = some (.ins CO dx []) ∧ TV H a da ∧ TD 2 da ∧ TV H b db ∧ TD 2 db ∧
  ∀ a' b' H', ButX x H H' → H' x = some (.ins CO dx (fO a' b')) → TV H' a' da → TV H' b' db → Q .non H'
def spMrgI (CR : Addr) : Sp := fun vs H Q _ => ∃ (x dx : Addr) (a b : V) (da db : PyData), vs = [.ref x, a, b] ∧ H x = some (.ins CR dx []) ∧ Told2 H a ∧ PyW H a da ∧ Told2 H b ∧ PyW H b db ∧
  ∀ a' b' H', ButX x H H' → H' x = some (.ins CR dx (fR a' b')) → PyW H' a' da → PyW H' b' db → Q .non H'
def spTrue (b : Bool) : Sp := fun vs H Q _ => ∃ x : Addr, vs = [.ref x] ∧ Q (.bl b) H
section
variable {P : Program} {w : World} {K : PySem.W.Frag} {mg : Str → Option Value} {base : Heap} {CO CR : Addr}
theorem PyW.butx {H H' : Hp} {x : Addr} {v : V} {d : PyData} {C dx : Addr} {fs : List (Str × V)} (p : PyW H v d) (s : ButX x H H') (hx : H x = some (.ins C dx fs)) : PyW H' v d := p.keep fun b o e k => s b o e fun z => by
  rw [z, hx] at e
  cases e
  rcases k with ⟨xs, k⟩ | ⟨xs, k⟩ | ⟨xs, k⟩ <;> cases k
theorem TV.butx {H H' : Hp} {x : Addr} {v : V} {d : PyData} {C dx : Addr} {fs : List (Str × V)} (p : TV H v d) (s : ButX x H H') (hx : H x = some (.ins C dx fs)) : TV H' v d := p.keep fun b ys e => s b _ e fun z => by
  rw [z, hx] at e
  cases e
theorem ok_oneI {f : Addr} {fd : FuncData} (F : Fun K "__init__" "OneToOne.__init__" s_OneToOne_init f fd) (T : Tv K mg CO CR) (D_copied : Df P w K mg base 3 "copied" (spCopT 2)) : FnOk P w K mg base CX0 4 f fd ["self", "leads", "dead"] (spOneI CO) := by
  refine F.ok sc_OneToOne_init (fun vs H Q E h => ?_) (fun cdv A outer s H vs Q E hr h => ?_)
  · obtain ⟨x, dx, a, b, da, db, rfl, _⟩ := h
    rfl
  · obtain ⟨x, dx, a, b, da, db, rfl, hx, ta, a2, tb, b2, q⟩ := h
    refine ⟨_, (pss_cons (ps_fld (pv 0) (pe_c D_copied hr (by decide) (by rfl) (pa_cons (pv 1) pa_nil)) rfl)
      (pss_one (ps_fld (pv 0) (pe_c D_copied hr (by decide) (by rfl) (pa_cons (pv 2) pa_nil)) rfl))), ?_⟩
    refine ⟨_, rfl, a, da, rfl, ta, a2, fun a' H1 s1 ta' => ?_⟩
    have hx1 := s1 _ _ hx
    refine ⟨_, rfl, x, CO, dx, _, rfl, hx1, T.clO, T.nO1, by show 0 < 1000; decide, ?_⟩
    have k1 : ButX x H (upd H1 x (.ins CO dx (putF "leads" a' []))) := fun c o e n => by
      rw [upd_ne n]
      exact s1 _ _ e
    have k2 : ButX x H1 (upd H1 x (.ins CO dx (putF "leads" a' []))) := fun c o e n => by
      rw [upd_ne n]
      exact e
    have hx2 : upd H1 x (.ins CO dx (putF "leads" a' [])) x = some (.ins CO dx (putF "leads" a' [])) := upd_same
    show Ends.nx _ _ (upd H1 x (.ins CO dx (putF "leads" a' [])))
    have ta2 := ta'.butx k2 hx1
    have tb2 := tb.butx k1 hx
    generalize upd H1 x (.ins CO dx (putF "leads" a' [])) = H2 at k1 hx2 ta2 tb2 ⊢
    refine ⟨_, rfl, b, db, rfl, tb2, b2, fun b' H3 s3 tb' => ?_⟩
    have hx3 := s3 _ _ hx2
    refine ⟨_, rfl, x, CO, dx, _, rfl, hx3, T.clO, T.nO2, by show 1 < 1000; decide, ?_⟩
    have k4 : ButX x H3 (upd H3 x (.ins CO dx (fO a' b'))) := fun c o e n => by
      rw [upd_ne n]
      exact e
    exact q a' b' _ (fun c o e n => by
      show upd H3 x _ c = _
      rw [upd_ne n]
      exact s3 _ _ (k1 _ _ e n)) upd_same ((ta2.same s3).butx k4 hx3) (tb'.butx k4 hx3)
theorem ok_mrgI {f : Addr} {fd : FuncData} (F : Fun K "__init__" "Merged.__init__" s_Merged_init f fd) (T : Tv K mg CO CR) (D_copied : Df P w K mg base 2 "copied" spCopyW) : FnOk P w K mg base CX0 4 f fd ["self", "one", "other"] (spMrgI CR) := by
  refine F.ok sc_Merged_init (fun vs H Q E h => ?_) (fun cdv A outer s H vs Q E hr h => ?_)
  · obtain ⟨x, dx, a, b, da, db, rfl, _⟩ := h
    rfl
  · obtain ⟨x, dx, a, b, da, db, rfl, hx, ta, a2, tb, b2, q⟩ := h
    refine ⟨_, (pss_cons (ps_fld (pv 0) (pe_c D_copied hr (by decide) (by rfl) (pa_cons (pv 1) pa_nil)) rfl)
      (pss_one (ps_fld (pv 0) (pe_c D_copied hr (by decide) (by rfl) (pa_cons (pv 2) pa_nil)) rfl))), ?_⟩
    refine ⟨_, rfl, a, da, rfl, ta, a2, fun a' H1 s1 ta' => ?_⟩
    have hx1 := s1 _ _ hx
    refine ⟨_, rfl, x, CR, dx, _, rfl, hx1, T.clR, T.nR1, by show 0 < 1000; decide, ?_⟩
    have k1 : ButX x H (upd H1 x (.ins CR dx (putF "one" a' []))) := fun c o e n => by
      rw [upd_ne n]
      exact s1 _ _ e
    have k2 : ButX x H1 (upd H1 x (.ins CR dx (putF "one" a' []))) := fun c o e n => by
      rw [upd_ne n]
      exact e
    have hx2 : upd H1 x (.ins CR dx (putF "one" a' [])) x = some (.ins CR dx (putF "one" a' [])) := upd_same
    show Ends.nx _ _ (upd H1 x (.ins CR dx (putF "one" a' [])))
    have ta2 := PyW.butx ta' k2 hx1
    have tb2 := PyW.butx b2 k1 hx
    have td2 : Told2 (upd H1 x (.ins CR dx (putF "one" a' []))) b := by
      rcases tb with f | ⟨c, xs, e, h, l, g⟩ | ⟨c, kvs, e, h, l, n, g⟩
      · exact .inl f
      · refine .inr (.inl ⟨c, xs, e, h.imp (fun h => k1 _ _ h ?_) (fun h => k1 _ _ h ?_), l, g⟩)
        · exact ne_of h hx (fun z => nomatch z)
        · exact ne_of h hx (fun z => nomatch z)
      · exact .inr (.inr ⟨c, kvs, e, k1 _ _ h (ne_of h hx (fun z => nomatch z)), l, n, g⟩)
    generalize upd H1 x (.ins CR dx (putF "one" a' [])) = H2 at k1 hx2 ta2 tb2 td2 ⊢
    refine ⟨_, rfl, b, db, rfl, td2, tb2, fun b' H3 s3 tb' => ?_⟩
    have hx3 := s3 _ _ hx2
    refine ⟨_, rfl, x, CR, dx, _, rfl, hx3, T.clR, T.nR2, by show 1 < 1000; decide, ?_⟩
    have k4 : ButX x H3 (upd H3 x (.ins CR dx (fR a' b'))) := fun c o e n => by
      rw [upd_ne n]
      exact e
    exact q a' b' _ (fun c o e n => by
      show upd H3 x _ c = _
      rw [upd_ne n]
      exact s3 _ _ (k1 _ _ e n)) upd_same (PyW.butx (PyW.same s3 ta2) k4 hx3) (PyW.butx tb' k4 hx3)
theorem ok_oneB {f : Addr} {fd : FuncData} (F : Fun K "__bool__" "OneToOne.__bool__" s_OneToOne_bool f fd) : FnOk P w K mg base CX0 1 f fd ["self"] (spTrue true) := by
  refine F.ok sc_OneToOne_bool (fun vs H Q E h => ?_) (fun cdv A outer s H vs Q E hr h => ?_)
  · obtain ⟨x, rfl, _⟩ := h
    rfl
  · obtain ⟨x, rfl, q⟩ := h
    refine ⟨_, (pss_one (ps_ret pe_bl)), ?_⟩
    exact q
theorem ok_mrgB {f : Addr} {fd : FuncData} (F : Fun K "__bool__" "Merged.__bool__" s_Merged_bool f fd) : FnOk P w K mg base CX0 1 f fd ["self"] (spTrue false) := by
  refine F.ok sc_Merged_bool (fun vs H Q E h => ?_) (fun cdv A outer s H vs Q E hr h => ?_)
  · obtain ⟨x, rfl, _⟩ := h
    rfl
  · obtain ⟨x, rfl, q⟩ := h
    refine ⟨_, (pss_one (ps_ret pe_bl)), ?_⟩
    exact q
end
end V8
set_option Elab.async false
set_option linter.all false
set_option maxRecDepth 100000
set_option maxHeartbeats 8000000
set_option pp.maxSteps 900
/-! merging. -/
namespace V8
open PySem PySem.Spec PyProof.Rows L2 MZ
variable {K : PySem.W.Frag} {ω : World}
abbrev s_merging : Stmt := topS 73
theorem sc_merging : FnScope ["misreading", "pairs", "meetings", "unlike", "one", "other"] ["misreading"] (defScope s_merging) := ⟨rfl, rfl, rfl, by decide +kernel, rfl, by decide +kernel, by decide +kernel⟩
def leadsD (P : List Pr) (rs : List (Bool × Wd)) : PyData := .tuple (rs.map fun q => .tuple [.str (sideS q.1), .str (Sx q.2), .str (sideS (leadQ P P q).1), .str (Sx (leadQ P P q).2)])
def restsD (rs : List (Bool × Wd)) : PyData := .tuple (rs.map fun q => .tuple [.str (sideS q.1), .str (Sx q.2)])
theorem ls_tv {P : List Pr} {H : Hp} {e : Addr} {rs : List (Bool × Wd)} (h : LsT P P H e rs) : TV H (.ref e) (leadsD P rs) := by
  obtain ⟨vs, h1, h2⟩ := h
  refine .tup h1 ?_
  clear h1
  induction h2 with
  | nil => exact .nil
  | cons r _ ih =>
    obtain ⟨c, rfl, hc⟩ := r
    exact .cons (.tup hc (.cons (.str _) (.cons (.str _) (.cons (.str _) (.cons (.str _) .nil))))) ih
theorem rs_tv {H : Hp} {e : Addr} {rs : List (Bool × Wd)} (h : RsT H e rs) : TV H (.ref e) (restsD rs) := by
  obtain ⟨vs, h1, h2⟩ := h
  refine .tup h1 ?_
  clear h1
  induction h2 with
  | nil => exact .nil
  | cons r _ ih =>
    obtain ⟨c, rfl, hc⟩ := r
    exact .cons (.tup hc (.cons (.str _) (.cons (.str _) .nil))) ih
theorem side_ok (b : Bool) : PyData.strOk (sideS b) = true := by
  cases b with
  | true => exact (show PyData.strOk (sideS true) = true by decide +kernel)
  | false => exact (show PyData.strOk (sideS false) = true by decide +kernel)
theorem rest_lt {u : Tab} (o : OkU u) {g : Bool} {rs : List (Bool × Wd)} (h : RsIs (pairsT u) (pairsT u) g rs) {q : Bool × Wd} (hq : q ∈ rs) : ∀ c ∈ q.2, isLt c := by
  obtain ⟨h1, _⟩ := h.mem hq
  obtain ⟨w, k⟩ := (runQ_reach (P := pairsT u) (S := pairsT u) 600).2 _ h1
  exact (reach_ok o.ne o.prOk o.prOk k).2
theorem rests_td {u : Tab} (o : OkU u) {g : Bool} {rs : List (Bool × Wd)} (h : RsIs (pairsT u) (pairsT u) g rs) : TD 2 (restsD rs) := by
  refine .inr ⟨_, rfl, ?_, fun e he => ?_⟩
  · rw [List.length_map]
    exact Nat.le_trans (h.len o.fewR) (by decide)
  · obtain ⟨q, hq, rfl⟩ := List.mem_map.mp he
    refine .inr ⟨_, rfl, by show 2 ≤ 200; decide, fun e he => ?_⟩
    rcases List.mem_cons.mp he with rfl | he
    · exact .inr (.inl ⟨_, rfl, side_ok _⟩)
    · rw [List.mem_singleton.mp he]
      exact .inr (.inl ⟨_, rfl, ok_sx (rest_lt o h hq)⟩)
theorem leads_td {u : Tab} (o : OkU u) {rs : List (Bool × Wd)} (h : RsIs (pairsT u) (pairsT u) true rs) (lt : ∀ q ∈ rs, ∀ c ∈ (leadQ (pairsT u) (pairsT u) q).2, isLt c) : TD 2 (leadsD (pairsT u) rs) := by
  refine .inr ⟨_, rfl, ?_, fun e he => ?_⟩
  · rw [List.length_map]
    exact Nat.le_trans (h.len o.fewR) (by decide)
  · obtain ⟨q, hq, rfl⟩ := List.mem_map.mp he
    refine .inr ⟨_, rfl, by show 4 ≤ 200; decide, fun e he => ?_⟩
    rcases List.mem_cons.mp he with rfl | he
    · exact .inr (.inl ⟨_, rfl, side_ok _⟩)
    rcases List.mem_cons.mp he with rfl | he
    · exact .inr (.inl ⟨_, rfl, ok_sx (rest_lt o h hq)⟩)
    rcases List.mem_cons.mp he with rfl | he
    · exact .inr (.inl ⟨_, rfl, side_ok _⟩)
    · rw [List.mem_singleton.mp he]
      exact .inr (.inl ⟨_, rfl, ok_sx (lt q hq)⟩)
/-- each lead is the lead of a way -/
def LdWay (P : List Pr) (rs : List (Bool × Wd)) : Prop := ∀ q ∈ rs, ∃ w, Way P P .start (.rest q.1 q.2) w ∧ lead w = some (leadQ P P q)
/-- what merging answers -/
def VerO (CO CR : Addr) (P : List Pr) (H : Hp) (z : Addr) : Prop :=
  (∃ dx l d rs rs', Alike P P ∧ H z = some (.ins CO dx (fO l d)) ∧ TV H l (leadsD P rs) ∧ TV H d (restsD rs') ∧ RsIs P P true rs ∧ RsIs P P false rs' ∧ TD 2 (leadsD P rs) ∧ TD 2 (restsD rs') ∧ LdWay P rs ∧ ∀ p w, Way P P .start p w → p ∈ placesQ P P) ∨
  ∃ dx w, H z = some (.ins CR dx (fR (.str (Sx w.1)) (.str (Sx w.2)))) ∧ Way P P .start .fin w ∧ w.1 ≠ w.2 ∧ unlikeW P P = some w ∧ LtW w ∧ wlen w ≤ 1300
def spMerging (K : PySem.W.Frag) (aS aE aV aD CM CO CR : Addr) : Sp := fun vs H Q _ => ∃ (x : Addr) (u : Tab), vs = [.ref x] ∧ MisAt CM H x u ∧ OkU u ∧ CnH K aS aE aV H ∧ SqT K H aD [.str (sideS true), .str (sideS false)] ∧
  ∀ z H', Same H H' → H z = none → VerO CO CR (pairsT u) H' z → Q (.ref z) H'
section
variable {P : Program} {w : World} {K : PySem.W.Frag} {mg : Str → Option Value} {base : Heap} {aS aE aV aD CM CJ CG CO CR : Addr}
theorem same_mk {H : Hp} {x dx C : Addr} {o : HO} (hx : H x = none) (hd : H dx = none) : Same H (upd (upd H dx o) x (.ins C dx [])) := fun b u e => by
  rw [upd_ne (ne_of_none e hx), upd_ne (ne_of_none e hd)]
  exact e
theorem same_butx {H H1 H2 : Hp} {x : Addr} (s : Same H H1) (k : ButX x H1 H2) (hx : H x = none) : Same H H2 := fun b o e => k _ _ (s _ _ e) (ne_of_none e hx)
theorem ok_merging {f : Addr} {fd : FuncData} (F : Fun K "merging" "merging" s_merging f fd) (T : Tp K mg CM CJ) (D_check_images : Df P w K mg base 5 "check_images" (spChkL CM)) (D_image_pairs : Df P w K mg base 4 "image_pairs" (spPairs CM)) (D_Meetings : MkC P w K mg base 5 CG "Meetings" (spMee K w aS aE aV CG))
    (D_unlike_meeting : Df P w K mg base 4 "unlike_meeting" (spUnlike K w aS aE aV CG)) (D_leads_of : Df P w K mg base 2 "leads_of" (spLeads K w aD CG)) (D_rests_of : Df P w K mg base 1 "rests_of" (spRests K w aD CG))
    (D_OneToOne : MkC P w K mg base 4 CO "OneToOne" (spOneI CO)) (D_Merged : MkC P w K mg base 4 CR "Merged" (spMrgI CR)) : FnOk P w K mg base CX0 7 f fd ["misreading"] (spMerging K aS aE aV aD CM CO CR) := by
  refine F.ok sc_merging (fun vs H Q E h => ?_) (fun cdv A outer s H vs Q E hr h => ?_)
  · obtain ⟨x, u, rfl, _⟩ := h
    rfl
  · obtain ⟨x, u, rfl, m, ok, cn, hD, q⟩ := h
    refine ⟨_, (pss_cons (ps_expr (pe_c D_check_images hr (by decide) (by rfl) (pa_cons (pv 0) pa_nil)))
      (pss_cons (ps_set (i := 1) sc_merging.nd rfl (.inl rfl) (pe_c D_image_pairs hr (by decide) (by rfl) (pa_cons (pv 0) pa_nil)))
      (pss_cons (ps_set (i := 2) sc_merging.nd rfl (.inl rfl) (pe_mkC D_Meetings hr (by decide) (by rfl) (pa_cons (pv 1) (pa_cons (pv 1) pa_nil))))
      (pss_cons (ps_set (i := 3) sc_merging.nd rfl (.inl rfl) (pe_c D_unlike_meeting hr (by decide) (by rfl) (pa_cons (pv 2) pa_nil)))
      (pss_cons (ps_if (pt_cmpR op_isN (pv 3) pe_non (nomark _))
        (pss_one (ps_ret (pe_mkC D_OneToOne hr (by decide) (by rfl) (pa_cons (pe_c D_leads_of hr (by decide) (by rfl) (pa_cons (pv 2) pa_nil)) (pa_cons (pe_c D_rests_of hr (by decide) (by rfl) (pa_cons (pv 2) (pa_cons pe_bl pa_nil))) pa_nil)))))
        pss_nil)
      (pss_cons (ps_asg (pv 3) (pg_tup (by rfl) (pgs_cons (pg_name (i := 4) sc_merging.nd rfl (.inl rfl)) (pgs_cons (pg_name (i := 5) sc_merging.nd rfl (.inl rfl)) pgs_nil))))
      (pss_one (ps_ret (pe_mkC D_Merged hr (by decide) (by rfl) (pa_cons (pv 4) (pa_cons (pv 5) pa_nil))))))))))), ?_⟩
    refine ⟨_, rfl, x, u, rfl, m, ok, fun H0 s0 => ?_⟩
    refine ⟨_, rfl, x, u, rfl, m.same2 s0, ok, fun a H1 s1 hP => ?_⟩
    have s01 : Same H H1 := fun b o e => s1 _ _ (s0 _ _ e)
    refine ⟨_, rfl, _, rfl, fun g dg ng nd ne => ?_⟩
    have sm := same_mk (C := CG) (o := .own g) ng nd
    refine ⟨g, dg, a, a, pairsT u, pairsT u, rfl, upd_same, hP.same sm, hP.same sm, (cn.same s01).same sm, ok.prOk, ok.prOk, ok.ne, fun Qs L R W H2 k2 me => ⟨rfl, ?_⟩⟩
    have s12 : Same H1 H2 := same_butx sm k2 ng
    have s02 : Same H H2 := fun b o e => s12 _ _ (s01 _ _ e)
    show Ends.nx _ _ H2
    refine ⟨_, rfl, g, pairsT u, pairsT u, Qs, L, R, W, rfl, me, cn.same s02, ok.prOk, ok.prOk, ok.lb, ok.lb, ok.ne, fun ak H3 s3 => ?_, fun e v H3 s3 he hw ne2 l13 eU => ?_⟩
    · refine ⟨_, rfl, rfl, true, rfl, iteT ?_⟩
      have me3 := me.same s3
      have s03 : Same H H3 := fun b o e => s3 _ _ (s02 _ _ e)
      refine ⟨_, rfl, g, pairsT u, pairsT u, Qs, L, R, W, rfl, me3, sq_same hD s03, ok.prOk, ok.prOk, ok.fewR, ak, fun el rs H4 s4 hl isl => ?_⟩
      have me4 := me3.same s4
      have s04 : Same H H4 := fun b o e => s4 _ _ (s03 _ _ e)
      refine ⟨_, rfl, g, false, pairsT u, pairsT u, Qs, L, R, W, rfl, me4, sq_same hD s04, ok.prOk, ok.prOk, ok.fewR, fun ed rs' H5 s5 hd isd => ?_⟩
      have s05 : Same H H5 := fun b o e => s5 _ _ (s04 _ _ e)
      have tl := (ls_tv hl).same s5
      have td := rs_tv hd
      have all : ∀ p w, Way (pairsT u) (pairsT u) .start p w → p ∈ placesQ (pairsT u) (pairsT u) := fun p w k => by
        obtain ⟨_, bf, br, few, eqQ⟩ := me
        rw [← eqQ]
        exact (bf.all p).mpr ⟨w, k⟩
      have lw : LdWay (pairsT u) rs := fun q0 hq => by
        obtain ⟨h1, h2⟩ := isl.mem hq
        obtain ⟨⟨_, _, _, _, _, _, _, wy, _, _⟩, bf, br, few, eqQ⟩ := me
        rw [← eqQ] at h1
        obtain ⟨_, kw⟩ := wayTo_has wy.2.1 ((br.all _).mpr ((bf.all _).mp h1))
        obtain ⟨v, kv⟩ := livesB_iff.mp h2
        have e1 := ak _ (kw.trans kv)
        obtain ⟨k, e2, _⟩ := lead_back e1 e1
        have e3 : leadQ (pairsT u) (pairsT u) q0 = k := by
          unfold leadQ
          rw [← wy.2.2.2, e2]
          rfl
        exact ⟨_, kw, by rw [e3]; exact e2⟩
      have lt : ∀ q ∈ rs, ∀ c ∈ (leadQ (pairsT u) (pairsT u) q).2, isLt c := fun q0 hq => by
        obtain ⟨_, kw, e2⟩ := lw q0 hq
        exact lead_lt (way_lt ok.lb ok.lb kw) e2
      have td1 := leads_td ok isl lt
      have td2 := rests_td ok isd
      refine fun z dz nz ndz nez => ?_
      have sz := same_mk (C := CO) (o := .own z) nz ndz
      refine ⟨z, dz, .ref el, .ref ed, _, _, rfl, upd_same, tl.same sz, td1, td.same sz, td2, fun a' b' H6 k6 hz ta tb => ⟨rfl, ?_⟩⟩
      exact q z H6 (fun b o e => same_butx sz k6 nz _ _ (s05 _ _ e)) (same_none s05 nz) (.inl ⟨dz, a', b', rs, rs', ak, hz, ta, tb, isl, isd, td1, td2, lw, all⟩)
    · refine ⟨_, rfl, rfl, false, rfl, iteF ?_⟩
      have s03 : Same H H3 := fun b o e => s3 _ _ (s02 _ _ e)
      refine ⟨_, rfl, e, _, rfl, .inl (.inl he), rfl, _, _, rfl, _, _, rfl, rfl, ?_⟩
      refine ⟨_, rfl, _, rfl, fun z dz nz ndz nez => ?_⟩
      have sz := same_mk (C := CR) (o := .own z) nz ndz
      refine ⟨z, dz, .str (Sx v.1), .str (Sx v.2), _, _, rfl, upd_same, .inl (.inl ⟨_, rfl⟩), .str _, .inl (.inl ⟨_, rfl⟩), .str _, fun a' b' H6 k6 hz ta tb => ⟨rfl, ?_⟩⟩
      cases ta
      cases tb
      exact q z H6 (fun b o e => same_butx sz k6 nz _ _ (s03 _ _ e)) (same_none s03 nz) (.inr ⟨dz, v, hz, hw, ne2, eU, way_lt ok.lb ok.lb hw, l13⟩)
end
end V8
set_option Elab.async false
set_option linter.all false
set_option maxRecDepth 100000
set_option maxHeartbeats 8000000
/-! one <= other; only. -/
namespace V8
open PySem PySem.Spec PyProof.Rows L2
abbrev s_Misreading_only : Stmt := inClass (topS 31) 14
abbrev n_Misreading_only : List Str := ["self", "letters", "letter"]
theorem sc_Misreading_only : FnScope ["self", "letters", "letter"] ["self", "letters"] (defScope s_Misreading_only) := ⟨rfl, rfl, rfl, by decide +kernel, rfl, by decide +kernel, by decide +kernel⟩
def spOnly (CM : Addr) : Sp := fun vs H Q _ => ∃ (x : Addr) (u : Tab) (cs ws : List Nat), vs = [.ref x, .str (Sx ws)] ∧ MisAt CM H x u ∧ (∀ c ∈ ws, isLt c) ∧ ws.length ≤ 2000 ∧ Ovr cs (lk u) ∧ cs.length ≤ 12 ∧ Makes CM H (oF (lk u) ws) Q
theorem keys_take {u : Tab} {i : Nat} (hik : i < (keysOf u).length) : (keysOf u).take (i + 1) = (keysOf u).take i ++ [(keysOf u)[i]] := by
  rw [List.take_add_one, List.getElem?_eq_getElem hik]
  rfl
theorem keys_not {u : Tab} {i : Nat} {f : Fu} (hik : i < (keysOf u).length) : (keysOf u)[i] ∉ (mkT f ((keysOf u).take i)).map (·.1) := fun z => by
  have h1 := mkT_keys _ _ _ z
  have nd := keysOf_nd u
  rw [← List.take_append_drop (i + 1) (keysOf u), keys_take hik] at nd
  exact (List.nodup_append.mp (List.nodup_append.mp nd).1).2.2 _ h1 _ (by simp) rfl
/-- one letter more in the table -/
theorem put_take {u : Tab} {i : Nat} {f : Fu} {r : List Nat} (hik : i < (keysOf u).length) (e : f (keysOf u)[i] = some r) : putK (encT (mkT f ((keysOf u).take i))) (Sum.inr (L1 (keysOf u)[i])) (V.str (Sx r)) = encT (mkT f ((keysOf u).take (i + 1))) := by
  rw [putK_enc, putT_new (keys_not hik), keys_take hik, mkT_snoc, e]
theorem skip_take {u : Tab} {i : Nat} {f : Fu} (hik : i < (keysOf u).length) (e : f (keysOf u)[i] = none) : mkT f ((keysOf u).take i) = mkT f ((keysOf u).take (i + 1)) := by
  rw [keys_take hik, mkT_snoc, e]
  exact (List.append_nil _).symm
theorem mkT_small {u : Tab} (f : Fu) (i : Nat) : (encT (mkT f ((keysOf u).take i))).length < sizeLine := by
  have tl := mkT_len f ((keysOf u).take i)
  rw [List.length_take] at tl
  have := keysOf_len u
  rw [encT_len]
  exact small1000 (by omega)
section
variable {P : Program} {w : World} {K : PySem.W.Frag} {mg : Str → Option Value} {base : Heap} {CM CJ : Addr}
theorem ok_only {f : Addr} {fd : FuncData} (F : Fun K "only" "Misreading.only" s_Misreading_only f fd) (T : Tz K mg CM CJ) (D_check_text : Df P w K mg base 3 "check_text" spChkT) (D_mkJ : MkrJ P w K mg base CJ) (D_mkMJ : MkrM P w K mg base CM CJ) : FnOk P w K mg base CX0 7 f fd ["self", "letters"] (spOnly CM) := by
  refine F.ok sc_Misreading_only (fun vs H Q E h => ?_) (fun cdv A outer s H vs Q E hr h => ?_)
  · obtain ⟨x, u, cs, ws, rfl, _⟩ := h
    rfl
  · obtain ⟨x, u, cs, ws, rfl, mx, hl, h2, ov, h12, q⟩ := h
    refine ⟨_, (pss_cons (ps_expr (pe_c D_check_text hr (by decide) (by rfl) (pa_cons (pv 1) pa_nil)))
      (pss_one (ps_ret (pe_mkMJ D_mkMJ hr (by decide) (by rfl) (pa_cons (pe_mkJ D_mkJ hr (by decide) (by rfl) (pa_cons (pe_dc (own := [("letter", 2)]) (g := gName 2) (by rfl) sc_Misreading_only.nd (pi_tup (pe_fldK (K := K) rfl (pv 0) rfl)) (blkOk_by (own := [("letter", 2)]) (N := n_Misreading_only) (sc := defScope s_Misreading_only) (by decide +kernel)) (fun _ _ _ _ _ => (pg_name (i := 2) sc_Misreading_only.nd rfl (.inl rfl))) (fun _ _ _ _ _ => (pts_one (pt_cmpR op_in_sign (pv 2) (pv 1) rfl))) (fun _ _ _ _ _ => (pv 2)) (fun _ _ _ _ _ => (pe_dget (hu_of hr) (pe_fldK (K := K) rfl (pv 0) rfl) (pv 2) (fun _ _ => rfl)))) pa_nil)) pa_nil))))), ?_⟩
    have kl := keys_le ov
    obtain ⟨dx, a, b, c', hx, ha, hb, hc⟩ := id mx.at_
    refine ⟨_, rfl, ws, rfl, hl, h2, ?_⟩
    refine ⟨_, rfl, x, CM, dx, _, _, rfl, hx, T.cl, T.nL, f3_L a b c', a, rfl, ⟨_, .inl (.inl ha)⟩, fun D nD => dc_it (walk_tup (K := K) (a := a) (xs := lets (keysOf u))) (fun i H2 => H2 = upd H D (.dK (encT (mkT (oF (lk u) ws) ((keysOf u).take i))))) rfl ?_ ?_ ?_⟩
    · rintro i H2 hi rfl
      exact .inl (.inl (by rw [upd_ne (ne_of_none ha nD)]; exact ha))
    · rintro i z H2 H2' hi rfl ⟨rfl, hz⟩
      obtain ⟨hik, rfl⟩ := lets_get hz
      have hm := List.getElem_mem hik
      obtain ⟨s, e2⟩ := Option.isSome_iff_exists.mp (keysOf_mem.mp hm).2
      have e3 : lk u (keysOf u)[i] = some s := by rw [← lk_look hm]; exact e2
      have s1 : Same H (upd H D (.dK (encT (mkT (oF (lk u) ws) ((keysOf u).take i))))) := same_put (s := Same.refl H) nD
      refine ⟨rfl, _, rfl, _, rfl, (keysOf u)[i], Sx ws, rfl, rfl, ?_⟩
      have hw : (Sx ws).cps.toList = ws := rfl
      rw [hw]
      by_cases m : (keysOf u)[i] ∈ ws
      · have eo : oF (lk u) ws (keysOf u)[i] = some s := by
          show (if (keysOf u)[i] ∈ ws then lk u (keysOf u)[i] else none) = _
          rw [if_pos m]
          exact e3
        refine ⟨true, by rw [decide_eq_true m], iteT ?_⟩
        refine ⟨_, rfl, _, rfl, x, CM, dx, _, _, rfl, s1 _ _ hx, T.cl, T.nI, f3_I a b c', _, rfl, b, V.str (Sx s), rfl, .inl ⟨_, Sum.inr (L1 (keysOf u)[i]), .inl (s1 _ _ hb), rfl, by rw [valV_enc, look_ims_some hm, e2]; rfl⟩, _, Sum.inr (L1 (keysOf u)[i]), rfl, upd_same, mkT_small _ _, ?_⟩
        rw [upd_upd, put_take hik eo]
      · have eo : oF (lk u) ws (keysOf u)[i] = none := by
          show (if (keysOf u)[i] ∈ ws then lk u (keysOf u)[i] else none) = _
          rw [if_neg m]
        refine ⟨false, by rw [decide_eq_false m], iteF ?_⟩
        rw [skip_take hik eo]
    · rintro H2 rfl
      rw [lets_len, List.take_length]
      have tl := mkT_len (oF (lk u) ws) (keysOf u)
      have s1 : Same H (upd H D (.dK (encT (mkT (oF (lk u) ws) (keysOf u))))) := same_put (s := Same.refl H) nD
      have hD : upd H D (.dK (encT (mkT (oF (lk u) ws) (keysOf u)))) D = some (.dK (encT (mkT (oF (lk u) ws) (keysOf u)))) := upd_same
      refine ⟨D, rfl, fun j dj H3 nj hj s3 => ?_⟩
      refine ⟨j, dj, D, _, rfl, hj, s3 _ _ hD, by omega, fun z H4 nz mz s4 => ?_⟩
      refine q z H4 _ (same_none (s := fun b o e => s3 _ _ (s1 _ _ e)) nz) mz (mkT_lk (keysOf_nd u) fun c s h => ?_) fun b o e => s4 _ _ (s3 _ _ (s1 _ _ e))
      have hm := (lk_some (oF_le _ _ _ _ h)).1
      exact ⟨hm, keys_abc hm⟩
end
end V8
set_option Elab.async false
set_option linter.all false
set_option maxRecDepth 100000
set_option maxHeartbeats 8000000
/-! one | other. -/
namespace V8
open PySem PySem.Spec PyProof.Rows L2
abbrev s_Misreading_or : Stmt := inClass (topS 31) 11
abbrev n_Misreading_or : List Str := ["self", "other", "letter", "images"]
theorem sc_Misreading_or : FnScope ["self", "other", "letter", "images"] ["self", "other"] (defScope s_Misreading_or) := ⟨rfl, rfl, rfl, by decide +kernel, rfl, by decide +kernel, by decide +kernel⟩
theorem look_merge : ∀ {b : Tab}, (b.map (·.1)).Nodup → ∀ (a : Tab) (c : Nat), lookT (mergeT a b) c = (lookT b c).orElse fun _ => lookT a c
  | [], _, a, c => rfl
  | q :: b, nd, a, c => by
    have nd1 := List.nodup_cons.mp nd
    show lookT (mergeT (putT a q.1 q.2) b) c = _
    rw [look_merge nd1.2, look_put]
    have e := look_cons q.1 q.2 b c
    have e' : lookT (q :: b) c = if q.1 = c then some q.2 else lookT b c := e
    rw [e']
    by_cases h : q.1 = c
    · rw [if_pos h, if_pos h.symm]
      have hn : lookT b c = none := by
        cases z : lookT b c with
        | none => rfl
        | some s => exact absurd (look_iff'.mp (by rw [z]; rfl)) (by rw [← h]; exact nd1.1)
      rw [hn]
      rfl
    · rw [if_neg h, if_neg (fun z => h z.symm)]
where
  look_iff' {t : Tab} {c : Nat} : (lookT t c).isSome = true ↔ c ∈ t.map (·.1) := by
    constructor
    · intro h
      obtain ⟨s, e⟩ := Option.isSome_iff_exists.mp h
      exact List.mem_map.mpr ⟨_, look_in e, rfl⟩
    · intro h
      obtain ⟨q, hq, rfl⟩ := List.mem_map.mp h
      unfold lookT
      rw [Option.isSome_map, List.find?_isSome]
      exact ⟨q, hq, by simp⟩
theorem merge_nd : ∀ {b a : Tab}, (a.map (·.1)).Nodup → ((mergeT a b).map (·.1)).Nodup
  | [], _, h => h
  | q :: b, a, h => merge_nd (b := b) (a := putT a q.1 q.2) (put_nd h)
theorem merge_key {p : Nat → Prop} : ∀ {b a : Tab}, (∀ q ∈ a, p q.1) → (∀ q ∈ b, p q.1) → ∀ q ∈ mergeT a b, p q.1
  | [], _, h, _ => h
  | q :: b, a, h, h2 => merge_key (b := b) (a := putT a q.1 q.2) (fun z hz => by
      rcases keys_put z hz with y | rfl
      · exact h z y
      · exact h2 q (List.mem_cons_self ..)) fun z hz => h2 z (List.mem_cons_of_mem _ hz)
theorem tab_len {p : List Nat} {t : Tab} (nd : (t.map (·.1)).Nodup) (h : ∀ q ∈ t, q.1 ∈ p) : t.length ≤ p.length := by
  have := nd_len nd fun x hx => by
    obtain ⟨q, hq, rfl⟩ := List.mem_map.mp hx
    exact h q hq
  rw [List.length_map] at this
  exact this
theorem mkT_nd (f : Fu) : ∀ {ks : List Nat}, ks.Nodup → ((mkT f ks).map (·.1)).Nodup
  | [], _ => List.nodup_nil
  | k :: ks, nd => by
    have nd1 := List.nodup_cons.mp nd
    rw [mkT_cons]
    cases e : f k with
    | none => exact mkT_nd f nd1.2
    | some s =>
      show (k :: (mkT f ks).map (·.1)).Nodup
      exact List.nodup_cons.mpr ⟨fun z => nd1.1 (mkT_keys f ks k z), mkT_nd f nd1.2⟩
theorem ims_keys (u : Tab) : (ims u).map (·.1) = keysOf u := by
  unfold ims
  rw [List.map_map]
  exact List.map_id _
def spOr (CM : Addr) : Sp := fun vs H Q _ => ∃ (x y : Addr) (u v : Tab) (cs : List Nat), vs = [.ref x, .ref y] ∧ MisAt CM H x u ∧ MisAt CM H y v ∧ (∀ c s r, lk u c = some s → lk v c = some r → s = r) ∧ Ovr cs (lk u) ∧ Ovr cs (lk v) ∧ cs.length ≤ 12 ∧ Makes CM H (uF (lk u) (lk v)) Q
section
variable {P : Program} {w : World} {K : PySem.W.Frag} {mg : Str → Option Value} {base : Heap} {CM CJ : Addr}
theorem ok_or {f : Addr} {fd : FuncData} (F : Fun K "__or__" "Misreading.__or__" s_Misreading_or f fd) (T : Tz K mg CM CJ) (D_check_other : Df P w K mg base 1 "check_other" (spChkO CM)) (D_in : Mf P w K mg base 2 CM "__contains__" (spIn K CM)) (D_get : Mf P w K mg base 2 CM "__getitem__" (spGet CM)) (D_iter : ItM P w K mg base 1 CM (snIter CM))
    (D_mkJ : MkrJ P w K mg base CJ) (D_mkMJ : MkrM P w K mg base CM CJ) : FnOk P w K mg base CX0 7 f fd ["self", "other"] (spOr CM) := by
  refine F.ok sc_Misreading_or (fun vs H Q E h => ?_) (fun cdv A outer s H vs Q E hr h => ?_)
  · obtain ⟨x, y, u, v, cs, rfl, _⟩ := h
    rfl
  · obtain ⟨x, y, u, v, cs, rfl, mx, my, co, ou, ov, h12, q⟩ := h
    refine ⟨_, (pss_cons (ps_expr (pe_c D_check_other hr (by decide) (by rfl) (pa_cons (pv 1) pa_nil)))
      (pss_cons (ps_for PassesOwn.never rfl (pi_tup (pe_fldK (K := K) rfl (pv 0) rfl)) (pg_name (i := 2) sc_Misreading_or.nd rfl (.inl rfl))
        (pss_one (ps_if (PW.pt (pw_and (pt_cmpR (op_inO D_in hr (by decide)) (pv 2) (pv 1) rfl) (pw_and1 (pt_cmpR op_ne (pe_ixO D_get hr (by decide) (pv 1) (pv 2)) (pe_dget (hu_of hr) (pe_fldK (K := K) rfl (pv 0) rfl) (pv 2) (fun _ _ => rfl)) (nomark _)))))
          (pss_one ps_never)
          pss_nil)))
      (pss_cons (ps_setDc (j := 3) (own := [("letter", 2)]) (g := gName 2) (by rfl) sc_Misreading_or.nd rfl rfl (sw_trueD rfl rfl rfl (by decide +kernel)) (pi_ownI D_iter hr (by decide) (pv 1)) (blkOk_by (own := [("letter", 2)]) (N := n_Misreading_or) (sc := defScope s_Misreading_or) (by decide +kernel)) (fun _ _ _ _ _ => (pg_name (i := 2) sc_Misreading_or.nd rfl (.inl rfl))) (fun _ _ _ _ _ => pts_nil) (fun _ _ _ _ _ => (pv 2)) (fun _ _ _ _ _ => (pe_ixO D_get hr (by decide) (pv 1) (pv 2))))
      (pss_one (ps_ret (pe_mkMJ D_mkMJ hr (by decide) (by rfl) (pa_cons (pe_mkJ D_mkJ hr (by decide) (by rfl) (pa_cons (pe_merge2 (pe_fldK (K := K) rfl (pv 0) rfl) (pv 3)) pa_nil)) pa_nil))))))), ?_⟩
    have klu := keys_le ou
    have klv := keys_le ov
    obtain ⟨dx, a, b, c', hx, ha, hb, hc⟩ := id mx.at_
    obtain ⟨dy, a2, b2, c2, hy, ha2, hb2, hc2⟩ := id my.at_
    refine ⟨_, rfl, y, v, rfl, my, ?_⟩
    refine ⟨_, rfl, x, CM, dx, _, _, rfl, hx, T.cl, T.nL, f3_L a b c', a, rfl, ⟨_, .inl (.inl ha)⟩, for_it (walk_tup (K := K) (a := a) (xs := lets (keysOf u))) (fun i σ H2 => (∃ v2 : Option V, σ = [some (.ref x), some (.ref y), v2, none]) ∧ H2 = H) ⟨⟨none, rfl⟩, rfl⟩ ?_ ?_ ?_⟩
    · rintro i σ H2 hi ⟨_, rfl⟩
      exact .inl (.inl ha)
    · rintro i z σ H2 H2' hi ⟨⟨v2, rfl⟩, rfl⟩ ⟨rfl, hz⟩
      obtain ⟨hik, rfl⟩ := lets_get hz
      have hm := List.getElem_mem hik
      obtain ⟨s, e2⟩ := Option.isSome_iff_exists.mp (keysOf_mem.mp hm).2
      have e3 : lk u (keysOf u)[i] = some s := by rw [← lk_look hm]; exact e2
      refine ⟨_, rfl, _, rfl, y, dy, _, rfl, hy, y, v, _, rfl, my, .inl ⟨_, rfl, _, rfl, ?_⟩⟩
      by_cases m : (keysOf u)[i] ∈ keysOf v
      · obtain ⟨r, e4⟩ := Option.isSome_iff_exists.mp (keysOf_mem.mp m).2
        have e5 : lk v (keysOf u)[i] = some r := by rw [← lk_look m]; exact e4
        have e6 := co _ _ _ e3 e5
        subst e6
        refine ⟨true, by rw [decide_eq_true m], iteT ?_⟩
        refine ⟨_, rfl, _, rfl, y, dy, _, rfl, hy, y, v, _, s, rfl, my, m, e4, ?_⟩
        refine ⟨_, rfl, x, CM, dx, _, _, rfl, hx, T.cl, T.nI, f3_I a b c', _, rfl, b, V.str (Sx s), rfl, .inl ⟨_, Sum.inr (L1 (keysOf u)[i]), .inl hb, rfl, by rw [valV_enc, look_ims_some hm, e2]; rfl⟩, rfl, ?_⟩
        refine ⟨false, by rw [decide_eq_true rfl]; rfl, iteF ?_⟩
        exact ⟨⟨_, rfl⟩, rfl⟩
      · refine ⟨false, by rw [decide_eq_false m], iteF ?_⟩
        exact ⟨⟨_, rfl⟩, rfl⟩
    · rintro σ H2 ⟨⟨v2, rfl⟩, rfl⟩
      -- images
      refine ⟨_, rfl, y, dy, _, rfl, hy, fun k hk => ⟨y, v, rfl, my, fun it a3 ni hi ha3 => ⟨it, a3, rfl, hi, upd_same, ?_⟩⟩⟩
      rw [dropH_upd ni]
      refine fun D nD => dc_it (walk_tup (K := K) (a := a3) (xs := lets (keysOf v))) (fun i H3 => H3 = upd H2 D (.dK (encT (mkT (lk v) ((keysOf v).take i))))) rfl ?_ ?_ ?_
      · rintro i H3 hi rfl
        exact .inl (.inl (by rw [upd_ne (ne_of_none ha3 nD)]; exact ha3))
      · rintro i z H3 H3' hi rfl ⟨rfl, hz⟩
        obtain ⟨hik, rfl⟩ := lets_get hz
        have hm := List.getElem_mem hik
        obtain ⟨s, e2⟩ := Option.isSome_iff_exists.mp (keysOf_mem.mp hm).2
        have e3 : lk v (keysOf v)[i] = some s := by rw [← lk_look hm]; exact e2
        have s1 : Same H2 (upd H2 D (.dK (encT (mkT (lk v) ((keysOf v).take i))))) := same_put (s := Same.refl H2) nD
        refine ⟨rfl, _, rfl, _, rfl, _, rfl, y, dy, _, rfl, s1 _ _ hy, y, v, _, s, rfl, my.same s1, hm, e2, _, Sum.inr (L1 (keysOf v)[i]), rfl, upd_same, mkT_small _ _, ?_⟩
        rw [upd_upd, put_take hik e3]
      · rintro H3 rfl
        rw [lets_len, List.take_length]
        have s1 : Same H2 (upd H2 D (.dK (encT (mkT (lk v) (keysOf v))))) := same_put (s := Same.refl H2) nD
        have hD : upd H2 D (.dK (encT (mkT (lk v) (keysOf v)))) D = some (.dK (encT (mkT (lk v) (keysOf v)))) := upd_same
        generalize upd H2 D (.dK (encT (mkT (lk v) (keysOf v)))) = H4 at s1 hD ⊢
        clear nD ni ha3 hi
        -- {**self._images, **images}
        have nm := mergeT_nil (t := ims u) (by rw [ims_keys]; exact keysOf_nd u)
        have em : mergeK [] (encT (ims u)) = encT (ims u) := by
          have z : mergeK [] (encT (ims u)) = encT (mergeT [] (ims u)) := mergeK_enc _ []
          rw [z, nm]
        have hb4 := s1 _ _ hb
        have il : (ims u).length = (keysOf u).length := ims_len u
        have tl := mkT_len (lk v) (keysOf v)
        refine fun r nr => ?_
        have s2 : Same H2 (upd H4 r (.dK [])) := same_put (s := s1) nr
        have hDr : D ≠ r := ne_of_none hD nr
        have hbr : b ≠ r := ne_of_none hb4 nr
        refine ⟨_, rfl, x, CM, dx, _, _, rfl, s2 _ _ hx, T.cl, T.nI, f3_I a b c', b, encT (ims u), rfl, hbr, upd_same, .inl (by rw [upd_ne hbr]; exact hb4), by rw [encT_len]; omega, ?_⟩
        rw [em]
        refine ⟨_, rfl, D, encT (ims u), encT (mkT (lk v) (keysOf v)), rfl, hDr, upd_same, by rw [encT_len]; omega, .inl (by rw [upd_ne hDr, upd_ne hDr]; exact hD), by rw [encT_len]; omega, ?_⟩
        rw [mergeK_enc, upd_upd, upd_upd]
        have nrH := same_none (s := s1) nr
        have s3 : Same H2 (upd H4 r (.dK (encT (mergeT (ims u) (mkT (lk v) (keysOf v)))))) := same_put (s := s1) nr
        have hr3 : upd H4 r (.dK (encT (mergeT (ims u) (mkT (lk v) (keysOf v))))) r = some (.dK (encT (mergeT (ims u) (mkT (lk v) (keysOf v))))) := upd_same
        generalize upd H4 r (.dK (encT (mergeT (ims u) (mkT (lk v) (keysOf v))))) = H5 at s3 hr3 ⊢
        have ml : (mergeT (ims u) (mkT (lk v) (keysOf v))).length ≤ cs.length := tab_len (merge_nd (by rw [ims_keys]; exact keysOf_nd u)) (merge_key (p := fun c => c ∈ cs) (fun q hq => by
          have h1 : q.1 ∈ keysOf u := by
            rw [← ims_keys]
            exact List.mem_map_of_mem hq
          obtain ⟨s, e⟩ := Option.isSome_iff_exists.mp (lk_mem.mp h1)
          exact ou.key _ s e) fun q hq => by
          have h1 : q.1 ∈ keysOf v := mkT_keys _ _ _ (List.mem_map_of_mem hq)
          obtain ⟨s, e⟩ := Option.isSome_iff_exists.mp (lk_mem.mp h1)
          exact ov.key _ s e)
        refine ⟨r, rfl, fun j dj H6 nj hj s6 => ?_⟩
        refine ⟨j, dj, r, _, rfl, hj, s6 _ _ hr3, by omega, fun z H7 nz mz s7 => ?_⟩
        refine q z H7 _ (same_none (s := fun b o e => s6 _ _ (s3 _ _ e)) nz) mz ?_ fun b o e => s7 _ _ (s6 _ _ (s3 _ _ e))
        funext c
        show (if c ∈ abc then lookT (mergeT (ims u) (mkT (lk v) (keysOf v))) c else none) = (lk v c).orElse fun _ => lk u c
        rw [look_merge (mkT_nd _ (keysOf_nd v)), mkT_look _ (keysOf_nd v), look_ims]
        by_cases hv : c ∈ keysOf v
        · rw [if_pos (keys_abc hv), if_pos hv]
          by_cases hu : c ∈ keysOf u
          · rw [if_pos hu]
            obtain ⟨s, e⟩ := Option.isSome_iff_exists.mp (lk_mem.mp hv)
            rw [e]
            rfl
          · rw [if_neg hu, lk_not hu]
        · rw [if_neg hv, lk_not hv]
          by_cases hu : c ∈ keysOf u
          · rw [if_pos (keys_abc hu), if_pos hu, lk_look hu]
            obtain ⟨s, e⟩ := Option.isSome_iff_exists.mp (lk_mem.mp hu)
            rw [e]
            rfl
          · rw [if_neg hu, lk_not hu]
            by_cases ha : c ∈ abc
            · rw [if_pos ha]
            · rw [if_neg ha]
              rfl
end
end V8
set_option Elab.async false
set_option linter.all false
set_option maxRecDepth 100000
set_option maxHeartbeats 8000000
set_option pp.maxSteps 900
/-! One to one, by the images of texts: along rows of two, for fewer letters, backwards, under other names. -/
namespace V8
open PySem PySem.Spec PyProof.Rows L2 MZ
/-- no two unlike texts have the same image -/
def OneF (f : Fu) : Prop := ∀ x y s : List Nat, imF f x = some s → imF f y = some s → x = y
/-- the rows of a text -/
def rowsT (t : Tab) (w : Wd) : List Pr := w.map fun c => ((lookT t c).getD [], c)
theorem rows_lab (t : Tab) (w : Wd) : lab (rowsT t w) = w := by
  unfold lab rowsT
  rw [List.map_map]
  conv => rhs; rw [← List.map_id w]
  rfl
theorem rows_mem {t : Tab} {w : Wd} (h : ∀ c ∈ w, c ∈ keysOf t) : ∀ x ∈ rowsT t w, x ∈ pairsT t := fun x hx => by
  obtain ⟨c, hc, rfl⟩ := List.mem_map.mp hx
  exact List.mem_map.mpr ⟨c, h c hc, rfl⟩
theorem imF_lk {t : Tab} : ∀ xs : List Pr, (∀ x ∈ xs, x ∈ pairsT t) → imF (lk t) (lab xs) = some (cat xs)
  | [], _ => rfl
  | x :: xs, h => by
    have i1 := imF_lk xs fun y hy => h y (List.mem_cons_of_mem _ hy)
    obtain ⟨c, hc, e⟩ := List.mem_map.mp (h x List.mem_cons_self)
    obtain ⟨s, es⟩ := Option.isSome_iff_exists.mp (keysOf_mem.mp hc).2
    have e1 : x.2 = c := by rw [← e]
    have e2 : x.1 = s := by
      rw [← e]
      show (lookT t c).getD [] = s
      rw [es]
      rfl
    have el : lk t c = some s := by rw [← lk_look hc]; exact es
    show (lk t x.2).bind (fun a => (imF (lk t) (lab xs)).map (a ++ ·)) = _
    rw [i1, e1, el, cat_cons, e2]
    rfl
theorem im_text {t : Tab} {w : Wd} (h : ∀ c ∈ w, c ∈ keysOf t) : imF (lk t) w = some (cat (rowsT t w)) := by
  have := imF_lk _ (rows_mem h)
  rw [rows_lab] at this
  exact this
theorem one_iff {t : Tab} (ne : ∀ q ∈ pairsT t, q.1 ≠ []) : Alike (pairsT t) (pairsT t) ↔ OneF (lk t) := by
  rw [alike_iff ne ne]
  constructor
  · intro u x y s hx hy
    have kx := imF_keys hx
    have ky := imF_keys hy
    rw [im_text kx] at hx
    rw [im_text ky] at hy
    have := u _ _ (rows_mem kx) (rows_mem ky) ((Option.some.inj hx).trans (Option.some.inj hy).symm)
    rw [rows_lab, rows_lab] at this
    exact this
  · intro o xs ys hx hy e
    exact o _ _ _ (imF_lk xs hx) (by rw [e]; exact imF_lk ys hy)
/-- two unlike texts with one image, of a meeting that is not alike -/
theorem way_im {t : Tab} {w : List Nat × List Nat} (h : Way (pairsT t) (pairsT t) .start .fin w) : ∃ s, imF (lk t) w.1 = some s ∧ imF (lk t) w.2 = some s := by
  obtain ⟨xs, ys, hx, hy, ex, ey, e⟩ := way_words h
  have e : cat xs = cat ys := e
  exact ⟨cat xs, by rw [← ex]; exact imF_lk xs hx, by rw [← ey, e]; exact imF_lk ys hy⟩
theorem way_not {t : Tab} (ne : ∀ q ∈ pairsT t, q.1 ≠ []) {w : List Nat × List Nat} (h : Way (pairsT t) (pairsT t) .start .fin w) (n : w.1 ≠ w.2) : ¬ OneF (lk t) := fun o => n ((one_iff ne).mpr o w h)
theorem imF_part {f g : Fu} (h : ∀ c s, f c = some s → g c = some s) : ∀ {x s : List Nat}, imF f x = some s → imF g x = some s
  | [], s, e => e
  | c :: x, s, e => by
    have e : (f c).bind (fun a => (imF f x).map (a ++ ·)) = some s := e
    obtain ⟨a, ea, e2⟩ := Option.bind_eq_some_iff.mp e
    obtain ⟨b, eb, e3⟩ := Option.map_eq_some_iff.mp e2
    show (g c).bind (fun a => (imF g x).map (a ++ ·)) = some s
    rw [h c a ea, imF_part h eb, ← e3]
    rfl
theorem OneF.fewer {f g : Fu} (o : OneF g) (h : leF f g) : OneF f := fun x y s hx hy => o x y s (imF_part h hx) (imF_part h hy)
/-- where the row of two can happen -/
theorem imF_dom {f g : Fu} {ws : List Nat} (h : ∀ c, c ∈ ws ↔ (cF f g c).isSome = true) {x s : List Nat} (e : imF (cF f g) x = some s) : ∃ m, imF (oF f ws) x = some m ∧ imF g m = some s := by
  have hx : ∀ c ∈ x, c ∈ ws := fun c hc => by
    refine (h c).mpr ?_
    cases z : cF f g c with
    | some _ => rfl
    | none =>
      have := imF_none.mpr ⟨c, hc, z⟩
      rw [this] at e
      cases e
  rw [imF_cF] at e
  obtain ⟨m, em, e2⟩ := Option.bind_eq_some_iff.mp e
  exact ⟨m, by rw [imF_oF f ws hx]; exact em, e2⟩
theorem OneF.row {f g : Fu} {ws : List Nat} (h : ∀ c, c ∈ ws ↔ (cF f g c).isSome = true) (o : OneF (oF f ws)) (p : OneF g) : OneF (cF f g) := fun x y s hx hy => by
  obtain ⟨m, e1, e2⟩ := imF_dom h hx
  obtain ⟨m', e3, e4⟩ := imF_dom h hy
  have := p m m' s e2 e4
  subst this
  exact o x y m e1 e3
/-- texts with one image under what is left have one under the row of two -/
theorem row_twins {f g : Fu} {ws : List Nat} (h : ∀ c, c ∈ ws ↔ (cF f g c).isSome = true) {x y s : List Nat} (hx : imF (oF f ws) x = some s) (hy : imF (oF f ws) y = some s) : ∃ r, imF (cF f g) x = some r ∧ imF (cF f g) y = some r := by
  have dom : ∀ {x s : List Nat}, imF (oF f ws) x = some s → (∀ c ∈ x, c ∈ ws) ∧ imF f x = some s := fun {x s} e => by
    have k : ∀ c ∈ x, c ∈ ws := fun c hc => Classical.byContradiction fun n => by
      have := (imF_none (f := oF f ws) (w := x)).mpr ⟨c, hc, if_neg n⟩
      rw [this] at e
      cases e
    rw [imF_oF f ws k] at e
    exact ⟨k, e⟩
  obtain ⟨kx, ex⟩ := dom hx
  obtain ⟨ky, ey⟩ := dom hy
  have e1 := imF_cF f g x
  have e2 := imF_cF f g y
  rw [ex] at e1
  rw [ey] at e2
  have e1 : imF (cF f g) x = imF g s := e1
  have e2 : imF (cF f g) y = imF g s := e2
  cases z : imF g s with
  | some r => exact ⟨r, by rw [e1, z], by rw [e2, z]⟩
  | none =>
    rw [z] at e1
    obtain ⟨c, hc, e3⟩ := imF_none.mp e1
    have := (h c).mp (kx c hc)
    rw [e3] at this
    cases this
theorem uF_self {f g : Fu} (h : leF g f) : uF f g = f := by
  funext c
  unfold uF
  cases e : g c with
  | none => rfl
  | some s => exact (h c s e).symm
/-! images written backwards -/
theorem imF_rev {f g : Fu} (h : ∀ c, g c = (f c).map List.reverse) : ∀ x : List Nat, imF g x = (imF f x.reverse).map List.reverse
  | [] => rfl
  | c :: x => by
    show (g c).bind (fun a => (imF g x).map (a ++ ·)) = _
    rw [imF_rev h x, h, List.reverse_cons, imF_app]
    have e1 : imF f [c] = f c := by
      show (f c).bind (fun a => (some []).map (a ++ ·)) = f c
      cases f c with
      | none => rfl
      | some a =>
        show some (a ++ []) = some a
        rw [List.append_nil]
    rw [e1]
    cases f c with
    | none =>
      cases imF f x.reverse with
      | none => rfl
      | some b => rfl
    | some a =>
      cases imF f x.reverse with
      | none => rfl
      | some b =>
        show some (a.reverse ++ b.reverse) = some (b ++ a).reverse
        rw [List.reverse_append]
theorem OneF.rev {f g : Fu} (h : ∀ c, g c = (f c).map List.reverse) (o : OneF f) : OneF g := fun x y s hx hy => by
  rw [imF_rev h] at hx hy
  obtain ⟨a, ea, e1⟩ := Option.map_eq_some_iff.mp hx
  obtain ⟨b, eb, e2⟩ := Option.map_eq_some_iff.mp hy
  have eab : a = b := List.reverse_inj.mp (e1.trans e2.symm)
  subst eab
  exact List.reverse_inj.mp (o _ _ _ ea eb)
theorem rev_back {f g : Fu} (h : ∀ c, g c = (f c).map List.reverse) : ∀ c, f c = (g c).map List.reverse := fun c => by
  rw [h c]
  cases f c with
  | none => rfl
  | some a =>
    show some a = some a.reverse.reverse
    rw [List.reverse_reverse]
theorem rev_one {f g : Fu} (h : ∀ c, g c = (f c).map List.reverse) : OneF g ↔ OneF f := ⟨fun o => o.rev (rev_back h), fun o => o.rev h⟩
theorem rev_twins {f g : Fu} (h : ∀ c, g c = (f c).map List.reverse) {x s : List Nat} (e : imF f x = some s) : imF g x.reverse = some s.reverse := by
  rw [imF_rev h, List.reverse_reverse, e]
  rfl
/-! other names -/
structure Named (n : Nat → Nat) (cs : List Nat) (f g : Fu) : Prop where
  inj : ∀ a ∈ cs, ∀ b ∈ cs, n a = n b → a = b
  ov : Ovr cs f
  to_ : ∀ c ∈ cs, g (n c) = (f c).map (List.map n)
  dom : ∀ d, (g d).isSome = true → ∃ c ∈ cs, d = n c
theorem map_inj_on {n : Nat → Nat} {cs : List Nat} (inj : ∀ a ∈ cs, ∀ b ∈ cs, n a = n b → a = b) : ∀ {a b : List Nat}, (∀ c ∈ a, c ∈ cs) → (∀ c ∈ b, c ∈ cs) → a.map n = b.map n → a = b
  | [], [], _, _, _ => rfl
  | [], _ :: _, _, _, e => by cases e
  | _ :: _, [], _, _, e => by cases e
  | x :: a, y :: b, ha, hb, e => by
    rw [List.map_cons, List.map_cons] at e
    injection e with e1 e2
    rw [inj x (ha x List.mem_cons_self) y (hb y List.mem_cons_self) e1, map_inj_on inj (fun c hc => ha c (List.mem_cons_of_mem _ hc)) (fun c hc => hb c (List.mem_cons_of_mem _ hc)) e2]
theorem Named.im {n : Nat → Nat} {cs : List Nat} {f g : Fu} (N : Named n cs f g) : ∀ {x : List Nat}, (∀ c ∈ x, c ∈ cs) → imF g (x.map n) = (imF f x).map (List.map n)
  | [], _ => rfl
  | c :: x, h => by
    have ih := N.im fun d hd => h d (List.mem_cons_of_mem _ hd)
    show (g (n c)).bind (fun a => (imF g (x.map n)).map (a ++ ·)) = _
    rw [ih, N.to_ c (h c List.mem_cons_self)]
    show _ = ((f c).bind (fun a => (imF f x).map (a ++ ·))).map (List.map n)
    cases f c with
    | none => rfl
    | some a =>
      cases imF f x with
      | none => rfl
      | some b =>
        show some (a.map n ++ b.map n) = some ((a ++ b).map n)
        rw [List.map_append]
theorem Named.back {n : Nat → Nat} {cs : List Nat} {f g : Fu} (N : Named n cs f g) : ∀ {X S : List Nat}, imF g X = some S → ∃ x : List Nat, (∀ c ∈ x, c ∈ cs) ∧ X = x.map n
  | [], _, _ => ⟨[], fun c h => (List.not_mem_nil h).elim, rfl⟩
  | d :: X, S, e => by
    have e : (g d).bind (fun a => (imF g X).map (a ++ ·)) = some S := e
    obtain ⟨a, ea, e2⟩ := Option.bind_eq_some_iff.mp e
    obtain ⟨b, eb, _⟩ := Option.map_eq_some_iff.mp e2
    obtain ⟨x, hx, rfl⟩ := N.back eb
    obtain ⟨c, hc, rfl⟩ := N.dom d (by rw [ea]; rfl)
    exact ⟨c :: x, fun z hz => by
      rcases List.mem_cons.mp hz with rfl | hz
      · exact hc
      · exact hx z hz, rfl⟩
theorem Named.one {n : Nat → Nat} {cs : List Nat} {f g : Fu} (N : Named n cs f g) : OneF g ↔ OneF f := by
  constructor
  · intro o x y s hx hy
    have dom : ∀ {x s : List Nat}, imF f x = some s → ∀ c ∈ x, c ∈ cs := fun {x s} e c hc => by
      cases z : f c with
      | some a => exact N.ov.key c a z
      | none =>
        have := imF_none.mpr ⟨c, hc, z⟩
        rw [this] at e
        cases e
    have kx := dom hx
    have ky := dom hy
    have e1 := N.im kx
    have e2 := N.im ky
    rw [hx] at e1
    rw [hy] at e2
    exact map_inj_on N.inj kx ky (o _ _ _ e1 e2)
  · intro o X Y S hX hY
    obtain ⟨x, kx, rfl⟩ := N.back hX
    obtain ⟨y, ky, rfl⟩ := N.back hY
    rw [N.im kx] at hX
    rw [N.im ky] at hY
    obtain ⟨s, es, e1⟩ := Option.map_eq_some_iff.mp hX
    obtain ⟨r, er, e2⟩ := Option.map_eq_some_iff.mp hY
    have : s = r := map_inj_on N.inj (imF_over N.ov es) (imF_over N.ov er) (e1.trans e2.symm)
    subst this
    rw [o x y s es er]
theorem one_id {cs : List Nat} : OneF (idF cs) := fun x y s hx hy => by
  have k : ∀ {x s : List Nat}, imF (idF cs) x = some s → x = s := fun {x s} e => by
    have h : ∀ c ∈ x, c ∈ cs := fun c hc => Classical.byContradiction fun n => by
      have := (imF_none (f := idF cs) (w := x)).mpr ⟨c, hc, if_neg n⟩
      rw [this] at e
      cases e
    rw [imF_id h] at e
    exact Option.some.inj e
  rw [k hx, k hy]
end V8
set_option Elab.async false
set_option linter.all false
/-! Words told apart, by a list of what is left to look at. -/
namespace MZ
def leftW (ws : List Wd) : List Wd := ws.flatMap fun a => (ws.filter fun b => decide (a ≠ b) && decide (a.take b.length = b)).map fun b => a.drop b.length
def cutW (ws : List Wd) (r : Wd) : List Wd := (ws.filter fun w => decide (r.take w.length = w)).map fun w => r.drop w.length
def extW (ws : List Wd) (r : Wd) : List Wd := (ws.filter fun w => decide (w.take r.length = r)).map fun w => w.drop r.length
theorem take_app {a b : Wd} (h : a.take b.length = b) : a = b ++ a.drop b.length := by
  conv => lhs; rw [← List.take_append_drop b.length a, h]
structure Wl (ws : List Wd) (left known : List Wd) : Prop where
  dgL : ∀ r ∈ left, Dg ws r
  dgK : ∀ r ∈ known, Dg ws r
  nd : known.Nodup
  noK : ∀ r ∈ known, r ∉ ws
  ini : ∀ a ∈ ws, ∀ b ∈ ws, ∀ r, r ≠ [] → a = b ++ r → r ∈ left ∨ r ∈ known
  cls : ∀ r ∈ known, ∀ w ∈ ws, ∀ z, z ≠ [] → (r = w ++ z ∨ w = r ++ z) → z ∈ left ∨ z ∈ known
theorem mem_leftW {ws : List Wd} {r : Wd} : r ∈ leftW ws ↔ r ≠ [] ∧ ∃ a ∈ ws, ∃ b ∈ ws, a = b ++ r := by
  unfold leftW
  constructor
  · intro h
    obtain ⟨a, ha, h⟩ := List.mem_flatMap.mp h
    obtain ⟨b, hb, rfl⟩ := List.mem_map.mp h
    obtain ⟨hb1, hb2⟩ := List.mem_filter.mp hb
    rw [Bool.and_eq_true, decide_eq_true_iff, decide_eq_true_iff] at hb2
    have e := take_app hb2.2
    refine ⟨fun z => hb2.1 ?_, a, ha, b, hb1, e⟩
    rw [z, List.append_nil] at e
    exact e
  · rintro ⟨nr, a, ha, b, hb, rfl⟩
    refine List.mem_flatMap.mpr ⟨b ++ r, ha, List.mem_map.mpr ⟨b, List.mem_filter.mpr ⟨hb, ?_⟩, List.drop_left⟩⟩
    rw [Bool.and_eq_true, decide_eq_true_iff, decide_eq_true_iff]
    exact ⟨fun z => nr (List.append_cancel_left (z.trans (List.append_nil b).symm)), List.take_left⟩
theorem mem_cutW {ws : List Wd} {r z : Wd} : z ∈ cutW ws r ↔ ∃ w ∈ ws, r = w ++ z := by
  unfold cutW
  constructor
  · intro h
    obtain ⟨w, hw, rfl⟩ := List.mem_map.mp h
    obtain ⟨h1, h2⟩ := List.mem_filter.mp hw
    exact ⟨w, h1, take_app (of_decide_eq_true h2)⟩
  · rintro ⟨w, hw, rfl⟩
    exact List.mem_map.mpr ⟨w, List.mem_filter.mpr ⟨hw, decide_eq_true List.take_left⟩, List.drop_left⟩
theorem mem_extW {ws : List Wd} {r z : Wd} : z ∈ extW ws r ↔ ∃ w ∈ ws, w = r ++ z := by
  unfold extW
  constructor
  · intro h
    obtain ⟨w, hw, rfl⟩ := List.mem_map.mp h
    obtain ⟨h1, h2⟩ := List.mem_filter.mp hw
    exact ⟨w, h1, take_app (of_decide_eq_true h2)⟩
  · rintro ⟨w, hw, rfl⟩
    exact List.mem_map.mpr ⟨_, List.mem_filter.mpr ⟨hw, decide_eq_true List.take_left⟩, List.drop_left⟩
theorem Wl.start (ws : List Wd) : Wl ws (leftW ws) [] := by
  refine ⟨fun r h => ?_, fun r h => absurd h List.not_mem_nil, List.nodup_nil, fun r h => absurd h List.not_mem_nil, fun a ha b hb r nr e => .inl (mem_leftW.mpr ⟨nr, a, ha, b, hb, e⟩), fun r h => absurd h List.not_mem_nil⟩
  obtain ⟨nr, a, ha, b, hb, e⟩ := mem_leftW.mp h
  exact .init ha hb nr e
theorem Wl.new {ws left known : List Wd} {r : Wd} (h : Wl ws (left ++ [r]) known) (hr : r ∉ known) (hw : r ∉ ws) : Wl ws (left ++ cutW ws r ++ extW ws r) (known ++ [r]) := by
  have dr : Dg ws r := h.dgL r (List.mem_append_right _ (List.mem_singleton_self r))
  have up : ∀ {z : Wd}, z ∈ left ++ [r] ∨ z ∈ known → z ∈ left ++ cutW ws r ++ extW ws r ∨ z ∈ known ++ [r] := fun {z} m => by
    rcases m with m | m
    · rcases List.mem_append.mp m with m | m
      · exact .inl (List.mem_append_left _ (List.mem_append_left _ m))
      · exact .inr (List.mem_append_right _ m)
    · exact .inr (List.mem_append_left _ m)
  refine ⟨fun x hx => ?_, fun x hx => ?_, ?_, fun x hx => ?_, fun a ha b hb z nz e => up (h.ini a ha b hb z nz e), fun x hx w hw2 z nz e => ?_⟩
  · rcases List.mem_append.mp hx with hx | hx
    · rcases List.mem_append.mp hx with hx | hx
      · exact h.dgL x (List.mem_append_left _ hx)
      · obtain ⟨w, hw2, e⟩ := mem_cutW.mp hx
        refine .cut dr hw2 e fun z => hw ?_
        rw [e, z, List.append_nil]
        exact hw2
    · obtain ⟨w, hw2, e⟩ := mem_extW.mp hx
      refine .ext dr hw2 e fun z => hw ?_
      rw [z, List.append_nil] at e
      rw [← e]
      exact hw2
  · rcases List.mem_append.mp hx with hx | hx
    · exact h.dgK x hx
    · rw [List.mem_singleton.mp hx]
      exact dr
  · exact List.nodup_append.mpr ⟨h.nd, by simp, fun a ha b hb e => by
      rw [List.mem_singleton.mp hb] at e
      exact hr (e ▸ ha)⟩
  · rcases List.mem_append.mp hx with hx | hx
    · exact h.noK x hx
    · rw [List.mem_singleton.mp hx]
      exact hw
  · rcases List.mem_append.mp hx with hx | hx
    · exact up (h.cls x hx w hw2 z nz e)
    · rw [List.mem_singleton.mp hx] at e
      rcases e with e | e
      · exact .inl (List.mem_append_left _ (List.mem_append_right _ (mem_cutW.mpr ⟨w, hw2, e⟩)))
      · exact .inl (List.mem_append_right _ (mem_extW.mpr ⟨w, hw2, e⟩))
theorem dg_suffix {ws : List Wd} {r : Wd} (h : Dg ws r) : r ≠ [] ∧ ∃ w ∈ ws, ∃ a, w = a ++ r := by
  induction h with
  | init ha hb nr e => exact ⟨nr, _, ha, _, e⟩
  | cut _ _ e nz ih =>
    obtain ⟨_, w, hw, a, e2⟩ := ih
    exact ⟨nz, w, hw, _, by rw [e2, e, ← List.append_assoc]⟩
  | ext _ hw e nz _ => exact ⟨nz, _, hw, _, e⟩
theorem Wl.few {ws left known : List Wd} (h : Wl ws left known) : known.length ≤ (ws.map List.length).sum := by
  have : known.length ≤ (ws.flatMap tails).length := nd_le h.nd fun r hr => by
    obtain ⟨nr, w, hw, a, e⟩ := dg_suffix (h.dgK r hr)
    exact List.mem_flatMap.mpr ⟨w, hw, tails_has w a r e nr⟩
  rw [List.length_flatMap] at this
  have e : ws.map (List.length ∘ tails) = ws.map List.length := List.map_congr_left fun w _ => tails_len w
  have e2 : (ws.map fun x => (tails x).length) = ws.map List.length := List.map_congr_left fun w _ => tails_len w
  rw [e2] at this
  exact this
/-- the words of a table with their letters -/
def wl (t : List (Nat × Wd)) : List Pr := t.map fun q => (q.2, q.1)
end MZ
set_option Elab.async false
set_option linter.all false
/-! Where all meetings are alike: the rests that live are the words, their leads the letters. -/
namespace MZ
/-- a way from the start begins so -/
theorem way_shape {P : List Pr} {p : Pl} {w : List Nat × List Nat} (h : Way P P .start p w) :
    (p = .start ∧ w = ([], [])) ∨ (∃ x ∈ P, p = .rest true x.1 ∧ w = ([x.2], [])) ∨ p = .fin ∨ ∃ x ∈ P, ∃ y ∈ P, ∃ u v, x.1 ≠ y.1 ∧ w = (x.2 :: u, y.2 :: v) := by
  induction h with
  | nil => exact .inl ⟨rfl, rfl⟩
  | @step p w t l q h m ih =>
    rcases ih with ⟨rfl, rfl⟩ | ⟨x, hx, rfl, rfl⟩ | rfl | ⟨x, hx, y, hy, u, v, ne, rfl⟩
    · obtain ⟨x, hx, e⟩ := List.mem_map.mp m
      cases e
      exact .inr (.inl ⟨x, hx, rfl, rfl⟩)
    · obtain ⟨y, hy, e⟩ := List.mem_filterMap.mp m
      obtain ⟨q', eb, e2⟩ := Option.map_eq_some_iff.mp e
      cases e2
      have hy : y ∈ P := hy
      by_cases ne : x.1 = y.1
      · rw [ne, behind_eq] at eb
        exact .inr (.inr (.inl (Option.some.inj eb).symm))
      · exact .inr (.inr (.inr ⟨x, hx, y, hy, [], [], ne, rfl⟩))
    · cases m
    · refine .inr (.inr (.inr ⟨x, hx, y, hy, ?_⟩))
      cases t with
      | true => exact ⟨u ++ [l], v, ne, rfl⟩
      | false => exact ⟨u, v ++ [l], ne, rfl⟩
theorem live_rest {P : List Pr} (ak : Alike P P) (lb : Lbl P) {a : Bool} {r : Wd} {w v : List Nat × List Nat} (h : Way P P .start (.rest a r) w) (k : Way P P (.rest a r) .fin v) : ∃ x ∈ P, a = true ∧ r = x.1 ∧ w = ([x.2], []) := by
  rcases way_shape h with ⟨e, _⟩ | ⟨x, hx, e, ew⟩ | e | ⟨x, hx, y, hy, u, z, ne, rfl⟩
  · cases e
  · cases e
    exact ⟨x, hx, rfl, rfl, ew⟩
  · cases e
  · have e := ak _ (h.trans k)
    have e2 : x.2 :: (u ++ v.1) = y.2 :: (z ++ v.2) := e
    injection e2 with e3 _
    exact absurd (congrArg Prod.fst (lb x hx y hy e3)) ne
theorem rest_way {P : List Pr} {x : Pr} (hx : x ∈ P) : Way P P .start (.rest true x.1) ([x.2], []) := by
  have := Way.step (.nil : Way P P .start .start ([], [])) (t := true) (l := x.2) (q := .rest true x.1) (List.mem_map.mpr ⟨x, hx, rfl⟩)
  exact this
theorem rest_end {P : List Pr} {x : Pr} (hx : x ∈ P) : Way P P (.rest true x.1) .fin ([], [x.2]) := by
  have := Way.step (.nil : Way P P (.rest true x.1) (.rest true x.1) ([], [])) (t := false) (l := x.2) (q := .fin) (List.mem_filterMap.mpr ⟨x, hx, by rw [behind_eq]; rfl⟩)
  exact this
end MZ
set_option Elab.async false
set_option linter.all false
set_option maxRecDepth 100000
set_option maxHeartbeats 8000000
set_option pp.maxSteps 900
/-! The leads where all meetings are alike: rows (one, word, one, letter). -/
namespace V8
open PySem PySem.Spec PyProof.Rows L2 MZ
def LdQ (H : Hp) (e : Addr) (qs : List Pr) : Prop := ∃ vs, H e = some (.tup vs) ∧ Paired (fun v q => ∃ c, v = .ref c ∧ H c = some (.tup [.str "one", .str (Sx q.1), .str "one", .str (L1 q.2)])) vs qs
/-- the row of a word -/
def RowIs (P : List Pr) (q : Bool × Wd) (x : Pr) : Prop := x ∈ P ∧ q = (true, x.1) ∧ leadQ P P q = (true, [x.2])
theorem row_one {P : List Pr} {rs : List (Bool × Wd)} (ak : Alike P P) (lb : Lbl P) (is : RsIs P P true rs) (lw : LdWay P rs) {q : Bool × Wd} (hq : q ∈ rs) : ∃ x, RowIs P q x := by
  obtain ⟨w, k, el⟩ := lw q hq
  obtain ⟨_, h2⟩ := is.mem hq
  obtain ⟨v, kv⟩ := livesB_iff.mp h2
  obtain ⟨x, hx, e1, e2, rfl⟩ := live_rest ak lb k kv
  refine ⟨x, hx, Prod.ext e1 e2, ?_⟩
  have z : lead ([x.2], []) = some (true, [x.2]) := lead_one [] [x.2]
  rw [z] at el
  exact (Option.some.inj el).symm
theorem pair_up {α β : Type} {R : α → β → Prop} : ∀ {xs : List α}, (∀ x ∈ xs, ∃ y, R x y) → ∃ ys, Paired R xs ys
  | [], _ => ⟨[], .nil⟩
  | x :: xs, h => by
    obtain ⟨y, hy⟩ := h x List.mem_cons_self
    obtain ⟨ys, hys⟩ := pair_up (xs := xs) fun z hz => h z (List.mem_cons_of_mem _ hz)
    exact ⟨y :: ys, .cons hy hys⟩
theorem word_once {P : List Pr} (ak : Alike P P) (lb : Lbl P) {x y : Pr} (hx : x ∈ P) (hy : y ∈ P) (e : x.1 = y.1) : x = y := by
  have k := rest_way hx
  rw [e] at k
  have z := ak _ (k.trans (rest_end hy))
  have z2 : [x.2] = [y.2] := z
  injection z2 with z3 _
  exact lb x hx y hy z3
/-- the text of a row -/
def rowD (a : Str) (b : Wd) (c : Str) (d : Wd) : PyData := .tuple [.str a, .str (Sx b), .str c, .str (Sx d)]
theorem tv_row {H : Hp} {v : V} {a c : Str} {b d : Wd} (h : TV H v (rowD a b c d)) : ∃ e, v = .ref e ∧ H e = some (.tup [.str a, .str (Sx b), .str c, .str (Sx d)]) := by
  unfold rowD at h
  generalize Sx b = b' at h ⊢
  generalize Sx d = d' at h ⊢
  cases h with
  | tup hc ts =>
    refine ⟨_, rfl, ?_⟩
    cases ts with
    | cons a1 ts => cases ts with
      | cons a2 ts => cases ts with
        | cons a3 ts => cases ts with
          | cons a4 ts =>
            cases ts
            cases a1
            cases a2
            cases a3
            cases a4
            exact hc
theorem tvs_cons {H : Hp} {vs : List V} {d : PyData} {ds : List PyData} (h : TVs H vs (d :: ds)) : ∃ v ws, vs = v :: ws ∧ TV H v d ∧ TVs H ws ds := by
  cases h with
  | cons a b => exact ⟨_, _, rfl, a, b⟩
theorem tvs_nil {H : Hp} {vs : List V} (h : TVs H vs []) : vs = [] := by
  cases h
  rfl
theorem tv_rows {P : List Pr} {H : Hp} {rs : List (Bool × Wd)} {qs : List Pr} (r : Paired (RowIs P) rs qs) : ∀ {vs : List V}, TVs H vs (rs.map fun q => rowD (sideS q.1) q.2 (sideS (leadQ P P q).1) (leadQ P P q).2) → Paired (fun v q => ∃ c, v = .ref c ∧ H c = some (.tup [.str "one", .str (Sx q.1), .str "one", .str (L1 q.2)])) vs qs := by
  induction r with
  | nil =>
    intro vs h
    rw [tvs_nil h]
    exact .nil
  | cons r _ ih =>
    intro vs h
    rw [List.map_cons] at h
    obtain ⟨v, ws, rfl, h1, h2⟩ := tvs_cons h
    refine .cons ?_ (ih h2)
    obtain ⟨_, e1, e2⟩ := r
    rw [e2, e1] at h1
    exact tv_row h1
/-- the leads, as told back asks for them -/
theorem leads_ldq {P : List Pr} {rs : List (Bool × Wd)} {H : Hp} {v : V} (ak : Alike P P) (lb : Lbl P) (is : RsIs P P true rs) (lw : LdWay P rs) (t : TV H v (leadsD P rs)) : ∃ e qs, v = .ref e ∧ LdQ H e qs ∧ Paired (RowIs P) rs qs := by
  obtain ⟨qs, pr⟩ := pair_up fun q hq => row_one ak lb is lw hq
  have t : TV H v (.tuple (rs.map fun q => rowD (sideS q.1) q.2 (sideS (leadQ P P q).1) (leadQ P P q).2)) := t
  generalize eD : (rs.map fun q => rowD (sideS q.1) q.2 (sideS (leadQ P P q).1) (leadQ P P q).2) = ds at t
  cases t with
  | tup h ts =>
    rw [← eD] at ts
    exact ⟨_, qs, rfl, ⟨_, h, tv_rows pr ts⟩, pr⟩
theorem nd_on {α β : Type} {f : α → β} {l : List α} (nd : l.Nodup) (inj : ∀ x ∈ l, ∀ y ∈ l, f x = f y → x = y) : (l.map f).Nodup := by
  induction l with
  | nil => exact List.nodup_nil
  | cons a r ih =>
    rw [List.nodup_cons] at nd
    rw [List.map_cons, List.nodup_cons]
    refine ⟨fun h => ?_, ih nd.2 fun x hx y hy => inj x (List.mem_cons_of_mem _ hx) y (List.mem_cons_of_mem _ hy)⟩
    obtain ⟨b, hb, e⟩ := List.mem_map.mp h
    have := inj b (List.mem_cons_of_mem _ hb) a List.mem_cons_self e
    exact nd.1 (this ▸ hb)
theorem side_nd (P S : List Pr) (g s : Bool) : (sideQ P S g s).Nodup := by
  unfold sideQ
  refine nd_on (((runQ_reach (P := P) (S := S) 600).1.filter _).filter _) fun x hx y hy e => ?_
  have h1 := (List.mem_filter.mp hx).2
  have h2 := (List.mem_filter.mp hy).2
  cases x with
  | start => cases h1
  | fin => cases h1
  | rest a r => cases y with
    | start => cases h2
    | fin => cases h2
    | rest b t =>
      have e1 : a = s := of_decide_eq_true h1
      have e2 : b = s := of_decide_eq_true h2
      have e3 : r = t := e
      rw [e1, e2, e3]
theorem RsIs.nd {P S : List Pr} {g : Bool} {rs : List (Bool × Wd)} (h : RsIs P S g rs) : rs.Nodup := by
  obtain ⟨a, b, rfl, p1, p2, _⟩ := h
  rw [List.nodup_append]
  refine ⟨nd_on (p1.nodup_iff.mpr (side_nd P S g true)) fun x _ y _ e => (Prod.mk.inj e).2, nd_on (p2.nodup_iff.mpr (side_nd P S g false)) fun x _ y _ e => (Prod.mk.inj e).2, fun x hx y hy e => ?_⟩
  obtain ⟨_, _, rfl⟩ := List.mem_map.mp hx
  obtain ⟨_, _, rfl⟩ := List.mem_map.mp hy
  cases e
theorem RsIs.has {P S : List Pr} {g : Bool} {rs : List (Bool × Wd)} (h : RsIs P S g rs) {r : Wd} (hp : Pl.rest true r ∈ placesQ P S) (hl : livesB P S (.rest true r) = g) : (true, r) ∈ rs := by
  obtain ⟨a, b, rfl, p1, p2, _⟩ := h
  refine List.mem_append_left _ (List.mem_map.mpr ⟨r, p1.mem_iff.mpr ?_, rfl⟩)
  exact List.mem_map.mpr ⟨_, List.mem_filter.mpr ⟨List.mem_filter.mpr ⟨hp, decide_eq_true hl⟩, rfl⟩, rfl⟩
theorem row_labels {P : List Pr} (lb : Lbl P) {rs : List (Bool × Wd)} {qs : List Pr} (r : Paired (RowIs P) rs qs) : rs.Nodup → (qs.map (·.2)).Nodup ∧ (∀ x ∈ qs, x ∈ P ∧ (true, x.1) ∈ rs) ∧ ∀ q ∈ rs, ∃ x ∈ qs, q = (true, x.1) := by
  induction r with
  | nil => exact fun _ => ⟨List.nodup_nil, fun x h => absurd h List.not_mem_nil, fun q h => absurd h List.not_mem_nil⟩
  | @cons q x rs qs h _ ih =>
    intro nd
    rw [List.nodup_cons] at nd
    obtain ⟨i1, i2, i3⟩ := ih nd.2
    obtain ⟨hx, e1, _⟩ := h
    refine ⟨?_, fun y hy => ?_, fun p hp => ?_⟩
    · rw [List.map_cons, List.nodup_cons]
      refine ⟨fun m => ?_, i1⟩
      obtain ⟨y, hy, e⟩ := List.mem_map.mp m
      obtain ⟨y1, y2⟩ := i2 y hy
      have := lb y y1 x hx e
      rw [this, ← e1] at y2
      exact nd.1 y2
    · rcases List.mem_cons.mp hy with rfl | hy
      · exact ⟨hx, e1 ▸ List.mem_cons_self⟩
      · exact ⟨(i2 y hy).1, List.mem_cons_of_mem _ (i2 y hy).2⟩
    · rcases List.mem_cons.mp hp with rfl | hp
      · exact ⟨x, List.mem_cons_self, e1⟩
      · obtain ⟨y, hy, e⟩ := i3 p hp
        exact ⟨y, List.mem_cons_of_mem _ hy, e⟩
/-- the rows of the leads are those of the words -/
structure RowsOf (P qs : List Pr) : Prop where
  nd : (qs.map (·.2)).Nodup
  mem : ∀ x, x ∈ qs ↔ x ∈ P
theorem rows_of {P : List Pr} {rs : List (Bool × Wd)} {qs : List Pr} (ak : Alike P P) (lb : Lbl P) (is : RsIs P P true rs) (all : ∀ p w, Way P P .start p w → p ∈ placesQ P P) (r : Paired (RowIs P) rs qs) : RowsOf P qs := by
  obtain ⟨h1, h2, h3⟩ := row_labels lb r is.nd
  refine ⟨h1, fun x => ⟨fun h => (h2 x h).1, fun h => ?_⟩⟩
  obtain ⟨y, hy, e⟩ := h3 _ (is.has (all _ _ (rest_way h)) (livesB_iff.mpr ⟨_, rest_end h⟩))
  rw [word_once ak lb h (h2 y hy).1 (Prod.mk.inj e).2]
  exact hy
end V8
set_option Elab.async false
set_option linter.all false
set_option maxRecDepth 100000
set_option maxHeartbeats 4000000
/-! Such a dict whose keys are all texts is a dict of texts. -/
namespace L2
open PySem PySem.Spec PyProof.Rows MX
end L2
set_option Elab.async false
set_option linter.all false
set_option maxRecDepth 100000
set_option maxHeartbeats 4000000
/-! len(set(xs)), xs a list of any texts. -/
namespace SetT
open PySem PySem.Spec PyProof.Rows
end SetT
namespace L2
open PySem PySem.Spec PyProof.Rows SetT
end L2
set_option Elab.async false
set_option linter.all false
set_option maxRecDepth 100000
set_option maxHeartbeats 4000000
/-! Two readings of one call; a dict whose keys are texts taken as one. -/
namespace L2
open PySem PySem.Spec PyProof.Rows MX
end L2
set_option Elab.async false
set_option linter.all false
set_option maxRecDepth 100000
set_option maxHeartbeats 4000000
/-! What an own instance is as a test: by an own __bool__; of either of two classes. -/
namespace L2
open PySem PySem.Spec PyProof.Rows
section
variable {X : Cx} {n k j : Nat} {CX : CXT} {C f : Addr} {fd : FuncData} {ps : List Str} {sp : Sp} {E : XK} {a : Expr} {ta : TE}
theorem tru_own0 (F : FnOk X.prog X.w X.K X.mg X.base CX n f fd ps sp) (hb : Binds X.K fd ps []) (hx : Passes CX X E) (o : Own X.K C "__bool__" f) (hr : Room n X.A) :
    TruR X (fun x H Q => ∃ b dx fs, x = .ref b ∧ H b = some (.ins C dx fs) ∧ sp [.ref b] H (fun v H' => ∃ c, v = .bl c ∧ Q c H') E) := by
  intro pins s σ H x v Q I rx h
  obtain ⟨b, dx, fs, rfl, ha, hs⟩ := h
  cases rx
  obtain ⟨od, J⟩ := inst_at I ha
  obtain ⟨m, hF⟩ := I.fr
  refine PySem.W.truthy_K hF I.ok.mod.kin J o.find o.fn (thn (run_own (Sub.here hr) F hb hx I (show Vals [V.ref b] [Value.ref b] from .cons rfl .nil) hs) fun v s1 q => ?_)
  obtain ⟨y, H', I', ry, c, rfl, q⟩ := q
  cases ry
  exact ⟨H', I', q⟩
theorem tru_own (c : Mf X.prog X.w X.K X.mg X.base k C "__bool__" sp) (hr : Room j X.A) (hk : k ≤ j) :
    TruR X (fun x H Q => ∃ b dx fs, x = .ref b ∧ H b = some (.ins C dx fs) ∧ sp [.ref b] H (fun v H' => ∃ c, v = .bl c ∧ Q c H') E0) := by
  obtain ⟨f, fd, ps, F, _, o, _, b⟩ := c.ex
  exact tru_own0 F b pass0 o (hr.mono hk)
theorem tru_or {r1 r2 : V → Hp → (Bool → Hp → Prop) → Prop} (h1 : TruR X r1) (h2 : TruR X r2) : TruR X (fun x H Q => r1 x H Q ∨ r2 x H Q) := by
  intro pins s σ H x v Q I rx h
  rcases h with h | h
  · exact h1 pins s σ H x v Q I rx h
  · exact h2 pins s σ H x v Q I rx h
theorem pt_tru {r : V → Hp → (Bool → Hp → Prop) → Prop} (ht : TruR X r) (ha : PE X a ta) (he : ∀ whole, isTrue a X.env whole = (do let v ← whole; standAt a.pos; holding [v] (truthy v)) := by intro _; rfl) : PT X a (fun σ H Q => ta σ H fun x H' => r x H' Q) := by
  refine ⟨fun pins s σ H Q I h => ?_⟩
  exact isTrue_plain (thn (ha.run pins s σ H _ I h) fun v s1 ⟨x, H1, I1, r1, q1⟩ => ht pins s1 σ H1 x v Q I1 r1 q1) (he _)
theorem call_or {f : Value} {r1 r2 : List V → Hp → VK → Prop} (h1 : CallR X f r1) (h2 : CallR X f r2) : CallR X f (fun xs H Q => r1 xs H Q ∨ r2 xs H Q) := by
  intro pins s σ H xs us Q I r h
  rcases h with h | h
  · exact h1 pins s σ H xs us Q I r h
  · exact h2 pins s σ H xs us Q I r h
end
end L2
set_option Elab.async false
set_option linter.all false
set_option maxRecDepth 100000
set_option maxHeartbeats 4000000
/-! not x, of an own instance with an own __bool__. -/
namespace L2
open PySem PySem.Spec PyProof.Rows
/-- not e as a value, by any truth -/
theorem pe_notR {X : Cx} {a : Expr} {ta : TE} {pos : Pos} {r : V → Hp → (Bool → Hp → Prop) → Prop} (ht : TruR X r) (ha : PE X a ta) : PE X (.UnaryOp .Not a pos) (fun σ H Q => ta σ H fun x H1 => r x H1 fun c H2 => Q (.bl (!c)) H2) := by
  refine ⟨fun pins s σ H Q I h => ?_⟩
  refine UnaryOp_ (thn (ha.run pins s σ H _ I h) fun v s1 ⟨x, H1, I1, r1, q1⟩ => ?_)
  exact not_of (thn (ht pins s1 σ H1 x v (fun c H2 => Q (.bl (!c)) H2) I1 r1 q1) fun c s2 ⟨H2, I2, q2⟩ => ⟨.bl (!c), H2, I2, rfl, q2⟩)
end L2
set_option Elab.async false
set_option linter.all false
set_option maxRecDepth 100000
set_option maxHeartbeats 8000000
set_option pp.maxSteps 900
/-! shows_merging of two texts that have one image. -/
namespace V8
open PySem PySem.Spec PyProof.Rows L2 MZ
abbrev s_right_leads : Stmt := topS 58
abbrev s_can_happen : Stmt := topS 76
theorem sc_can_happen : FnScope ["misreading", "value"] ["misreading", "value"] (defScope s_can_happen) := ⟨rfl, rfl, rfl, by decide +kernel, rfl, by decide +kernel, by decide +kernel⟩
abbrev s_merges : Stmt := topS 75
theorem sc_merges : FnScope ["misreading", "one", "other"] ["misreading", "one", "other"] (defScope s_merges) := ⟨rfl, rfl, rfl, by decide +kernel, rfl, by decide +kernel, by decide +kernel⟩
abbrev s_shows_merging : Stmt := topS 74
theorem sc_shows_merging : FnScope ["misreading", "value", "pairs"] ["misreading", "value"] (defScope s_shows_merging) := ⟨rfl, rfl, rfl, by decide +kernel, rfl, by decide +kernel, by decide +kernel⟩
structure Ts (K : PySem.W.Frag) (mg : Str → Option Value) (CM CJ CO CR : Addr) : Prop extends Tv K mg CO CR where
  t : Tp K mg CM CJ
  kRO : PySem.W.kitOne K (.ref CR) (.ref CO) = some false
def spCan (CM : Addr) : Sp := fun vs H Q _ => ∃ (x : Addr) (u : Tab) (cs r : List Nat), vs = [.ref x, .str (Sx cs)] ∧ MisAt CM H x u ∧ (∀ c ∈ cs, isLt c) ∧ cs.length ≤ 2000 ∧ imF (lk u) cs = some r ∧ ∀ H', Same H H' → Q (.bl true) H'
def spMerges (CM : Addr) : Sp := fun vs H Q _ => ∃ (x : Addr) (u : Tab) (a b r : List Nat), vs = [.ref x, .str (Sx a), .str (Sx b)] ∧ MisAt CM H x u ∧ (∀ c ∈ a, isLt c) ∧ (∀ c ∈ b, isLt c) ∧ a.length ≤ 2000 ∧ b.length ≤ 2000 ∧ a ≠ b ∧ Bnd 64 (lk u) ∧ imF (lk u) a = some r ∧ imF (lk u) b = some r ∧ ∀ H', Same H H' → Q (.bl true) H'
def spShowsM (CM CR : Addr) : Sp := fun vs H Q _ => ∃ (x z dz : Addr) (u : Tab) (a b r : List Nat), vs = [.ref x, .ref z] ∧ MisAt CM H x u ∧ OkU u ∧ H z = some (.ins CR dz (fR (.str (Sx a)) (.str (Sx b)))) ∧ (∀ c ∈ a, isLt c) ∧ (∀ c ∈ b, isLt c) ∧ a.length ≤ 2000 ∧ b.length ≤ 2000 ∧ a ≠ b ∧ Bnd 64 (lk u) ∧ imF (lk u) a = some r ∧ imF (lk u) b = some r ∧ ∀ H', Same H H' → Q (.bl true) H'
section
variable {P : Program} {w : World} {K : PySem.W.Frag} {mg : Str → Option Value} {base : Heap} {CM CJ CO CR : Addr}
theorem ok_can {f : Addr} {fd : FuncData} (F : Fun K "can_happen" "can_happen" s_can_happen f fd) (T : Tz K mg CM CJ) (D_is_text : Df P w K mg base 2 "is_text" spIsText) (D_first_barred : Mf P w K mg base 1 CM "first_barred" (spFB CM)) : FnOk P w K mg base CX0 3 f fd ["misreading", "value"] (spCan CM) := by
  refine F.ok sc_can_happen (fun vs H Q E h => ?_) (fun cdv A outer s H vs Q E hr h => ?_)
  · obtain ⟨x, u, cs, r, rfl, _⟩ := h
    rfl
  · obtain ⟨x, u, cs, r, rfl, mx, hl, h2, er, q⟩ := h
    refine ⟨_, (pss_one (ps_ret (pe_and (pe_c D_is_text hr (by decide) (by rfl) (pa_cons (pv 1) pa_nil)) (pe_one (pe_cmpR op_isN (pe_mt T.cl D_first_barred hr (by decide) (pv 0) (pa_cons (pv 1) pa_nil)) pe_non (nomark _)))))), ?_⟩
    obtain ⟨dx, a, b, c', hx, ha, hb, hc⟩ := id mx.at_
    refine ⟨_, rfl, cs, rfl, hl, h2, true, rfl, iteT ?_⟩
    refine ⟨_, rfl, x, dx, _, rfl, hx, f3_no (by decide +kernel) (by decide +kernel) (by decide +kernel), _, rfl, x, u, cs, rfl, mx, by omega, fun r' H3 er' s3 => ⟨rfl, by rw [decide_eq_true rfl]; exact q _ s3⟩, fun k H3 hk en s3 => ?_⟩
    rw [er] at en
    cases en
theorem ok_merges {f : Addr} {fd : FuncData} (F : Fun K "merges" "merges" s_merges f fd) (T : Tz K mg CM CJ) (D_can_happen : Df P w K mg base 3 "can_happen" (spCan CM)) (D_image : Mf P w K mg base 1 CM "image" (spImg CM)) : FnOk P w K mg base CX0 4 f fd ["misreading", "one", "other"] (spMerges CM) := by
  refine F.ok sc_merges (fun vs H Q E h => ?_) (fun cdv A outer s H vs Q E hr h => ?_)
  · obtain ⟨x, u, a, b, r, rfl, _⟩ := h
    rfl
  · obtain ⟨x, u, a, b, r, rfl, mx, ha, hb, la, lb, ne, bu, ea, eb, q⟩ := h
    refine ⟨_, (pss_one (ps_ret (pe_and (pe_c D_can_happen hr (by decide) (by rfl) (pa_cons (pv 0) (pa_cons (pv 1) pa_nil))) (pe_and (pe_c D_can_happen hr (by decide) (by rfl) (pa_cons (pv 0) (pa_cons (pv 2) pa_nil))) (pe_and (pe_cmpR op_ne (pv 1) (pv 2) (nomark _)) (pe_one (pe_cmpR op_eq (pe_mt T.cl D_image hr (by decide) (pv 0) (pa_cons (pv 1) pa_nil)) (pe_mt T.cl D_image hr (by decide) (pv 0) (pa_cons (pv 2) pa_nil)) (nomark _)))))))), ?_⟩
    obtain ⟨dx, a', b', c', hx, _⟩ := id mx.at_
    refine ⟨_, rfl, _, rfl, x, u, a, r, rfl, mx, ha, la, ea, fun H1 s1 => ⟨true, rfl, iteT ?_⟩⟩
    have m1 := mx.same2 s1
    refine ⟨_, rfl, _, rfl, x, u, b, r, rfl, m1, hb, lb, eb, fun H2 s2 => ⟨true, rfl, iteT ?_⟩⟩
    have m2 := m1.same2 s2
    have hx2 := s2 _ _ (s1 _ _ hx)
    refine ⟨_, rfl, _, rfl, rfl, true, ?_, iteT ?_⟩
    · rw [Sx_eq, decide_eq_false ne]
      rfl
    refine ⟨_, rfl, x, dx, _, rfl, hx2, f3_no (by decide +kernel) (by decide +kernel) (by decide +kernel), _, rfl, x, u, a, r, rfl, m2, bu, ea, la, fun H3 s3 => ?_⟩
    refine ⟨_, rfl, x, dx, _, rfl, s3 _ _ hx2, f3_no (by decide +kernel) (by decide +kernel) (by decide +kernel), _, rfl, x, u, b, r, rfl, m2.same2 s3, bu, eb, lb, fun H4 s4 => ?_⟩
    refine ⟨rfl, ?_⟩
    rw [decide_eq_true rfl]
    exact q _ fun b o e => s4 _ _ (s3 _ _ (s2 _ _ (s1 _ _ e)))
theorem ok_showsM {f : Addr} {fd : FuncData} (F : Fun K "shows_merging" "shows_merging" s_shows_merging f fd) (T : Ts K mg CM CJ CO CR) (D_check_images : Df P w K mg base 5 "check_images" (spChkL CM)) (D_image_pairs : Df P w K mg base 4 "image_pairs" (spPairs CM)) (D_right_leads : Df P w K mg base 0 "right_leads" (fun _ _ _ _ => False)) (D_merges : Df P w K mg base 4 "merges" (spMerges CM)) : FnOk P w K mg base CX0 6 f fd ["misreading", "value"] (spShowsM CM CR) := by
  refine F.ok sc_shows_merging (fun vs H Q E h => ?_) (fun cdv A outer s H vs Q E hr h => ?_)
  · obtain ⟨x, z, dz, u, a, b, r, rfl, _⟩ := h
    rfl
  · obtain ⟨x, z, dz, u, a, b, r, rfl, mx, ok, hz, ha, hb, la, lb, ne, bu, ea, eb, q⟩ := h
    refine ⟨_, (pss_cons (ps_expr (pe_c D_check_images hr (by decide) (by rfl) (pa_cons (pv 0) pa_nil)))
      (pss_cons (ps_if (pt_val (pe_callB call_isi (by rfl) T.isinstance (by decide +kernel) (pa_cons (pv 1) (pa_cons (pe_gv T.gOneToOne (by rfl)) pa_nil))))
        (pss_cons (ps_set (i := 2) sc_shows_merging.nd rfl (.inl rfl) (pe_c D_image_pairs hr (by decide) (by rfl) (pa_cons (pv 0) pa_nil)))
        (pss_one (ps_ret (pe_c D_right_leads hr (by decide) (by rfl) (pa_cons (pv 2) (pa_cons (pv 2) (pa_cons (pe_fldK (K := K) rfl (pv 1) rfl) (pa_cons (pe_fldK (K := K) rfl (pv 1) rfl) pa_nil))))))))
        pss_nil)
      (pss_one (ps_ret (pe_and (pe_callB call_isi (by rfl) T.isinstance (by decide +kernel) (pa_cons (pv 1) (pa_cons (pe_gv T.gMerged (by rfl)) pa_nil))) (pe_one (pe_c D_merges hr (by decide) (by rfl) (pa_cons (pv 0) (pa_cons (pe_fldK (K := K) rfl (pv 1) rfl) (pa_cons (pe_fldK (K := K) rfl (pv 1) rfl) pa_nil)))))))))), ?_⟩
    refine ⟨_, rfl, x, u, rfl, mx, ok, fun H1 s1 => ?_⟩
    have hz1 := s1 _ _ hz
    refine ⟨_, rfl, _, .ref CO, .ref CR, .ref CO, false, rfl, .own _, T.tyR _ _ _ _ hz1, T.kRO, false, rfl, iteF ?_⟩
    refine ⟨_, rfl, _, .ref CR, .ref CR, .ref CR, true, rfl, .own _, T.tyR _ _ _ _ hz1, T.kRR, true, rfl, iteT ?_⟩
    refine ⟨_, rfl, _, rfl, z, CR, dz, _, _, rfl, hz1, T.clR, T.nR1, fR_o _ _, _, rfl, z, CR, dz, _, _, rfl, hz1, T.clR, T.nR2, fR_t _ _, ?_⟩
    exact ⟨x, u, a, b, r, rfl, mx.same2 s1, ha, hb, la, lb, ne, bu, ea, eb, fun H2 s2 => q _ fun b o e => s2 _ _ (s1 _ _ e)⟩
end
end V8
set_option Elab.async false
set_option linter.all false
set_option maxRecDepth 100000
set_option maxHeartbeats 8000000
/-! Small things of lists of texts. -/
namespace V8
open PySem PySem.Spec PyProof.Rows L2 MZ
theorem eqv_nil (l : List Nat) : PyData.eqv (.list (l.map fun c => .str (L1 c))) (.list []) = decide (l = []) := by
  cases l <;> rfl
theorem rd_put {H : Hp} {D d : Addr} {o x : HO} (h : Rd H d o) (n : H D = none) : Rd (upd H D x) d o := by
  rcases h with h | ⟨od, h⟩
  · exact .inl (by rw [upd_ne (ne_of_none h n)]; exact h)
  · exact .inr ⟨od, by rw [upd_ne (ne_of_none h n)]; exact h⟩
theorem acc_okL {H : Hp} {D : Addr} {zs : List V} {i : Nat} {y : V} (hz : zs[i]? = some y) (sm : zs.length < sizeLine) :
    ∃ acc, upd H D (.lst (zs.take i)) D = some (.lst acc) ∧ acc.length < sizeLine ∧ upd (upd H D (.lst (zs.take i))) D (.lst (acc ++ [y])) = upd H D (.lst (zs.take (i + 1))) := by
  refine ⟨_, upd_same, ?_, ?_⟩
  · rw [List.length_take]
    omega
  · rw [upd_upd, List.take_add_one, hz]
    rfl
abbrev sxV (ws : List Wd) : List V := (ws.map Sx).map V.str
theorem sxV_len (ws : List Wd) : (sxV ws).length = ws.length := by rw [List.length_map, List.length_map]
theorem sxV_app (a b : List Wd) : sxV (a ++ b) = sxV a ++ sxV b := by
  show ((a ++ b).map Sx).map V.str = _
  rw [List.map_append, List.map_append]
end V8
set_option Elab.async false
set_option linter.all false
set_option maxRecDepth 100000
set_option maxHeartbeats 8000000
set_option pp.maxSteps 900
/-! A table under other names. -/
namespace V8
open PySem PySem.Spec PyProof.Rows L2 MZ
abbrev s__law_named : Stmt := topS 88
abbrev n__law_named : List Str := ["_law_table_here", "_law_names", "_law_letter", "_law_sign"]
theorem sc__law_named : FnScope ["_law_table_here", "_law_names", "_law_letter", "_law_sign"] ["_law_table_here", "_law_names"] (defScope s__law_named) := ⟨rfl, rfl, rfl, by decide +kernel, rfl, by decide +kernel, by decide +kernel⟩
/-- the scope of the outer comprehension -/
def scN : Scope := { kind := .function, names := [(".0", .local), ("_law_letter", .local), ("_law_names", .free), ("_law_table_here", .free)], isGenerator := false, isCoroutine := false }
def nmF (nm : Tab) (c : Nat) : Nat := ((lookT nm c).getD []).headD 0
def namedT (t nm : Tab) : Tab := t.map fun q => (nmF nm q.1, q.2.map (nmF nm))
def HasNm (nm : Tab) (c : Nat) : Prop := lookT nm c = some [nmF nm c]
def spNamed : Sp := fun vs H Q _ => ∃ (d n : Addr) (t nm : Tab), vs = [.ref d, .ref n] ∧ H d = some (.dK (encT t)) ∧ H n = some (.dK (encT nm)) ∧ (∀ q ∈ t, HasNm nm q.1 ∧ ∀ c ∈ q.2, HasNm nm c) ∧ t.length ≤ 8 ∧ (∀ q ∈ t, q.2.length ≤ 8) ∧ (t.map (·.1)).Nodup ∧ ((namedT t nm).map (·.1)).Nodup ∧ (∀ q ∈ t, isLt q.1 ∧ ∀ c ∈ q.2, isLt c) ∧
  ∀ r H', H r = none → Same H H' → H' r = some (.dK (encT (namedT t nm))) → Q (.ref r) H'
theorem rd_lock {H : Hp} {d n : Addr} {t nm : Tab} {od : Obj} (hd : H d = some (.dK (encT t))) (hn : H n = some (.dK (encT nm))) : Rd (upd H d (.frz od (.dK (encT t)))) n (.dK (encT nm)) := by
  by_cases e : n = d
  · subst e
    have e2 : HO.dK (encT t) = HO.dK (encT nm) := Option.some.inj (hd.symm.trans hn)
    rw [← e2]
    exact .inr ⟨od, upd_same⟩
  · exact .inl (by rw [upd_ne e]; exact hn)
section
variable {P : Program} {w : World} {K : PySem.W.Frag} {mg : Str → Option Value} {base : Heap} {CM CJ : Addr}
theorem ok_named {f : Addr} {fd : FuncData} (F : Fun K "_law_named" "_law_named" s__law_named f fd) (T : Tz K mg CM CJ) : FnOk P w K mg base CX0 1 f fd ["_law_table_here", "_law_names"] spNamed := by
  refine F.ok sc__law_named (fun vs H Q E h => ?_) (fun cdv A outer s H vs Q E hr h => ?_)
  · obtain ⟨d, n, t, nm, rfl, _⟩ := h
    rfl
  · obtain ⟨d, n, t, nm, rfl, hd, hn, has, l8, i8, nd, nd2, lt, q⟩ := h
    refine ⟨_, (pss_one (ps_ret (pe_callTy (call_dictP rfl) (by rfl) T.dict (by decide +kernel) (pa_cons (pe_lock (pe_lc (own := [("_law_letter", 2)]) (g := gName 2) (by rfl) sc__law_named.nd (pi_keys (pv 0)) (blkOk_by (own := [("_law_letter", 2)]) (N := n__law_named) (sc := defScope s__law_named) (by decide +kernel)) (fun _ _ _ _ _ => (pg_name (i := 2) sc__law_named.nd rfl (.inl rfl))) (fun _ _ _ _ _ => pts_nil) (fun _ _ _ _ _ => (pe_tup (pa_cons (pe_dget (hu_of hr) (pv 1) (pv 2) (fun _ _ => rfl)) (pa_cons (pe_joinK (K := K) rfl pe_str (pe_lc (own := [("_law_sign", 3)]) (g := gName 3) (by rfl) sc__law_named.nd (pi_str (pe_dget (hu_of hr) (pv 0) (pv 2) (fun _ _ => rfl))) (blkOk_by (own := [("_law_sign", 3)]) (N := n__law_named) (sc := relS scN (defScope s__law_named)) (by decide +kernel)) (fun _ _ _ _ _ => (pg_name (i := 3) sc__law_named.nd rfl (.inl rfl))) (fun _ _ _ _ _ => pts_nil) (fun _ _ _ _ _ => (pe_dget (hu_of hr) (pv 1) (pv 3) (fun _ _ => rfl))))) pa_nil)))))) pa_nil)))), ?_⟩
    have le : (encT t).length = t.length := encT_len t
    refine ⟨d, _, hd, True.intro, fun od => ⟨_, rfl, d, od, rfl, .inl ⟨_, upd_same, ?_⟩⟩⟩
    have rdn := rd_lock (od := od) hd hn
    have rdd : Rd (upd H d (.frz od (.dK (encT t)))) d (.dK (encT t)) := .inr ⟨od, upd_same⟩
    have nofr : ∀ b, b ≠ d → upd H d (.frz od (.dK (encT t))) b = H b := fun b e => upd_ne e
    have hfz : upd H d (.frz od (.dK (encT t))) d = some (.frz od (.dK (encT t))) := upd_same
    generalize eL : upd H d (.frz od (.dK (encT t))) = HL at rdn rdd nofr hfz ⊢
    refine fun D nD => lc_it (walk_keys (d := d) (o := od) (kvs := encT t)) (fun i H2 => ∃ ps, PairsAt H2 ps ((namedT t nm).take i) ∧ H2 D = some (.lst (ps.map V.ref)) ∧ Same HL H2) ?_ ?_ ?_ ?_
    · exact ⟨[], .nil, upd_same, same_put (s := Same.refl HL) nD⟩
    · rintro i H2 hi ⟨ps, _, _, s2⟩
      exact s2 _ _ hfz
    · rintro i x H20 H2 hi ⟨ps, pr, hD, s2⟩ ⟨rfl, k, v, hk, rfl⟩
      obtain ⟨hi', rfl, rfl⟩ := enc_at hk
      have hq := List.getElem_mem hi'
      obtain ⟨h1, h2⟩ := has _ hq
      have ly := pr.len
      rw [List.length_take] at ly
      have rdn2 : Rd H2 n (.dK (encT nm)) := rdn.imp (fun h => s2 _ _ h) fun ⟨o, h⟩ => ⟨o, s2 _ _ h⟩
      have rdd2 : Rd H2 d (.dK (encT t)) := rdd.imp (fun h => s2 _ _ h) fun ⟨o, h⟩ => ⟨o, s2 _ _ h⟩
      refine ⟨rfl, _, rfl, _, rfl, n, V.str (Sx [nmF nm t[i].1]), rfl, .inl ⟨_, Sum.inr (L1 t[i].1), rdn2, rfl, by rw [valV_enc, h1]; rfl⟩, ?_⟩
      refine ⟨⟨_, rfl⟩, _, rfl, _, rfl, d, V.str (Sx t[i].2), rfl, .inl ⟨_, Sum.inr (L1 t[i].1), rdd2, rfl, by rw [valV_enc, look_at nd hi']; rfl⟩, Sx t[i].2, rfl, fun D2 nD2 => ?_⟩
      have hz : ∀ (j : Nat) (c : Nat), t[i].2[j]? = some c → (((t[i].2.map fun c => [nmF nm c]).map Sx).map V.str)[j]? = some (V.str (Sx [nmF nm c])) := fun j c hj => by
        rw [List.getElem?_map, List.getElem?_map, List.getElem?_map, hj]
        rfl
      have hlen : (((t[i].2.map fun c => [nmF nm c]).map Sx).map V.str).length = t[i].2.length := by
        rw [List.length_map, List.length_map, List.length_map]
      have li := i8 _ hq
      refine lc_it walk_str (fun j H3 => H3 = upd H2 D2 (.lst ((((t[i].2.map fun c => [nmF nm c]).map Sx).map V.str).take j))) rfl (fun _ _ _ _ => trivial) ?_ ?_
      · rintro j z H3 H3' hj rfl ⟨rfl, c, hc0, rfl⟩
        have hc1 := sx_at hc0
        have h3 := h2 c (List.mem_of_getElem? hc1)
        have r1 := rd_put (x := .lst ((((t[i].2.map fun c => [nmF nm c]).map Sx).map V.str).take j)) rdn2 nD2
        refine ⟨rfl, _, rfl, _, rfl, n, V.str (Sx [nmF nm c]), rfl, .inl ⟨_, Sum.inr (L1 c), r1, rfl, by rw [valV_enc, h3]; rfl⟩, ?_⟩
        exact acc_okL (hz j c hc1) (by rw [hlen, sizeLine_eq]; omega)
      · rintro H3 rfl
        rw [sx_size, List.take_of_length_le (by rw [hlen]; exact Nat.le_refl _)]
        refine ⟨Str.empty, D2, (t[i].2.map fun c => [nmF nm c]).map Sx, rfl, rfl, .inl (SqL.of upd_same), ?_, ?_⟩
        · have hb := sum_le (fun x : Str => x.length) 1 ((t[i].2.map fun c => [nmF nm c]).map Sx) fun y hy => by
            obtain ⟨s3, hs3, rfl⟩ := List.mem_map.mp hy
            obtain ⟨c, hc, rfl⟩ := List.mem_map.mp hs3
            exact Nat.le_refl _
          rw [List.length_map, List.length_map] at hb ⊢
          show _ + _ * 0 ≤ _
          omega
        · rw [join_Sx]
          have ef : (t[i].2.map fun c => [nmF nm c]).flatten = t[i].2.map (nmF nm) := by
            induction t[i].2 with
            | nil => rfl
            | cons c r ih =>
              rw [List.map_cons, List.flatten_cons, ih]
              rfl
          rw [ef]
          have s3 := same_put (s := Same.refl H2) (o := .lst (((t[i].2.map fun c => [nmF nm c]).map Sx).map V.str)) nD2
          generalize upd H2 D2 (.lst (((t[i].2.map fun c => [nmF nm c]).map Sx).map V.str)) = H3 at s3 ⊢
          refine ⟨by show 2 ≤ sizeLine; decide, fun p np => ?_⟩
          have hp : upd H3 p (.tup [.str (Sx [nmF nm t[i].1]), .str (Sx (t[i].2.map (nmF nm)))]) p = some (.tup [.str (L1 (nmF nm t[i].1)), .str (Sx (t[i].2.map (nmF nm)))]) := upd_same
          have s4 := same_put (s := s3) (o := .tup [.str (Sx [nmF nm t[i].1]), .str (Sx (t[i].2.map (nmF nm)))]) np
          generalize upd H3 p (.tup [.str (Sx [nmF nm t[i].1]), .str (Sx (t[i].2.map (nmF nm)))]) = H4 at s4 hp ⊢
          have hD4 := s4 _ _ hD
          have ep : (namedT t nm)[i]? = some (nmF nm t[i].1, t[i].2.map (nmF nm)) := by
            unfold namedT
            rw [List.getElem?_map, List.getElem?_eq_getElem hi']
            rfl
          refine ⟨_, hD4, by rw [List.length_map, sizeLine_eq]; omega, ps ++ [p], ?_, ?_, ?_⟩
          · rw [List.take_add_one, ep]
            exact PairsAt.snoc ((pr.mono fun b xs e => s4 _ _ e).mono (tup_upd hD4)) ((upd_ne (ne_of hp hD4 (fun z => nomatch z))).trans hp)
          · rw [upd_same, List.map_append]
            rfl
          · intro b o e
            rw [upd_ne (ne_of_none e nD)]
            exact s4 _ _ (s2 _ _ e)
    · rintro H2 ⟨ps, pr, hD, s2⟩
      rw [le, List.take_of_length_le (by unfold namedT; rw [List.length_map]; exact Nat.le_refl _)] at pr
      have dD : d ≠ D := ne_of_none hfz nD
      have nDH : H D = none := by
        rw [← nofr D (Ne.symm dD)]
        exact nD
      have hd2 : H2 d = some (.frz od (.dK (encT t))) := s2 _ _ hfz
      have sB : Same H (upd H2 d (.dK (encT t))) := fun b o e => by
        by_cases eb : b = d
        · rw [eb, upd_same, ← hd, ← eb, e]
        · rw [upd_ne eb]
          exact s2 _ _ (by rw [nofr b eb]; exact e)
      have hDB : upd H2 d (.dK (encT t)) D = some (.lst (ps.map V.ref)) := by rw [upd_ne (Ne.symm dD)]; exact hD
      have prB : PairsAt (upd H2 d (.dK (encT t))) ps (namedT t nm) := pr.mono fun b xs e => by
        rw [upd_ne (fun z => by rw [z, hd2] at e; cases e)]
        exact e
      refine ⟨hd2, D, ps, encT (namedT t nm), rfl, SqL.of hDB, PairsAt.sq prB, fun r nr => ?_⟩
      have em : mergeK [] (encT (namedT t nm)) = encT (mergeT [] (namedT t nm)) := mergeK_enc (namedT t nm) []
      rw [em, mergeT_nil nd2]
      exact q r _ (same_none sB nr) (same_put (s := sB) nr) upd_same
end
end V8
set_option Elab.async false
set_option linter.all false
set_option maxRecDepth 100000
set_option maxHeartbeats 4000000
/-! A text written backwards: x[::-1]. -/
namespace L2
open PySem PySem.Spec PyProof.Rows
def revS (z : Str) : Str := ⟨z.cps.toList.reverse.toArray⟩
theorem idx_rev (n : Nat) : Builtin.Str.strSliceIndices none none (-1) n = (List.range n).reverse := by
  have h : Builtin.Str.strSliceIndices none none (-1) n = sliceRange ((n : Int) - 1) (-1) (-1) := rfl
  rw [h, PySem.W.krv_sliceRange, PySem.W.krv_range]
def tRevS (te : TE) : TE := fun σ H Q => te σ H fun x H1 => ∃ z, x = .str z ∧ z.length ≤ sizeLine ∧ Q (.str (revS z)) H1
section
variable {X : Cx}
theorem pe_revS {e : Expr} {te : TE} {k : Nat} {p1 p2 p3 pos : Pos} (he : PE X e te) : PE X (.Subscript e (.Slice none none (some (.UnaryOp .USub (.Constant (.int 1) k p1) p2)) p3) pos) (tRevS te) := by
  refine ⟨fun pins s σ H Q I h => ?_⟩
  refine Subscript_ (thn (he.run pins s σ H _ I h) fun v s1 ⟨x, H1, I1, r1, q1⟩ => ?_)
  obtain ⟨z, ex, hz, q⟩ := q1
  subst ex
  obtain ⟨t, rfl⟩ := r1
  have hst : PO X (some (.UnaryOp .USub (.Constant (.int 1) k p1) p2)) (tPart (tUn (rU fun i => .int (-i)) (tC (.int 1)))) := po_some (pe_un un_neg pe_int)
  refine wpAny_Slice (thn (po_none.run pins s1 σ H1 (fun o H2 => o = none ∧ H2 = H1) I1 ⟨rfl, rfl⟩) fun vl s2 ⟨l, H2, I2, pl, el, e2⟩ => ?_)
  subst el e2
  refine thn (po_none.run pins s2 σ H2 (fun o H3 => o = none ∧ H3 = H2) I2 ⟨rfl, rfl⟩) fun vu s3 ⟨u, H3, I3, pu, eu, e3⟩ => ?_
  subst eu e3
  refine thn (hst.run pins s3 σ H3 (fun o H4 => o = some (-1) ∧ H4 = H3) I3 ⟨1, rfl, -1, rfl, rfl, rfl⟩) fun vs s4 ⟨o, H4, I4, ps, eo, e4⟩ => ?_
  subst eo e4
  have I5 : Inv X pins σ H4 { s4 with heap := s4.heap.push { cls := .type "slice", data := .fields #[vl, vu, vs] } } := I4.kept (t' := s4.toks) fun b ob q => Heap.get?_push_of_some _ q
  show wpAny (model X.prog X.w) X.A (subscriptTail e (.Slice none none (some (.UnaryOp .USub (.Constant (.int 1) k p1) p2)) p3) (.str z t) (.ref s4.heap.objs.size)) (EP X pins σ Q) X.xe { s4 with heap := s4.heap.push { cls := .type "slice", data := .fields #[vl, vu, vs] } }
  refine tail_any (ops := [.str z t, .ref s4.heap.objs.size]) (typeIs_str _ _ _) F.slot_str_getitem.lookup ?_ (by with_unfolding_all rfl)
  obtain ⟨os, hos, hcs, hds⟩ := Heap.IsSliceOf.new s4.heap vl vu vs
  obtain ⟨l, rfl, el⟩ := IsPart.raw pl
  obtain ⟨u, rfl, eu⟩ := IsPart.raw pu
  obtain ⟨st, rfl, es⟩ := IsPart.raw ps
  refine wpAny_getItem_str_slice (l := l) (u := u) (st := st) ⟨os, hos, hcs, hds⟩ (by rw [es]; rfl) ?_
  unfold sliceMade slicePicked
  rw [el, eu, es]
  show Made.post (if ((-1 : Int) == 1 && (Builtin.Str.strSliceIndices none none (-1) z.length).length == z.length) = true then Made.val (.str z t) else Made.str ⟨((Builtin.Str.strSliceIndices none none (-1) z.length).filterMap (z.cps[·]?)).toArray⟩) (EP X pins σ Q) _
  rw [if_neg (by simp), idx_rev, List.filterMap_reverse, show (List.range z.length).filterMap (z.cps[·]?) = z.cps.toList from PySem.W.krv_all z.cps]
  have ln : (⟨z.cps.toList.reverse.toArray⟩ : Str).length ≤ sizeLine := by
    show z.cps.toList.reverse.toArray.size ≤ _
    rw [List.size_toArray, List.length_reverse, Array.length_toList]
    exact hz
  exact ⟨ln, .str (revS z), H4, I5.tok _, ⟨_, rfl⟩, q⟩
end
end L2
set_option Elab.async false
set_option linter.all false
set_option maxRecDepth 100000
set_option maxHeartbeats 8000000
set_option pp.maxSteps 900
/-! Tables written backwards and under other names; the words of the leads, sorted. -/
namespace V8
open PySem PySem.Spec PyProof.Rows L2 MZ
theorem ok_good {t : Tab} (g : GoodT abc t) (l8 : t.length ≤ 8) : OkU t := by
  refine ⟨?_, fun c hc => ?_⟩
  · have : (keysOf t).length ≤ (t.map (·.1)).length := nd_le (keysOf_nd t) fun c hc => by
      obtain ⟨s, e⟩ := Option.isSome_iff_exists.mp (keysOf_mem.mp hc).2
      exact List.mem_map.mpr ⟨_, look_in e, rfl⟩
    rw [List.length_map] at this
    omega
  · obtain ⟨s, e⟩ := Option.isSome_iff_exists.mp (keysOf_mem.mp hc).2
    have i := g.img _ (look_in e)
    refine ⟨s, e, fun z => ?_, Nat.le_trans i.2.1 (by decide), fun d hd => abc_mem.mp (i.2.2 d hd)⟩
    have := i.1
    rw [show (c, s).2 = s from rfl, z] at this
    exact absurd this (by decide)
theorem GoodI.abc {cs s : List Nat} (g : GoodI cs s) (h : ∀ c ∈ cs, isLt c) : GoodI abc s := ⟨g.1, g.2.1, fun d hd => abc_mem.mpr (h d (g.2.2 d hd))⟩
theorem GoodT.abc {cs : List Nat} {t : Tab} (g : GoodT cs t) (h : ∀ c ∈ cs, isLt c) : GoodT abc t := ⟨g.nd, fun q hq => abc_mem.mpr (h _ (g.key q hq)), fun q hq => (g.img q hq).abc h⟩
structure CnD (K : PySem.W.Frag) (aS aE aV aD : Addr) (H : Hp) : Prop where
  cn : CnH K aS aE aV H
  sd : SqT K H aD [.str (sideS true), .str (sideS false)]
section
variable {K : PySem.W.Frag}
theorem CnD.same {aS aE aV aD : Addr} {H H' : Hp} (c : CnD K aS aE aV aD H) (s : Same H H') : CnD K aS aE aV aD H' := ⟨c.cn.same s, sq_same c.sd s⟩
theorem CnD.fr {aS aE aV aD p l : Addr} {ns : List Int} {n : Nat} {H H' : Hp} (c : CnD K aS aE aV aD H) (P : PenAt H p l ns n) (f : Fr p H H') : CnD K aS aE aV aD H' := by
  obtain ⟨xs, hp⟩ := P.pen
  have g : ∀ {b : Addr} {ys : List V}, SqT K H b ys → SqT K H' b ys := fun e => sq_mono e fun o eo z => f _ _ eo fun q => by
    rw [q, hp] at eo
    cases eo
    rcases z with z | ⟨_, z⟩ <;> cases z
  exact ⟨⟨g c.cn.st, g c.cn.en, g c.cn.ev⟩, g c.sd⟩
end
theorem VerO.same {CO CR : Addr} {P : List Pr} {H H' : Hp} {z : Addr} (v : VerO CO CR P H z) (s : Same H H') : VerO CO CR P H' z := by
  rcases v with ⟨dx, l, d, rs, rs', a, h, t1, t2, r⟩ | ⟨dx, w, h, r⟩
  · exact .inl ⟨dx, l, d, rs, rs', a, s _ _ h, t1.same s, t2.same s, r⟩
  · exact .inr ⟨dx, w, s _ _ h, r⟩
theorem pairs_lbl (t : Tab) : Lbl (pairsT t) := fun x hx y hy e => by
  obtain ⟨c, _, rfl⟩ := List.mem_map.mp hx
  obtain ⟨d, _, rfl⟩ := List.mem_map.mp hy
  have e : c = d := e
  rw [e]
def revT (t : Tab) : Tab := t.map fun q => (q.1, q.2.reverse)
theorem look_revT (t : Tab) (c : Nat) : lookT (revT t) c = (lookT t c).map List.reverse := by
  induction t with
  | nil => rfl
  | cons q r ih =>
    obtain ⟨k, s⟩ := q
    show lookT ((k, s.reverse) :: revT r) c = _
    rw [look_cons, look_cons, ih]
    by_cases h : k = c
    · rw [if_pos h, if_pos h]
      rfl
    · rw [if_neg h, if_neg h]
theorem lk_revT (t : Tab) (c : Nat) : lk (revT t) c = (lk t c).map List.reverse := by
  show (if c ∈ abc then lookT (revT t) c else none) = (if c ∈ abc then lookT t c else none).map List.reverse
  by_cases h : c ∈ abc
  · rw [if_pos h, if_pos h, look_revT]
  · rw [if_neg h, if_neg h]
    rfl
theorem rev_keys (t : Tab) : (revT t).map (·.1) = t.map (·.1) := by
  unfold revT
  rw [List.map_map]
  rfl
theorem rev_good {cs : List Nat} {t : Tab} (g : GoodT cs t) : GoodT cs (revT t) := by
  refine ⟨by rw [rev_keys]; exact g.nd, fun q hq => ?_, fun q hq => ?_⟩
  · obtain ⟨p, hp, rfl⟩ := List.mem_map.mp hq
    exact g.key p hp
  · obtain ⟨p, hp, rfl⟩ := List.mem_map.mp hq
    have i := g.img p hp
    exact ⟨by rw [List.length_reverse]; exact i.1, by rw [List.length_reverse]; exact i.2.1, fun d hd => i.2.2 d (List.mem_reverse.mp hd)⟩
theorem look_named {cs : List Nat} {nm : Tab} (inj : ∀ a ∈ cs, ∀ b ∈ cs, nmF nm a = nmF nm b → a = b) : ∀ {t : Tab}, (∀ q ∈ t, q.1 ∈ cs) → ∀ c ∈ cs, lookT (namedT t nm) (nmF nm c) = (lookT t c).map (List.map (nmF nm))
  | [], _, _, _ => rfl
  | (k, s) :: r, h, c, hc => by
    show lookT ((nmF nm k, s.map (nmF nm)) :: namedT r nm) (nmF nm c) = _
    rw [look_cons, look_cons, look_named inj (fun q hq => h q (List.mem_cons_of_mem _ hq)) c hc]
    by_cases e : k = c
    · rw [if_pos e, if_pos (by rw [e])]
      rfl
    · rw [if_neg e, if_neg fun z => e (inj k (h _ List.mem_cons_self) c hc z)]
theorem named_nd {cs : List Nat} {t nm : Tab} (inj : ∀ a ∈ cs, ∀ b ∈ cs, nmF nm a = nmF nm b → a = b) (g : GoodT cs t) : ((namedT t nm).map (·.1)).Nodup := by
  have e : (namedT t nm).map (·.1) = (t.map (·.1)).map (nmF nm) := by
    unfold namedT
    rw [List.map_map, List.map_map]
    rfl
  rw [e]
  refine nd_on g.nd fun x hx y hy e => ?_
  obtain ⟨p, hp, rfl⟩ := List.mem_map.mp hx
  obtain ⟨q, hq, rfl⟩ := List.mem_map.mp hy
  exact inj _ (g.key p hp) _ (g.key q hq) e
theorem named_good {cs : List Nat} {t nm : Tab} (inj : ∀ a ∈ cs, ∀ b ∈ cs, nmF nm a = nmF nm b → a = b) (lt : ∀ c ∈ cs, isLt (nmF nm c)) (g : GoodT cs t) : GoodT abc (namedT t nm) := by
  refine ⟨named_nd inj g, fun q hq => ?_, fun q hq => ?_⟩
  · obtain ⟨p, hp, rfl⟩ := List.mem_map.mp hq
    exact abc_mem.mpr (lt _ (g.key p hp))
  · obtain ⟨p, hp, rfl⟩ := List.mem_map.mp hq
    have i := g.img p hp
    refine ⟨by rw [List.length_map]; exact i.1, by rw [List.length_map]; exact i.2.1, fun d hd => ?_⟩
    obtain ⟨c, hc, rfl⟩ := List.mem_map.mp hd
    exact abc_mem.mpr (lt c (i.2.2 c hc))
theorem named_lk {cs : List Nat} {t nm : Tab} (inj : ∀ a ∈ cs, ∀ b ∈ cs, nmF nm a = nmF nm b → a = b) (lt : ∀ c ∈ cs, isLt (nmF nm c)) (clt : ∀ c ∈ cs, isLt c) (g : GoodT cs t) : Named (nmF nm) cs (lk t) (lk (namedT t nm)) := by
  refine ⟨inj, good_over g, fun c hc => ?_, fun d hd => ?_⟩
  · show (if nmF nm c ∈ abc then lookT (namedT t nm) (nmF nm c) else none) = (if c ∈ abc then lookT t c else none).map (List.map (nmF nm))
    rw [if_pos (abc_mem.mpr (lt c hc)), if_pos (abc_mem.mpr (clt c hc)), look_named inj g.key c hc]
  · obtain ⟨s, e⟩ := Option.isSome_iff_exists.mp hd
    have := look_in (lk_some e).2
    obtain ⟨p, hp, e2⟩ := List.mem_map.mp this
    exact ⟨p.1, g.key p hp, (Prod.mk.inj e2).1.symm⟩
/-- the leads' words, sorted, are those of the table -/
theorem rows_side {P : List Pr} {rs : List (Bool × Wd)} {qs : List Pr} (r : Paired (RowIs P) rs qs) : rs = qs.map fun x => (true, x.1) := by
  induction r with
  | nil => rfl
  | cons h _ ih =>
    obtain ⟨_, e, _⟩ := h
    rw [List.map_cons, ← ih, e]
theorem rows_sorted {P : List Pr} {rs : List (Bool × Wd)} {qs : List Pr} (r : Paired (RowIs P) rs qs) (is : RsIs P P true rs) : sortedS ((qs.map (·.1)).map Sx) = true := by
  have e := rows_side r
  obtain ⟨a, b, e2, _, _, s1, _⟩ := is
  have hb : b = [] := by
    cases b with
    | nil => rfl
    | cons x b =>
      have : (false, x) ∈ rs := by rw [e2]; exact List.mem_append_right _ List.mem_cons_self
      rw [e] at this
      obtain ⟨_, _, z⟩ := List.mem_map.mp this
      cases z
  subst hb
  have e3 := congrArg (List.map (·.2)) (e.symm.trans e2)
  rw [List.map_nil, List.append_nil, List.map_map, List.map_map] at e3
  have e4 : qs.map (·.1) = a := by
    refine Eq.trans e3 ?_
    conv => rhs; rw [← List.map_id a]
    rfl
  rw [e4]
  exact s1
theorem wl_pairs {t : Tab} (g : GoodT abc t) (q : Pr) : q ∈ wl t ↔ q ∈ pairsT t := by
  constructor
  · intro h
    obtain ⟨z, hz, rfl⟩ := List.mem_map.mp h
    have e : lookT t z.1 = some z.2 := look_mem g.nd hz
    refine List.mem_map.mpr ⟨z.1, keysOf_mem.mpr ⟨g.key _ hz, by rw [e]; rfl⟩, ?_⟩
    rw [e]
    rfl
  · intro h
    obtain ⟨c, hc, rfl⟩ := List.mem_map.mp h
    obtain ⟨s, e⟩ := Option.isSome_iff_exists.mp (keysOf_mem.mp hc).2
    refine List.mem_map.mpr ⟨(c, s), look_in e, ?_⟩
    rw [e]
    rfl
theorem nd_of_map {α β : Type} {f : α → β} {l : List α} (h : (l.map f).Nodup) : l.Nodup := by
  induction l with
  | nil => exact List.nodup_nil
  | cons a r ih =>
    rw [List.map_cons, List.nodup_cons] at h
    rw [List.nodup_cons]
    exact ⟨fun m => h.1 (List.mem_map_of_mem m), ih h.2⟩
theorem rows_perm {t : Tab} {qs : List Pr} (g : GoodT abc t) (o : RowsOf (pairsT t) qs) : ((qs.map (·.1)).map Sx).Perm (t.map fun q => Sx q.2) := by
  have h1 : qs.Nodup := nd_of_map o.nd
  have h2 : (wl t).Nodup := nd_of_map (f := (·.2)) (by
    unfold wl
    rw [List.map_map]
    exact g.nd)
  have p : qs.Perm (wl t) := (List.perm_ext_iff_of_nodup h1 h2).mpr fun q => (o.mem q).trans (wl_pairs g q).symm
  have p2 := (p.map (·.1)).map Sx
  refine p2.trans (.of_eq ?_)
  unfold wl
  rw [List.map_map, List.map_map]
  rfl
section
variable {P : Program} {w : World} {K : PySem.W.Frag} {mg : Str → Option Value} {base : Heap} {CM CJ : Addr}
theorem ok_same {f : Addr} {fd : FuncData} (F : Fun K "same" "Misreading.same" s_Misreading_same f fd) (T : Ty K mg CM CJ) (D_mk : Mkr P w K mg base CM) : FnOk P w K mg base CX0 7 f fd ["letters"] (spSame CM) := by
  refine F.ok sc_Misreading_same (fun vs H Q E h => ?_) (fun cdv A outer s H vs Q E hr h => ?_)
  · obtain ⟨cs, st, rfl, _⟩ := h
    rfl
  · obtain ⟨cs, st, rfl, h12, hlt, hst, hs5, q⟩ := h
    refine ⟨_, (pss_one (ps_ret (pe_mk2 D_mk hr (by decide) (by rfl) (pa_cons pe_dnewK (pa_cons (pv 0) pa_nil))))), ?_⟩
    have l12 : (toldT st []).length ≤ 12 := by
      have g := toldT_good hst hlt (GoodT.nil (cs := cs))
      have h1 : ((toldT st []).map (·.1)).length ≤ cs.length := nd_le g.nd fun c hc => by
        obtain ⟨p, hp, rfl⟩ := List.mem_map.mp hc
        exact g.key p hp
      rw [List.length_map] at h1
      exact Nat.le_trans h1 h12
    refine fun d nd => ⟨_, rfl, d, cs, st, [], rfl, upd_same, GoodT.nil, ⟨l12, by omega⟩, hlt, hst, hs5, fun x H' nx m sm => ?_⟩
    exact q x H' (same_none (s := same_put (s := fun _ _ e => e) nd) nx) m.mis (fun b o e => sm b o (by rw [upd_ne (ne_of_none e nd)]; exact e))
end
end V8
set_option Elab.async false
set_option linter.all false
set_option maxRecDepth 100000
set_option maxHeartbeats 8000000
/-! Texts of any signs: whether they are letters alone; words of a letter and its image. -/
set_option Elab.async false
set_option linter.all false
set_option maxRecDepth 100000
set_option maxHeartbeats 8000000
/-! Which word cannot stand, as the law finds it. -/
namespace V8
open PySem PySem.Spec PyProof.Rows L2
theorem viaAsg {te : TE} {g : TG} {rest : TS} {D : Ends} {σ : L2.St} {H : Hp} (A : V → Hp → Prop) (h1 : ∀ R' : VK, (∀ v H', A v H' → R' v H') → te σ H R') (h2 : ∀ v H', A v H' → g v σ H' (rest D)) : tSeq (tAsg te g) rest D σ H := h1 _ h2
theorem atName {i : Nat} {v : V} {σ : L2.St} {H : Hp} {Q : L2.St → Hp → Prop} (h : Q (σ.set i (some v)) H) : gName i v σ H Q := h
theorem seq1 {a b : TS} {D : Ends} {σ : L2.St} {H : Hp} (M : L2.St → Hp → Prop) (h2 : ∀ σ' H', M σ' H' → b D σ' H') (h1 : ∀ R : L2.St → Hp → Prop, (∀ σ' H', M σ' H' → R σ' H') → a { D with nx := R } σ H) : tSeq a b D σ H := h1 _ h2
end V8
set_option Elab.async false
set_option linter.all false
set_option maxRecDepth 100000
set_option maxHeartbeats 16000000
set_option pp.maxSteps 900
/-! Images written backwards, and other names, change nothing. -/
namespace V8
open PySem PySem.Spec PyProof.Rows L2 MZ
abbrev s__law_alike_right : Stmt := topS 89
abbrev n__law_alike_right : List Str := ["_law_made", "_law_table_here", "_law_names", "_law_back", "_law_found", "_law_turned", "_law_letter", "_law_row"]
theorem sc__law_alike_right : FnScope ["_law_made", "_law_table_here", "_law_names", "_law_back", "_law_found", "_law_turned", "_law_letter", "_law_row"] ["_law_made", "_law_table_here", "_law_names"] (defScope s__law_alike_right) := ⟨rfl, rfl, rfl, by decide +kernel, rfl, by decide +kernel, by decide +kernel⟩
def spAlikeR (K : PySem.W.Frag) (aS aE aV aD CM : Addr) : Sp := fun vs H Q _ => ∃ (x d n : Addr) (cs : List Nat) (t nm : Tab), vs = [.ref x, .ref d, .ref n] ∧ MisAt CM H x t ∧ H d = some (.dK (encT t)) ∧ H n = some (.dK (encT nm)) ∧ GoodT cs t ∧ t.length ≤ 5 ∧ (∀ c ∈ cs, isLt c) ∧ (∀ c ∈ cs, HasNm nm c ∧ isLt (nmF nm c)) ∧ (∀ a ∈ cs, ∀ b ∈ cs, nmF nm a = nmF nm b → a = b) ∧ CnD K aS aE aV aD H ∧ ∀ H', Same H H' → Q (.bl true) H'
section
variable {P : Program} {w : World} {K : PySem.W.Frag} {mg : Str → Option Value} {base : Heap} {aS aE aV aD CM CJ CO CR : Addr}
theorem ok_alikeR {f : Addr} {fd : FuncData} (F : Fun K "_law_alike_right" "_law_alike_right" s__law_alike_right f fd) (T : Ts K mg CM CJ CO CR) (D_mk : Mkr P w K mg base CM) (D_merging : Df P w K mg base 7 "merging" (spMerging K aS aE aV aD CM CO CR)) (D_named : Df P w K mg base 1 "_law_named" spNamed)
    (D_shows_merging : Df P w K mg base 6 "shows_merging" (spShowsM CM CR)) (D_Merged : MkC P w K mg base 4 CR "Merged" (spMrgI CR)) (D_boolO : Mf P w K mg base 1 CO "__bool__" (spTrue true)) (D_boolR : Mf P w K mg base 1 CR "__bool__" (spTrue false)) :
    FnOk P w K mg base CX0 9 f fd ["_law_made", "_law_table_here", "_law_names"] (spAlikeR K aS aE aV aD CM) := by
  refine F.ok sc__law_alike_right (fun vs H Q E h => ?_) (fun cdv A outer s H vs Q E hr h => ?_)
  · obtain ⟨x, d, n, cs, t, nm, rfl, _⟩ := h
    rfl
  · obtain ⟨x, d, n, cs, t, nm, rfl, m, hd, hn, g, l5, clt, has, inj, cd, q⟩ := h
    refine ⟨_, (pss_cons (ps_set (i := 3) sc__law_alike_right.nd rfl (.inl rfl) (pe_mk1 D_mk hr (by decide) (by rfl) (pa_cons (pe_callTy (call_dictP rfl) (by rfl) T.dict (by decide +kernel) (pa_cons (pe_lock (pe_lc (own := [("_law_letter", 6)]) (g := gName 6) (by rfl) sc__law_alike_right.nd (pi_keys (pv 1)) (blkOk_by (own := [("_law_letter", 6)]) (N := n__law_alike_right) (sc := defScope s__law_alike_right) (by decide +kernel)) (fun _ _ _ _ _ => (pg_name (i := 6) sc__law_alike_right.nd rfl (.inl rfl))) (fun _ _ _ _ _ => pts_nil) (fun _ _ _ _ _ => (pe_tup (pa_cons (pv 6) (pa_cons (pe_revS (pe_dget (hu_of hr) (pv 1) (pv 6) (fun _ _ => rfl))) pa_nil)))))) pa_nil)) pa_nil)))
      (pss_cons (ps_par (i := 4) (j := 5) (by rfl) sc__law_alike_right.nd rfl rfl (by decide) rfl rfl (pa_cons (pe_c D_merging hr (by decide) (by rfl) (pa_cons (pv 0) pa_nil)) (pa_cons (pe_c D_merging hr (by decide) (by rfl) (pa_cons (pv 3) pa_nil)) pa_nil)) (by rfl))
      (pss_cons (ps_if (PW.pt (pw_or (pt_cmpR op_ne (pe_callTy (call_or (call_boolO D_boolO hr (by decide)) (call_boolO D_boolR hr (by decide))) (by rfl) T.bool (by decide +kernel) (pa_cons (pv 4) pa_nil)) (pe_callTy (call_or (call_boolO D_boolO hr (by decide)) (call_boolO D_boolR hr (by decide))) (by rfl) T.bool (by decide +kernel) (pa_cons (pv 5) pa_nil)) (nomark _)) (pw_or1 (pt_cmpR op_ne (pe_callTy (call_or (call_boolO D_boolO hr (by decide)) (call_boolO D_boolR hr (by decide))) (by rfl) T.bool (by decide +kernel) (pa_cons (pv 4) pa_nil)) (pe_callTy (call_or (call_boolO D_boolO hr (by decide)) (call_boolO D_boolR hr (by decide))) (by rfl) T.bool (by decide +kernel) (pa_cons (pe_c D_merging hr (by decide) (by rfl) (pa_cons (pe_mk1 D_mk hr (by decide) (by rfl) (pa_cons (pe_c D_named hr (by decide) (by rfl) (pa_cons (pv 1) (pa_cons (pv 2) pa_nil))) pa_nil)) pa_nil)) pa_nil)) (nomark _)))))
        (pss_one (ps_ret pe_bl))
        pss_nil)
      (pss_cons (ps_if (pt_tru (tru_or (tru_own D_boolO hr (by decide)) (tru_own D_boolR hr (by decide))) (pv 4))
        (pss_one (ps_ret (pe_cmpR (op_eqDK (K := K) rfl hr.units) (pe_lc (own := [("_law_row", 7)]) (g := gName 7) (by rfl) sc__law_alike_right.nd (pi_tupK (K := K) rfl (pe_fldK (K := K) rfl (pv 4) rfl)) (blkOk_by (own := [("_law_row", 7)]) (N := n__law_alike_right) (sc := defScope s__law_alike_right) (by decide +kernel)) (fun _ _ _ _ _ => (pg_name (i := 7) sc__law_alike_right.nd rfl (.inl rfl))) (fun _ _ _ _ _ => pts_nil) (fun _ _ _ _ _ => (pe_ix (ix_tupK (K := K) rfl) (pv 7) pe_int (fun _ _ => rfl)))) (pe_callB cr_sortedS (by rfl) T.sorted (by decide +kernel) (pa_cons (pe_lock (pe_lc (own := [("_law_letter", 6)]) (g := gName 6) (by rfl) sc__law_alike_right.nd (pi_keys (pv 1)) (blkOk_by (own := [("_law_letter", 6)]) (N := n__law_alike_right) (sc := defScope s__law_alike_right) (by decide +kernel)) (fun _ _ _ _ _ => (pg_name (i := 6) sc__law_alike_right.nd rfl (.inl rfl))) (fun _ _ _ _ _ => pts_nil) (fun _ _ _ _ _ => (pe_callTy call_strS (by rfl) T.str (by decide +kernel) (pa_cons (pe_dget (hu_of hr) (pv 1) (pv 6) (fun _ _ => rfl)) pa_nil))))) pa_nil)) (nomark _))))
        pss_nil)
      (pss_cons (ps_if (pt_not (pt_val (pe_c D_shows_merging hr (by decide) (by rfl) (pa_cons (pv 3) (pa_cons (pe_mkC D_Merged hr (by decide) (by rfl) (pa_cons (pe_fldK (K := K) rfl (pv 5) rfl) (pa_cons (pe_fldK (K := K) rfl (pv 5) rfl) pa_nil))) pa_nil)))))
        (pss_one (ps_ret pe_bl))
        pss_nil)
      (pss_one (ps_ret (pe_c D_shows_merging hr (by decide) (by rfl) (pa_cons (pv 3) (pa_cons (pe_mkC D_Merged hr (by decide) (by rfl) (pa_cons (pe_revS (pe_fldK (K := K) rfl (pv 4) rfl)) (pa_cons (pe_revS (pe_fldK (K := K) rfl (pv 4) rfl)) pa_nil))) pa_nil)))))))))), ?_⟩
    have g2 := g.abc clt
    have gr := rev_good g2
    have ok := ok_good g2 (by omega)
    have okr := ok_good gr (by unfold revT; rw [List.length_map]; omega)
    have le : (encT t).length = t.length := encT_len t
    have c12 : ∀ c ∈ abc, isLt c := fun c hc => abc_mem.mp hc
    refine viaAsg (fun v H1 => ∃ y, v = .ref y ∧ MisAt CM H1 y (revT t) ∧ Same H H1) (fun R' r' => ?_) ?_
    · refine ⟨d, _, hd, True.intro, fun od => ⟨_, rfl, d, od, rfl, .inl ⟨_, upd_same, ?_⟩⟩⟩
      have nofr : ∀ b, b ≠ d → upd H d (.frz od (.dK (encT t))) b = H b := fun b e => upd_ne e
      have hfz : upd H d (.frz od (.dK (encT t))) d = some (.frz od (.dK (encT t))) := upd_same
      generalize upd H d (.frz od (.dK (encT t))) = HL at nofr hfz ⊢
      refine fun D nD => lc_it (walk_keys (d := d) (o := od) (kvs := encT t)) (fun i H2 => ∃ ps, PairsAt H2 ps ((revT t).take i) ∧ H2 D = some (.lst (ps.map V.ref)) ∧ Same HL H2) ?_ ?_ ?_ ?_
      · exact ⟨[], .nil, upd_same, same_put (s := Same.refl HL) nD⟩
      · rintro i H2 hi ⟨ps, _, _, s2⟩
        exact s2 _ _ hfz
      · rintro i z H20 H2 hi ⟨ps, pr, hD, s2⟩ ⟨rfl, k, v, hk, rfl⟩
        obtain ⟨hi', rfl, rfl⟩ := enc_at hk
        have ly := pr.len
        rw [List.length_take] at ly
        have l4 := (g.img _ (List.getElem_mem hi')).2.1
        refine ⟨rfl, _, rfl, _, rfl, _, rfl, d, V.str (Sx t[i].2), rfl, .inl ⟨_, Sum.inr (L1 t[i].1), .inr ⟨od, s2 _ _ hfz⟩, rfl, by rw [valV_enc, look_at g.nd hi']; rfl⟩, _, rfl, by rw [Sx_len, sizeLine_eq]; omega, by show 2 ≤ sizeLine; decide, fun p np => ?_⟩
        have hp : upd H2 p (.tup [kV (Sum.inr (L1 t[i].1)), .str (revS (Sx t[i].2))]) p = some (.tup [.str (L1 t[i].1), .str (Sx t[i].2.reverse)]) := upd_same
        have s4 := same_put (s := Same.refl H2) (o := .tup [kV (Sum.inr (L1 t[i].1)), .str (revS (Sx t[i].2))]) np
        show ∃ acc, upd H2 p (.tup [kV (Sum.inr (L1 t[i].1)), .str (revS (Sx t[i].2))]) D = _ ∧ _
        generalize upd H2 p (.tup [kV (Sum.inr (L1 t[i].1)), .str (revS (Sx t[i].2))]) = H4 at s4 hp ⊢
        have hD4 := s4 _ _ hD
        have ep : (revT t)[i]? = some (t[i].1, t[i].2.reverse) := by
          unfold revT
          rw [List.getElem?_map, List.getElem?_eq_getElem hi']
          rfl
        refine ⟨_, hD4, by rw [List.length_map, sizeLine_eq]; omega, ps ++ [p], ?_, ?_, ?_⟩
        · rw [List.take_add_one, ep]
          exact PairsAt.snoc ((pr.mono fun b xs e => s4 _ _ e).mono (tup_upd hD4)) ((upd_ne (ne_of hp hD4 (fun z => nomatch z))).trans hp)
        · rw [upd_same, List.map_append]
          rfl
        · intro b o e
          rw [upd_ne (ne_of_none e nD)]
          exact s4 _ _ (s2 _ _ e)
      · rintro H2 ⟨ps, pr, hD, s2⟩
        rw [le, List.take_of_length_le (by unfold revT; rw [List.length_map]; exact Nat.le_refl _)] at pr
        have hd2 : H2 d = some (.frz od (.dK (encT t))) := s2 _ _ hfz
        have dD : d ≠ D := ne_of_none hfz nD
        have sB : Same H (upd H2 d (.dK (encT t))) := fun b o e => by
          by_cases eb : b = d
          · rw [eb, upd_same, ← hd, ← eb, e]
          · rw [upd_ne eb]
            exact s2 _ _ (by rw [nofr b eb]; exact e)
        have hDB : upd H2 d (.dK (encT t)) D = some (.lst (ps.map V.ref)) := by rw [upd_ne (Ne.symm dD)]; exact hD
        have prB : PairsAt (upd H2 d (.dK (encT t))) ps (revT t) := pr.mono fun b xs e => by
          rw [upd_ne (fun z => by rw [z, hd2] at e; cases e)]
          exact e
        refine ⟨hd2, D, ps, encT (revT t), rfl, SqL.of hDB, PairsAt.sq prB, fun r nr => ?_⟩
        have em : mergeK [] (encT (revT t)) = encT (mergeT [] (revT t)) := mergeK_enc (revT t) []
        rw [em, mergeT_nil gr.nd]
        have sR := same_put (s := sB) (o := .dK (encT (revT t))) nr
        have hr3 : upd (upd H2 d (.dK (encT t))) r (.dK (encT (revT t))) r = some (.dK (encT (revT t))) := upd_same
        generalize upd (upd H2 d (.dK (encT t))) r (.dK (encT (revT t))) = H3 at sR hr3 ⊢
        refine ⟨r, abc, [], revT t, rfl, hr3, gr, ⟨by rw [toldT_nil gr.nd]; unfold revT; rw [List.length_map]; omega, by rw [abc_len]; omega⟩, c12, fun c h => (nomatch h), by decide, fun y H5 ny m5 s5 => r' _ _ ⟨y, rfl, ?_, fun b o e => s5 _ _ (sR _ _ e)⟩⟩
        have m' := m5.mis
        rw [toldT_nil gr.nd] at m'
        exact m'
    rintro v H1 ⟨y, rfl, my, s1⟩
    refine atName ?_
    dsimp only [List.set_cons_succ, List.set_cons_zero]
    have cd1 := cd.same s1
    refine ⟨_, rfl, x, t, rfl, m.same2 s1, ok, cd1.cn, cd1.sd, fun z H2 s2 nz vz => ?_⟩
    have cd2 := cd1.same s2
    refine ⟨_, rfl, y, revT t, rfl, my.same2 s2, okr, cd2.cn, cd2.sd, fun z' H3 s3 nz' vz' => ⟨_, _, rfl, ?_⟩⟩
    have cd3 := cd2.same s3
    have s03 : Same H H3 := fun b o e => s3 _ _ (s2 _ _ (s1 _ _ e))
    have vz3 := vz.same s3
    have my3 := (my.same2 s2).same2 s3
    have hd3 := s03 _ _ hd
    have hn3 := s03 _ _ hn
    clear cd2 cd1 vz my s3 s2 s1 m hd hn nz nz' cd
    dsimp only [List.set_cons_succ, List.set_cons_zero]
    have revI : OneF (lk (revT t)) ↔ OneF (lk t) := rev_one (lk_revT t)
    have nl := named_lk inj (fun c hc => (has c hc).2) clt g
    have gn := named_good inj (fun c hc => (has c hc).2) g
    have okn := ok_good gn (by unfold namedT; rw [List.length_map]; omega)
    have nI : OneF (lk (namedT t nm)) ↔ OneF (lk t) := nl.one
    have hasq : ∀ q ∈ t, HasNm nm q.1 ∧ ∀ c ∈ q.2, HasNm nm c := fun q hq => ⟨(has _ (g.key q hq)).1, fun c hc => (has c ((g.img q hq).2.2 c hc)).1⟩
    have i8 : ∀ q ∈ t, q.2.length ≤ 8 := fun q hq => Nat.le_trans (g.img q hq).2.1 (by decide)
    have ltq : ∀ q ∈ t, isLt q.1 ∧ ∀ c ∈ q.2, isLt c := fun q hq => ⟨clt _ (g.key q hq), fun c hc => clt c ((g.img q hq).2.2 c hc)⟩
    have tn := toldT_nil gn.nd
    have nln : (namedT t nm).length ≤ 5 := by unfold namedT; rw [List.length_map]; omega
    have b64 : Bnd 64 (lk (revT t)) := Bnd.le (good_bnd gr) (by decide)
    rcases vz3 with ⟨dx, lv, dv, rs, rs', ak, hz, tl, td, isl, isd, td1, td2, ldw, all⟩ | ⟨dx, u, hz, way, une, eU, ltu, l13⟩
    · have one := (one_iff ok.ne).mp ak
      rcases vz' with ⟨dx', _, _, _, _, _, hz', _⟩ | ⟨dx', u', _, way', une', _⟩
      rotate_left
      · exact absurd (revI.mpr one) (way_not okr.ne way' une')
      refine ⟨_, rfl, .inl ⟨z, dx, _, rfl, hz, z, rfl, true, rfl, _, rfl, .inl ⟨z', dx', _, rfl, hz', z', rfl, true, rfl, rfl, _, rfl, ?_⟩⟩⟩
      rw [decide_eq_true rfl]
      refine iteF ?_
      refine ⟨_, rfl, .inl ⟨z, dx, _, rfl, hz, z, rfl, true, rfl, _, rfl, _, rfl, d, n, t, nm, rfl, hd3, hn3, hasq, by omega, i8, g.nd, gn.nd, ltq, fun r H4 nr s4 hr4 => ?_⟩⟩
      refine ⟨r, abc, [], namedT t nm, rfl, hr4, gn, ⟨by rw [tn]; omega, by rw [abc_len]; omega⟩, c12, fun c h => (nomatch h), by decide, fun y5 H5 ny m5 s5 => ?_⟩
      have m' := m5.mis
      rw [tn] at m'
      have cd5 := (cd3.same s4).same s5
      refine ⟨y5, namedT t nm, rfl, m', okn, cd5.cn, cd5.sd, fun z6 H6 s6 nz6 vz6 => ?_⟩
      rcases vz6 with ⟨dx6, _, _, _, _, _, hz6, _⟩ | ⟨dx6, u6, _, way6, une6, _⟩
      rotate_left
      · exact absurd (nI.mpr one) (way_not okn.ne way6 une6)
      refine .inl ⟨z6, dx6, _, rfl, hz6, z6, rfl, true, rfl, rfl, _, rfl, ?_⟩
      rw [decide_eq_true rfl]
      refine iteF ?_
      have s36 : Same H3 H6 := fun b o e => s6 _ _ (s5 _ _ (s4 _ _ e))
      obtain ⟨el, qs, rfl, ldq, prq⟩ := leads_ldq ak (pairs_lbl t) isl ldw tl
      have ro := rows_of ak (pairs_lbl t) isl all prq
      have hz66 := s36 _ _ hz
      refine ⟨_, rfl, .inl ⟨z, dx, _, rfl, hz66, z, rfl, true, rfl, iteT ?_⟩⟩
      obtain ⟨vs, hel, prv⟩ := ldq
      have hel6 := s36 _ _ hel
      have lvq := prd_len prv
      have q5 : qs.length ≤ 5 := by
        have := (rows_perm g2 ro).length_eq
        rw [List.length_map, List.length_map, List.length_map] at this
        omega
      refine ⟨_, rfl, z, CO, dx, _, .ref el, rfl, hz66, T.clO, T.nO1, fO_l _ _, el, rfl, ⟨_, SqT.of hel6⟩, fun D nD => lc_it (walk_tup (K := K) (a := el) (xs := vs)) (fun i H7 => H7 = upd H6 D (.lst (sxV ((qs.take i).map (·.1))))) rfl ?_ ?_ ?_⟩
      · rintro i H7 hi rfl
        exact SqT.of (by rw [upd_ne (ne_of_none hel6 nD)]; exact hel6)
      · rintro i v H70 H7 hi rfl ⟨eH, hv⟩
        rw [eH]
        obtain ⟨qk, hq, cr, rfl, hcr⟩ := prd_at prv hv
        have hcr6 := s36 _ _ hcr
        refine ⟨rfl, _, rfl, cr, _, _, _, rfl, rfl, .inl (.inl (by rw [upd_ne (ne_of_none hcr6 nD)]; exact hcr6)), atI_nat (j := 1) rfl, _, upd_same, by rw [sxV_len, List.length_map, List.length_take, sizeLine_eq]; omega, ?_⟩
        rw [upd_upd, List.take_add_one, hq, List.map_append, sxV_app]
        rfl
      rintro H7 rfl
      rw [lvq, List.take_length]
      have hD7 : upd H6 D (.lst (sxV (qs.map (·.1)))) D = some (.lst (sxV (qs.map (·.1)))) := upd_same
      have s7 := same_put (s := s36) (o := .lst (sxV (qs.map (·.1)))) nD
      generalize upd H6 D (.lst (sxV (qs.map (·.1)))) = H7 at hD7 s7 ⊢
      have hd7 := s7 _ _ hd3
      refine ⟨d, _, hd7, True.intro, fun od => ⟨_, rfl, d, od, rfl, .inl ⟨_, upd_same, ?_⟩⟩⟩
      have nofr : ∀ b, b ≠ d → upd H7 d (.frz od (.dK (encT t))) b = H7 b := fun b e => upd_ne e
      have hfz : upd H7 d (.frz od (.dK (encT t))) d = some (.frz od (.dK (encT t))) := upd_same
      generalize upd H7 d (.frz od (.dK (encT t))) = HL at nofr hfz ⊢
      refine fun D2 nD2 => lc_it (walk_keys (d := d) (o := od) (kvs := encT t)) (fun i H8 => H8 = upd HL D2 (.lst (((t.take i).map fun q => Sx q.2).map V.str))) rfl ?_ ?_ ?_
      · rintro i H8 hi rfl
        rw [upd_ne (ne_of_none hfz nD2)]
        exact hfz
      · rintro i x8 H8 H9 hi rfl ⟨rfl, k, v, hk, rfl⟩
        obtain ⟨hi', rfl, rfl⟩ := enc_at hk
        refine ⟨rfl, _, rfl, _, rfl, d, V.str (Sx t[i].2), rfl, .inl ⟨_, Sum.inr (L1 t[i].1), .inr ⟨od, by rw [upd_ne (ne_of_none hfz nD2)]; exact hfz⟩, rfl, by rw [valV_enc, look_at g.nd hi']; rfl⟩, _, rfl, _, upd_same, by rw [List.length_map, List.length_map, List.length_take, sizeLine_eq]; omega, ?_⟩
        rw [upd_upd, List.take_add_one, List.getElem?_eq_getElem hi', List.map_append, List.map_append]
        rfl
      rintro H8 rfl
      rw [le, List.take_length]
      have dD : d ≠ D2 := ne_of_none hfz nD2
      refine ⟨by rw [upd_ne dD]; exact hfz, ?_⟩
      have s9 : Same H7 (upd (upd HL D2 (.lst ((t.map fun q => Sx q.2).map V.str))) d (.dK (encT t))) := fun b o e => by
        by_cases eb : b = d
        · rw [eb, upd_same, ← hd7, ← eb, e]
        · rw [upd_ne eb, upd_ne (fun z => by rw [z, ← nofr D2 (Ne.symm dD), nD2] at e; cases e), nofr b eb]
          exact e
      have hD9 : upd (upd HL D2 (.lst ((t.map fun q => Sx q.2).map V.str))) d (.dK (encT t)) D2 = some (.lst ((t.map fun q => Sx q.2).map V.str)) := by rw [upd_ne (Ne.symm dD), upd_same]
      generalize upd (upd HL D2 (.lst ((t.map fun q => Sx q.2).map V.str))) d (.dK (encT t)) = H9 at s9 hD9 ⊢
      refine ⟨D2, t.map fun q => Sx q.2, rfl, SqL.of hD9, by rw [List.length_map]; omega, fun ys b hy sy nb => ?_⟩
      have ey : ys = (qs.map (·.1)).map Sx := sorted_one sy (rows_sorted prq isl) (hy.trans (rows_perm g2 ro).symm)
      have s10 := same_put (s := s9) (o := .lst (ys.map V.str)) nb
      have hb10 : upd H9 b (.lst (ys.map V.str)) b = some (.lst (sxV (qs.map (·.1)))) := by rw [upd_same, ey]
      generalize upd H9 b (.lst (ys.map V.str)) = H10 at s10 hb10 ⊢
      have wlt : ∀ w ∈ qs.map (·.1), ∀ c ∈ w, isLt c := fun w hw c hc => by
        obtain ⟨p, hp, rfl⟩ := List.mem_map.mp hw
        exact (ok.pr p ((ro.mem p).mp hp)).2.2.1 c hc
      have sh : SeqAt.shaped (.list ((qs.map (·.1)).map fun w => PyData.str (Sx w))) = true := shaped_map (fun w => PyData.str (Sx w)) _ (fun w hw => ok_sx (wlt w hw)) fun _ => by simp [PyData.depth]
      have dpl : ∀ {H' : Hp} {a : Addr}, H' a = some (.lst (sxV (qs.map (·.1)))) → Dp K H' (.ref a) (.list ((qs.map (·.1)).map fun w => PyData.str (Sx w))) := fun {H' a} h => .lst (SqL.of h) (by
        have e : sxV (qs.map (·.1)) = (qs.map (·.1)).map fun w => V.str (Sx w) := by
          show ((qs.map (·.1)).map Sx).map V.str = _
          rw [List.map_map]
          rfl
        rw [e]
        exact dp_map (fun w => V.str (Sx w)) (fun w => PyData.str (Sx w)) (fun w => .str _) _)
      refine ⟨_, _, dpl (s10 _ _ hD7), dpl hb10, sh, sh, ?_⟩
      have lay : (PyData.list ((qs.map (·.1)).map fun w => PyData.str (Sx w))).canLay0 = true := by
        have h2 := sh
        unfold SeqAt.shaped at h2
        rw [Bool.and_eq_true] at h2
        exact h2.1
      rw [SeqAt.eqv_refl _ lay]
      exact q _ fun b o e => s10 _ _ (s7 _ _ (s03 _ _ e))
    · have none1 := way_not ok.ne way une
      rcases vz' with ⟨_, _, _, _, _, ak', _⟩ | ⟨dx', u', hz', way', une', _, ltu', l13'⟩
      · exact absurd (revI.mp ((one_iff okr.ne).mp ak')) none1
      refine ⟨_, rfl, .inr ⟨z, dx, _, rfl, hz, z, rfl, false, rfl, _, rfl, .inr ⟨z', dx', _, rfl, hz', z', rfl, false, rfl, rfl, _, rfl, ?_⟩⟩⟩
      rw [decide_eq_true rfl]
      refine iteF ?_
      refine ⟨_, rfl, .inr ⟨z, dx, _, rfl, hz, z, rfl, false, rfl, _, rfl, _, rfl, d, n, t, nm, rfl, hd3, hn3, hasq, by omega, i8, g.nd, gn.nd, ltq, fun r H4 nr s4 hr4 => ?_⟩⟩
      refine ⟨r, abc, [], namedT t nm, rfl, hr4, gn, ⟨by rw [tn]; omega, by rw [abc_len]; omega⟩, c12, fun c h => (nomatch h), by decide, fun y5 H5 ny m5 s5 => ?_⟩
      have m' := m5.mis
      rw [tn] at m'
      have cd5 := (cd3.same s4).same s5
      refine ⟨y5, namedT t nm, rfl, m', okn, cd5.cn, cd5.sd, fun z6 H6 s6 nz6 vz6 => ?_⟩
      rcases vz6 with ⟨_, _, _, _, _, ak6, _⟩ | ⟨dx6, u6, hz6, _⟩
      · exact absurd (nI.mp ((one_iff okn.ne).mp ak6)) none1
      refine .inr ⟨z6, dx6, _, rfl, hz6, z6, rfl, false, rfl, rfl, _, rfl, ?_⟩
      rw [decide_eq_true rfl]
      refine iteF ?_
      have s36 : Same H3 H6 := fun b o e => s6 _ _ (s5 _ _ (s4 _ _ e))
      have hz66 := s36 _ _ hz
      refine ⟨_, rfl, .inr ⟨z, dx, _, rfl, hz66, z, rfl, false, rfl, iteF ?_⟩⟩
      -- the paper of the images written backwards
      have hzp := s36 _ _ hz'
      obtain ⟨im, e1, e2⟩ := way_im way'
      have lu' : u'.1.length + u'.2.length ≤ 1300 := l13'
      have lu : u.1.length + u.2.length ≤ 1300 := l13
      have my6 := my3.same2 s36
      clear s4 s5 s6 hz6 cd5 m' m5
      refine ⟨_, rfl, _, rfl, z', CR, dx', _, _, rfl, hzp, T.clR, T.nR1, fR_o _ _, _, rfl, z', CR, dx', _, _, rfl, hzp, T.clR, T.nR2, fR_t _ _, fun k dk nk ndk nek => ?_⟩
      have sk := same_mk (C := CR) (o := .own k) nk ndk
      refine ⟨k, dk, .str (Sx u'.1), .str (Sx u'.2), _, _, rfl, upd_same, .inl (.inl ⟨_, rfl⟩), .str _, .inl (.inl ⟨_, rfl⟩), .str _, fun a' b' H7 k7 hk ta tb => ⟨rfl, ?_⟩⟩
      cases ta
      cases tb
      have s67 : Same H6 H7 := same_butx sk k7 nk
      refine ⟨y, k, dk, revT t, u'.1, u'.2, im, rfl, my6.same2 s67, okr, hk, ltu'.1, ltu'.2, by omega, by omega, une', b64, e1, e2, fun H8 s8 => ⟨true, rfl, iteF ?_⟩⟩
      have s68 : Same H6 H8 := fun b o e => s8 _ _ (s67 _ _ e)
      have hz8 := s68 _ _ hz66
      obtain ⟨im2, e3, e4⟩ := way_im way
      refine ⟨_, rfl, _, rfl, z, CR, dx, _, _, rfl, hz8, T.clR, T.nR1, fR_o _ _, _, rfl, by rw [Sx_len, sizeLine_eq]; omega, _, rfl, z, CR, dx, _, _, rfl, hz8, T.clR, T.nR2, fR_t _ _, _, rfl, by rw [Sx_len, sizeLine_eq]; omega, fun k2 dk2 nk2 ndk2 nek2 => ?_⟩
      have sk2 := same_mk (C := CR) (o := .own k2) nk2 ndk2
      refine ⟨k2, dk2, .str (Sx u.1.reverse), .str (Sx u.2.reverse), _, _, rfl, upd_same, .inl (.inl ⟨_, rfl⟩), .str _, .inl (.inl ⟨_, rfl⟩), .str _, fun a' b' H9 k9 hk2 ta tb => ⟨rfl, ?_⟩⟩
      cases ta
      cases tb
      have s89 : Same H8 H9 := same_butx sk2 k9 nk2
      refine ⟨y, k2, dk2, revT t, u.1.reverse, u.2.reverse, im2.reverse, rfl, (my6.same2 s68).same2 s89, okr, hk2, fun c hc => ltu.1 c (List.mem_reverse.mp hc), fun c hc => ltu.2 c (List.mem_reverse.mp hc), by rw [List.length_reverse]; omega, by rw [List.length_reverse]; omega, fun e => une (List.reverse_inj.mp e), b64, rev_twins (lk_revT t) e3, rev_twins (lk_revT t) e4, fun H10 s10 => ?_⟩
      exact q _ fun b o e => s10 _ _ (s89 _ _ (s68 _ _ (s36 _ _ (s03 _ _ e))))
end
end V8
set_option Elab.async false
set_option linter.all false
set_option maxRecDepth 100000
set_option maxHeartbeats 16000000
set_option pp.maxSteps 900
/-! One to one along rows of two. -/
namespace V8
open PySem PySem.Spec PyProof.Rows L2 MZ
abbrev s__law_rows_right : Stmt := topS 90
abbrev n__law_rows_right : List Str := ["_law_one", "_law_two", "_law_whole", "_law_left", "_law_found", "_law_first", "_law_letter"]
theorem sc__law_rows_right : FnScope ["_law_one", "_law_two", "_law_whole", "_law_left", "_law_found", "_law_first", "_law_letter"] ["_law_one", "_law_two"] (defScope s__law_rows_right) := ⟨rfl, rfl, rfl, by decide +kernel, rfl, by decide +kernel, by decide +kernel⟩
theorem imF_ne {f : Fu} (h : ∀ c s, f c = some s → s ≠ []) : ∀ {w s : List Nat}, w ≠ [] → imF f w = some s → s ≠ []
  | [], _, n, _ => absurd rfl n
  | c :: w, s, _, e => by
    have h' : (f c).bind (fun a => (imF f w).map (a ++ ·)) = some s := e
    cases e1 : f c with
    | none =>
      rw [e1] at h'
      cases h'
    | some z =>
      cases e2 : imF f w with
      | none =>
        rw [e1, e2] at h'
        cases h'
      | some x =>
        rw [e1, e2] at h'
        have h3 : z ++ x = s := Option.some.inj h'
        rw [← h3]
        exact fun q => h c z e1 (List.append_eq_nil_iff.mp q).1
theorem good_ne {cs : List Nat} {t : Tab} (g : GoodT cs t) : ∀ c s, lk t c = some s → s ≠ [] := fun c s h z => by
  have i := (g.img _ (look_in (lk_some h).2)).1
  rw [show (c, s).2 = s from rfl, z] at i
  exact absurd i (by decide)
/-- what tells that papers can be made of a table -/
theorem ok_of {v : Tab} {f : Fu} (e : lk v = f) (ne : ∀ c s, f c = some s → s ≠ []) (sm : ∀ c s, f c = some s → s.length ≤ 8) (lt : ∀ c s, f c = some s → ∀ d ∈ s, isLt d) (few : (keysOf v).length ≤ 8) : OkU v := by
  refine ⟨few, fun c hc => ?_⟩
  obtain ⟨s, es⟩ := Option.isSome_iff_exists.mp (lk_mem.mp hc)
  have el := (lk_some es).2
  rw [e] at es
  exact ⟨s, el, ne c s es, sm c s es, lt c s es⟩
theorem keys_few {v t : Tab} {f : Fu} (e : lk v = f) (h : ∀ c s, f c = some s → (lk t c).isSome = true) : (keysOf v).length ≤ (keysOf t).length := nd_le (keysOf_nd v) fun c hc => by
  obtain ⟨s, es⟩ := Option.isSome_iff_exists.mp (lk_mem.mp hc)
  rw [e] at es
  exact lk_mem.mpr (h c s es)
theorem keys_five {t : Tab} : (keysOf t).length ≤ t.length := by
  have : (keysOf t).length ≤ (t.map (·.1)).length := nd_le (keysOf_nd t) fun c hc => by
    obtain ⟨s, e⟩ := Option.isSome_iff_exists.mp (keysOf_mem.mp hc).2
    exact List.mem_map.mpr ⟨_, look_in e, rfl⟩
  rw [List.length_map] at this
  exact this
theorem cF_some {f g : Fu} {c : Nat} {s : List Nat} (h : cF f g c = some s) : (f c).isSome = true := by
  unfold cF at h
  cases e : f c with
  | some _ => rfl
  | none =>
    rw [e] at h
    cases h
theorem cF_ne {f g : Fu} (hf : ∀ c s, f c = some s → s ≠ []) (hg : ∀ c s, g c = some s → s ≠ []) : ∀ c s, cF f g c = some s → s ≠ [] := fun c s h => by
  obtain ⟨m, em, e3⟩ := Option.bind_eq_some_iff.mp (show (f c).bind (imF g) = some s from h)
  exact imF_ne hg (hf c m em) e3
theorem oF_some {f : Fu} {ws : List Nat} {c : Nat} {s : List Nat} (h : oF f ws c = some s) : f c = some s := oF_le f ws c s h
theorem lets_sx (cs : List Nat) : lets cs = ((cs.map fun c => [c]).map Sx).map V.str := by
  unfold lets
  rw [List.map_map, List.map_map]
  rfl
theorem flat_one (cs : List Nat) : (cs.map fun c => [c]).flatten = cs := by
  induction cs with
  | nil => rfl
  | cons c r ih =>
    rw [List.map_cons, List.flatten_cons, ih]
    rfl
def spRowsR (K : PySem.W.Frag) (aS aE aV aD CM : Addr) : Sp := fun vs H Q _ => ∃ (x y : Addr) (cs : List Nat) (u v : Tab), vs = [.ref x, .ref y] ∧ MisAt CM H x u ∧ MisAt CM H y v ∧ GoodT cs u ∧ GoodT cs v ∧ u.length ≤ 5 ∧ v.length ≤ 5 ∧ cs.length ≤ 5 ∧ (∀ c ∈ cs, isLt c) ∧ CnD K aS aE aV aD H ∧ ∀ H', Same H H' → Q (.bl true) H'
section
variable {P : Program} {w : World} {K : PySem.W.Frag} {mg : Str → Option Value} {base : Heap} {aS aE aV aD CM CJ CO CR : Addr}
theorem ok_rowsR {f : Addr} {fd : FuncData} (F : Fun K "_law_rows_right" "_law_rows_right" s__law_rows_right f fd) (T : Tz K mg CM CJ) (T2 : Ts K mg CM CJ CO CR) (D_rshift : Bo P w K mg base 7 CM "__rshift__" (spRsh CM)) (D_only : Mf P w K mg base 7 CM "only" (spOnly CM)) (D_iter : ItM P w K mg base 1 CM (snIter CM)) (D_get : Mf P w K mg base 2 CM "__getitem__" (spGet CM))
    (D_merging : Df P w K mg base 7 "merging" (spMerging K aS aE aV aD CM CO CR)) (D_shows_merging : Df P w K mg base 6 "shows_merging" (spShowsM CM CR)) (D_Merged : MkC P w K mg base 4 CR "Merged" (spMrgI CR)) (D_boolO : Mf P w K mg base 1 CO "__bool__" (spTrue true)) (D_boolR : Mf P w K mg base 1 CR "__bool__" (spTrue false)) :
    FnOk P w K mg base CX0 9 f fd ["_law_one", "_law_two"] (spRowsR K aS aE aV aD CM) := by
  refine F.ok sc__law_rows_right (fun vs H Q E h => ?_) (fun cdv A outer s H vs Q E hr h => ?_)
  · obtain ⟨x, y, cs, u, v, rfl, _⟩ := h
    rfl
  · obtain ⟨x, y, cs, u, v, rfl, mx, my, gu, gv, lu, lv, l5, clt, cd, q⟩ := h
    refine ⟨_, (pss_cons (ps_set (i := 2) sc__law_rows_right.nd rfl (.inr rfl) (pe_op (op_bin D_rshift hr (by decide)) (pv 0) (pv 1)))
      (pss_cons (ps_set (i := 3) sc__law_rows_right.nd rfl (.inl rfl) (pe_mt T.cl D_only hr (by decide) (pv 0) (pa_cons (pe_joinK (K := K) rfl pe_str (pe_lc (own := [("_law_letter", 6)]) (g := gName 6) (by rfl) sc__law_rows_right.nd (pi_ownI D_iter hr (by decide) (pv 2)) (blkOk_by (own := [("_law_letter", 6)]) (N := n__law_rows_right) (sc := defScope s__law_rows_right) (by decide +kernel)) (fun _ _ _ _ _ => (pg_name (i := 6) sc__law_rows_right.nd rfl (.inl rfl))) (fun _ _ _ _ _ => pts_nil) (fun _ _ _ _ _ => (pv 6)))) pa_nil)))
      (pss_cons (ps_if (pt_cmpR (op_neDK (K := K) rfl hr.units) (pe_lc (own := [("_law_letter", 6)]) (g := gName 6) (by rfl) sc__law_rows_right.nd (pi_ownI D_iter hr (by decide) (pv 2)) (blkOk_by (own := [("_law_letter", 6)]) (N := n__law_rows_right) (sc := defScope s__law_rows_right) (by decide +kernel)) (fun _ _ _ _ _ => (pg_name (i := 6) sc__law_rows_right.nd rfl (.inl rfl))) (fun _ _ _ _ _ => (pts_one (pt_cmpR op_gt (pe_callB call_len_str (by rfl) T.len (by decide +kernel) (pa_cons (pe_ixO D_get hr (by decide) (pv 2) (pv 6)) pa_nil)) pe_int (nomark _)))) (fun _ _ _ _ _ => (pv 6))) (pe_lst pa_nil) (nomark _))
        (pss_one (ps_ret pe_bl))
        pss_nil)
      (pss_cons (ps_set (i := 4) sc__law_rows_right.nd rfl (.inl rfl) (pe_c D_merging hr (by decide) (by rfl) (pa_cons (pv 2) pa_nil)))
      (pss_cons (ps_if (PW.pt (pw_and (pt_tru (tru_or (tru_own D_boolO hr (by decide)) (tru_own D_boolR hr (by decide))) (pe_c D_merging hr (by decide) (by rfl) (pa_cons (pv 3) pa_nil))) (pw_and (pt_tru (tru_or (tru_own D_boolO hr (by decide)) (tru_own D_boolR hr (by decide))) (pe_c D_merging hr (by decide) (by rfl) (pa_cons (pv 1) pa_nil))) (pw_and1 (pt_not (pt_tru (tru_or (tru_own D_boolO hr (by decide)) (tru_own D_boolR hr (by decide))) (pv 4)))))))
        (pss_one (ps_ret pe_bl))
        pss_nil)
      (pss_cons (ps_if (pt_not (pt_tru (tru_or (tru_own D_boolO hr (by decide)) (tru_own D_boolR hr (by decide))) (pe_c D_merging hr (by decide) (by rfl) (pa_cons (pv 3) pa_nil))))
        (pss_cons (ps_set (i := 5) sc__law_rows_right.nd rfl (.inl rfl) (pe_c D_merging hr (by decide) (by rfl) (pa_cons (pv 3) pa_nil)))
        (pss_one (ps_ret (pe_and (pe_notR (tru_or (tru_own D_boolO hr (by decide)) (tru_own D_boolR hr (by decide))) (pv 4)) (pe_one (pe_c D_shows_merging hr (by decide) (by rfl) (pa_cons (pv 2) (pa_cons (pe_mkC D_Merged hr (by decide) (by rfl) (pa_cons (pe_fldK (K := K) rfl (pv 5) rfl) (pa_cons (pe_fldK (K := K) rfl (pv 5) rfl) pa_nil))) pa_nil))))))))
        pss_nil)
      (pss_one (ps_ret pe_bl)))))))), ?_⟩
    obtain ⟨dx, fa, fb, fc, hx, _⟩ := id mx.at_
    obtain ⟨dy, fy, hy⟩ := my.ins
    have b64u : Bnd 64 (lk u) := Bnd.le (good_bnd gu) (by decide)
    have b64v : Bnd 64 (lk v) := Bnd.le (good_bnd gv) (by decide)
    have b16 : Bnd 16 (cF (lk u) (lk v)) := Bnd.comp (good_bnd gu) (good_bnd gv)
    have ou := good_over gu
    have ov := good_over gv
    have oku := ok_good (gu.abc clt) (by omega)
    have okv := ok_good (gv.abc clt) (by omega)
    refine ⟨_, rfl, _, rfl, x, dx, _, y, dy, fy, rfl, hx, rfl, hy, x, y, u, v, cs, rfl, mx, my, b64u, b64v, Bnd.le b16 (by decide), ou, by omega, fun z H1 wv nz mz elk s1 => ?_⟩
    refine atName ?_
    dsimp only [List.set_cons_succ, List.set_cons_zero]
    have cd1 := cd.same s1
    have mx1 := mx.same2 s1
    have my1 := my.same2 s1
    have hx1 := s1 _ _ hx
    clear mx my hx hy cd nz
    obtain ⟨dz, fz, hz⟩ := mz.ins
    have lkw := lets_len (keysOf wv)
    have kw26 := keysOf_len wv
    have kwl := keysOf_sub wv
    have lcF : ∀ c s, cF (lk u) (lk v) c = some s → ∀ d ∈ s, isLt d := fun c s h d hd => clt d (by
      obtain ⟨m, em, e3⟩ := Option.bind_eq_some_iff.mp (show (lk u c).bind (imF (lk v)) = some s from h)
      exact imF_over ov e3 d hd)
    have neF : ∀ c s, cF (lk u) (lk v) c = some s → s ≠ [] := cF_ne (good_ne gu) (good_ne gv)
    have wsI : ∀ c, c ∈ keysOf wv ↔ (cF (lk u) (lk v) c).isSome = true := fun c => by rw [lk_mem, elk]
    have fewW : (keysOf wv).length ≤ 8 := by
      have h1 := keys_few (t := u) elk fun c s h => cF_some h
      have h2 := keys_five (t := u)
      omega
    -- what is left of the first one
    refine ⟨_, rfl, x, dx, _, rfl, hx1, f3_no (by decide +kernel) (by decide +kernel) (by decide +kernel), ⟨_, rfl⟩, _, rfl, z, dz, _, rfl, hz, fun k0 hk0 => ⟨z, wv, rfl, mz, fun it ia ni hi2 ha => ⟨it, ia, rfl, hi2, upd_same, ?_⟩⟩⟩
    rw [dropH_upd ni]
    refine fun D nD => lc_it (walk_tup (K := K) (a := ia) (xs := lets (keysOf wv))) (fun i H2 => H2 = upd H1 D (.lst (lets ((keysOf wv).take i)))) rfl ?_ ?_ ?_
    · rintro i H2 hi rfl
      exact .inl (.inl (by rw [upd_ne (ne_of_none ha nD)]; exact ha))
    · rintro i k H20 H2 hi rfl ⟨eH, hk⟩
      rw [eH]
      obtain ⟨hi', rfl⟩ := lets_get hk
      refine ⟨rfl, _, rfl, _, upd_same, by rw [lets_len, List.length_take, sizeLine_eq]; omega, ?_⟩
      rw [upd_upd, List.take_add_one, List.getElem?_eq_getElem hi', show (some (keysOf wv)[i]).toList = [(keysOf wv)[i]] from rfl, lets_snoc]
    rintro H2 rfl
    rw [List.take_of_length_le (by rw [lkw]; exact Nat.le_refl _)]
    have s2 := same_put (s := Same.refl H1) (o := .lst (lets (keysOf wv))) nD
    have hD2 : upd H1 D (.lst (lets (keysOf wv))) D = some (.lst (lets (keysOf wv))) := upd_same
    generalize upd H1 D (.lst (lets (keysOf wv))) = H2 at s2 hD2 ⊢
    rw [lets_sx] at hD2
    refine ⟨Str.empty, D, ((keysOf wv).map fun c => [c]).map Sx, rfl, rfl, .inl (SqL.of hD2), ?_, ?_⟩
    · have hb := sum_le (fun x : Str => x.length) 1 (((keysOf wv).map fun c => [c]).map Sx) fun y hy => by
        obtain ⟨s3, hs3, rfl⟩ := List.mem_map.mp hy
        obtain ⟨c, hc, rfl⟩ := List.mem_map.mp hs3
        exact Nat.le_refl _
      rw [List.length_map, List.length_map] at hb ⊢
      show _ + _ * 0 ≤ _
      omega
    rw [join_Sx, flat_one]
    refine ⟨x, u, cs, keysOf wv, rfl, mx1.same s2, kwl, by omega, ou, by omega, fun l H3 lv' nl ml ell s3 => ?_⟩
    refine atName ?_
    dsimp only [List.set_cons_succ, List.set_cons_zero]
    have s13 : Same H1 H3 := fun b o e => s3 _ _ (s2 _ _ e)
    have cd3 := cd1.same s13
    have my3 := my1.same2 s13
    have mz3 := mz.same2 s13
    have hz3 := s13 _ _ hz
    have s03 : Same H H3 := fun b o e => s13 _ _ (s1 _ _ e)
    clear hk0 ni hi2 ha nD hD2 s2 s3 s13 s1 mz hz mx1 my1 hx1 cd1 nl
    -- whether an image is long
    refine ⟨_, rfl, z, dz, _, rfl, hz3, fun k0 hk0 => ⟨z, wv, rfl, mz3, fun it ia ni hi2 ha => ⟨it, ia, rfl, hi2, upd_same, ?_⟩⟩⟩
    rw [dropH_upd ni]
    refine fun D nD => lc_it (walk_tup (K := K) (a := ia) (xs := lets (keysOf wv))) (fun i H2 => H2 = upd H3 D (.lst (lets (((keysOf wv).take i).filter fun c => decide (8 < ((lookT wv c).getD []).length))))) rfl ?_ ?_ ?_
    · rintro i H2 hi rfl
      exact .inl (.inl (by rw [upd_ne (ne_of_none ha nD)]; exact ha))
    · rintro i k H20 H2 hi rfl ⟨eH, hk⟩
      rw [eH]
      obtain ⟨hi', rfl⟩ := lets_get hk
      have hc := List.getElem_mem hi'
      obtain ⟨s', es⟩ := Option.isSome_iff_exists.mp (keysOf_mem.mp hc).2
      have s10 := same_put (s := Same.refl H3) (o := .lst (lets (((keysOf wv).take i).filter fun c => decide (8 < ((lookT wv c).getD []).length)))) nD
      have m10 := mz3.same2 s10
      obtain ⟨dx1, fx1, h1⟩ := m10.ins
      have l16 : s'.length ≤ 16 := b16 _ s' (by rw [← elk, ← lk_look hc]; exact es)
      refine ⟨rfl, _, rfl, _, rfl, z, dx1, _, rfl, h1, z, wv, _, s', rfl, m10, hc, es, ?_⟩
      refine ⟨_, rfl, by rw [Sx_len, sizeLine_eq]; omega, _, _, rfl, rfl, _, rfl, ?_⟩
      have et : ((keysOf wv).take (i + 1)).filter (fun c => decide (8 < ((lookT wv c).getD []).length)) = ((keysOf wv).take i).filter (fun c => decide (8 < ((lookT wv c).getD []).length)) ++ if 8 < s'.length then [(keysOf wv)[i]] else [] := by
        rw [List.take_add_one, List.getElem?_eq_getElem hi', List.filter_append]
        congr 1
        show List.filter _ [(keysOf wv)[i]] = _
        rw [List.filter_cons, es]
        by_cases h : 8 < s'.length
        · rw [if_pos h, show (some s').getD [] = s' from rfl, if_pos (decide_eq_true h)]
          rfl
        · rw [if_neg h, show (some s').getD [] = s' from rfl, if_neg (by rw [decide_eq_false h]; decide)]
          rfl
      rw [et, Sx_len]
      by_cases h : 8 < s'.length
      · rw [decide_eq_true (show (8 : Int) < ((s'.length : Nat) : Int) by omega), if_pos h]
        refine iteT ⟨_, rfl, _, upd_same, ?_, ?_⟩
        · rw [lets_len, sizeLine_eq]
          exact Nat.lt_of_le_of_lt (List.length_filter_le _ _) (by rw [List.length_take]; omega)
        · rw [upd_upd, lets_snoc]
      · rw [decide_eq_false (show ¬ (8 : Int) < ((s'.length : Nat) : Int) by omega), if_neg h, List.append_nil]
        exact iteF rfl
    rintro H2 rfl
    rw [List.take_of_length_le (by rw [lkw]; exact Nat.le_refl _)]
    generalize eb : (keysOf wv).filter (fun c => decide (8 < ((lookT wv c).getD []).length)) = bad
    have s10 := same_put (s := Same.refl H3) (o := .lst (lets bad)) nD
    refine ⟨Nat.zero_le _, fun e ne => ?_⟩
    have nDe : D ≠ e := ne_of_none (show upd H3 D (.lst (lets bad)) D = _ from upd_same) ne
    refine ⟨.list (bad.map fun c => .str (L1 c)), .list [], .lst (SqL.of (xs := lets bad) (by rw [upd_ne nDe, upd_same])) (dp_map (fun c => V.str (L1 c)) (fun c => PyData.str (L1 c)) (fun c => .str _) bad), .lst (SqL.of upd_same) .nil, shaped_map (fun c => PyData.str (L1 c)) bad (fun c hc => ?_) (fun _ => by simp [PyData.depth]), by decide +kernel, _, rfl, ?_⟩
    · rw [← eb] at hc
      exact ok_sx fun d hd => by rw [List.mem_singleton.mp hd]; exact keysOf_sub wv c (List.mem_filter.mp hc).1
    rw [eqv_nil]
    have s4 := same_put (s := s10) (o := .lst []) ne
    generalize upd (upd H3 D (.lst (lets bad))) e (.lst []) = H4 at s4 ⊢
    by_cases hb : bad = []
    rotate_left
    · rw [decide_eq_false hb]
      exact iteT (q _ fun b o e => s4 _ _ (s03 _ _ e))
    rw [decide_eq_true hb]
    refine iteF ?_
    have sm8 : ∀ c s, cF (lk u) (lk v) c = some s → s.length ≤ 8 := fun c s h => by
      have hc : c ∈ keysOf wv := (wsI c).mpr (by rw [h]; rfl)
      have := List.filter_eq_nil_iff.mp (eb.trans hb) c hc
      have el : lookT wv c = some s := by
        rw [← elk] at h
        exact (lk_some h).2
      rw [el] at this
      have : ¬ 8 < s.length := fun z => this (decide_eq_true z)
      omega
    have okw : OkU wv := ok_of elk neF sm8 lcF fewW
    have okl : OkU lv' := ok_of ell (fun c s h => good_ne gu c s (oF_some h)) (fun c s h => Nat.le_trans (good_bnd gu c s (oF_some h)) (by decide)) (fun c s h d hd => clt d (ou.img c s (oF_some h) d hd)) (by
      have h1 := keys_few (t := u) ell fun c s h => by rw [oF_some h]; rfl
      have h2 := keys_five (t := u)
      omega)
    have s04 : Same H H4 := fun b o e => s4 _ _ (s03 _ _ e)
    have cd4 := cd3.same s4
    have my4 := my3.same2 s4
    have mz4 := mz3.same2 s4
    have ml4 := ml.same2 s4
    clear ni hi2 ha nD s10 ne nDe s4 s03 cd3 my3 mz3 hz3 ml
    refine ⟨_, rfl, z, wv, rfl, mz4, okw, cd4.cn, cd4.sd, fun k H5 s5 nk vk => ?_⟩
    refine atName ?_
    dsimp only [List.set_cons_succ, List.set_cons_zero]
    have cd5 := cd4.same s5
    have my5 := my4.same2 s5
    have mz5 := mz4.same2 s5
    have ml5 := ml4.same2 s5
    have s05 : Same H H5 := fun b o e => s5 _ _ (s04 _ _ e)
    clear s5 s04 cd4 my4 mz4 ml4 nk
    have LV : OneF (lk lv') → OneF (lk v) → OneF (lk wv) := fun a b => by
      rw [ell] at a
      rw [elk]
      exact a.row wsI b
    refine seq1 (fun σ' H' => σ' = [some (.ref x), some (.ref y), some (.ref z), some (.ref l), some (.ref k), none, none] ∧ Same H5 H') ?_ (fun R r => ?_)
    rotate_left
    · -- one to one behind one to one
      refine ⟨_, rfl, l, lv', rfl, ml5, okl, cd5.cn, cd5.sd, fun z1 H6 s6 nz1 vz1 => ?_⟩
      rcases vz1 with ⟨dx1, _, _, _, _, ak1, hz1, _⟩ | ⟨dx1, u1, hz1, way1, une1, _⟩
      rotate_left
      · exact .inr ⟨z1, dx1, _, rfl, hz1, z1, rfl, false, rfl, iteF (iteF (r _ _ ⟨rfl, s6⟩))⟩
      refine .inl ⟨z1, dx1, _, rfl, hz1, z1, rfl, true, rfl, iteT ?_⟩
      have cd6 := cd5.same s6
      refine ⟨_, rfl, y, v, rfl, my5.same2 s6, okv, cd6.cn, cd6.sd, fun z2 H7 s7 nz2 vz2 => ?_⟩
      have s57 : Same H5 H7 := fun b o e => s7 _ _ (s6 _ _ e)
      rcases vz2 with ⟨dx2, _, _, _, _, ak2, hz2, _⟩ | ⟨dx2, u2, hz2, way2, une2, _⟩
      rotate_left
      · exact .inr ⟨z2, dx2, _, rfl, hz2, z2, rfl, false, rfl, iteF (iteF (r _ _ ⟨rfl, s57⟩))⟩
      refine .inl ⟨z2, dx2, _, rfl, hz2, z2, rfl, true, rfl, iteT ?_⟩
      have vk7 := vk.same s57
      rcases vk7 with ⟨dx3, _, _, _, _, ak3, hz3, _⟩ | ⟨dx3, u3, hz3, way3, une3, _⟩
      · exact ⟨_, rfl, .inl ⟨k, dx3, _, rfl, hz3, k, rfl, true, rfl, iteF (r _ _ ⟨rfl, s57⟩)⟩⟩
      · exact absurd (LV ((one_iff okl.ne).mp ak1) ((one_iff okv.ne).mp ak2)) (way_not okw.ne way3 une3)
    · rintro σ' H6 ⟨rfl, s6⟩
      have cd6 := cd5.same s6
      have ml6 := ml5.same2 s6
      refine ⟨_, rfl, l, lv', rfl, ml6, okl, cd6.cn, cd6.sd, fun z1 H7 s7 nz1 vz1 => ?_⟩
      have s57 : Same H5 H7 := fun b o e => s7 _ _ (s6 _ _ e)
      rcases vz1 with ⟨dx1, _, _, _, _, ak1, hz1, _⟩ | ⟨dx1, u1, hz1, way1, une1, _⟩
      · exact .inl ⟨z1, dx1, _, rfl, hz1, z1, rfl, true, rfl, iteF (q _ fun b o e => s57 _ _ (s05 _ _ e))⟩
      refine .inr ⟨z1, dx1, _, rfl, hz1, z1, rfl, false, rfl, iteT ?_⟩
      have cd7 := cd6.same s7
      refine ⟨_, rfl, l, lv', rfl, ml6.same2 s7, okl, cd7.cn, cd7.sd, fun z2 H8 s8 nz2 vz2 => ?_⟩
      refine atName ?_
      dsimp only [List.set_cons_succ, List.set_cons_zero]
      have s58 : Same H5 H8 := fun b o e => s8 _ _ (s57 _ _ e)
      rcases vz2 with ⟨_, _, _, _, _, ak2, _⟩ | ⟨dx2, u2, hz2, way2, une2, _, ltu2, l132⟩
      · exact absurd ((one_iff okl.ne).mp ak2) (way_not okl.ne way1 une1)
      obtain ⟨im, e1, e2⟩ := way_im way2
      rw [ell] at e1 e2
      obtain ⟨r, e3, e4⟩ := row_twins wsI e1 e2
      have vk8 := vk.same s58
      rcases vk8 with ⟨_, _, _, _, _, ak3, _⟩ | ⟨dx3, u3, hz3, way3, une3, _⟩
      · have o3 := (one_iff okw.ne).mp ak3
        rw [elk] at o3
        exact absurd (o3 _ _ _ e3 e4) une2
      refine ⟨_, rfl, .inr ⟨k, dx3, _, rfl, hz3, k, rfl, false, rfl, true, rfl, iteT ?_⟩⟩
      have lu2 : u2.1.length + u2.2.length ≤ 1300 := l132
      refine ⟨_, rfl, _, rfl, z2, CR, dx2, _, _, rfl, hz2, T2.clR, T2.nR1, fR_o _ _, _, rfl, z2, CR, dx2, _, _, rfl, hz2, T2.clR, T2.nR2, fR_t _ _, fun j dj nj ndj nej => ?_⟩
      have sj := same_mk (C := CR) (o := .own j) nj ndj
      refine ⟨j, dj, .str (Sx u2.1), .str (Sx u2.2), _, _, rfl, upd_same, .inl (.inl ⟨_, rfl⟩), .str _, .inl (.inl ⟨_, rfl⟩), .str _, fun a' b' H9 k9 hj ta tb => ⟨rfl, ?_⟩⟩
      cases ta
      cases tb
      have s89 : Same H8 H9 := same_butx sj k9 nj
      refine ⟨z, j, dj, wv, u2.1, u2.2, r, rfl, (mz5.same2 s58).same2 s89, okw, hj, ltu2.1, ltu2.2, by omega, by omega, une2, by rw [elk]; exact Bnd.le b16 (by decide), by rw [elk]; exact e3, by rw [elk]; exact e4, fun H10 s10 => ?_⟩
      exact q _ fun b o e => s10 _ _ (s89 _ _ (s58 _ _ (s05 _ _ e)))
end
end V8
set_option Elab.async false
set_option linter.all false
set_option maxRecDepth 100000
set_option maxHeartbeats 16000000
set_option pp.maxSteps 900
/-! The law. -/
namespace V8
open PySem PySem.Spec PyProof.Rows L2 MZ
abbrev s_law : Stmt := topS 91
theorem sc_law : FnScope ["_law_script", "_law_pen_here", "_law_turn", "_law_some", "_law_table_here", "_law_one", "_law_two", "_law_others", "_law_names", "_law_letter", "_law_other", "_law_less", "_law_still"] ["_law_script"] (defScope s_law) := ⟨rfl, rfl, rfl, by decide +kernel, rfl, by decide +kernel, by decide +kernel⟩
theorem lk_still {cs : List Nat} (nd : cs.Nodup) (hl : ∀ c ∈ cs, isLt c) : lk (toldT cs []) = idF cs := by
  have n1 : ((cs.map fun c => (c, [c])).map (·.1)).Nodup := by
    rw [List.map_map]
    show (cs.map id).Nodup
    rw [List.map_id]
    exact nd
  have e : toldT cs [] = cs.map fun c => (c, [c]) := by
    show mergeT (mergeT [] (keepT cs)) [] = _
    show mergeT [] (mergeT [] _) = _
    rw [mergeT_nil n1, mergeT_nil n1]
  funext c
  rw [e]
  show (if c ∈ abc then lookT (cs.map fun c => (c, [c])) c else none) = if c ∈ cs then some [c] else none
  by_cases m : c ∈ cs
  · rw [if_pos m, if_pos (abc_mem.mpr (hl c m))]
    exact look_mem n1 (List.mem_map.mpr ⟨c, m, rfl⟩)
  · rw [if_neg m]
    have h : lookT (cs.map fun c => (c, [c])) c = none := by
      cases z : lookT (cs.map fun c => (c, [c])) c with
      | none => rfl
      | some s =>
        obtain ⟨d, hd, ed⟩ := List.mem_map.mp (look_in z)
        cases ed
        exact absurd hd m
    rw [h]
    by_cases ha : c ∈ abc
    · rw [if_pos ha]
    · rw [if_neg ha]
/-- the names told, so many -/
def nmT (cs ds : List Nat) : Tab := (cs.zip ds).map fun q => (q.1, [q.2])
theorem nmT_keys {cs ds : List Nat} (h : cs.length = ds.length) : (nmT cs ds).map (·.1) = cs := by
  unfold nmT
  rw [List.map_map]
  have : (cs.zip ds).map ((·.1) ∘ fun q => (q.1, [q.2])) = (cs.zip ds).map Prod.fst := rfl
  rw [this, List.map_fst_zip (by omega)]
theorem nm_at {cs ds : List Nat} (h : cs.length = ds.length) (nc : cs.Nodup) {i : Nat} (hi : i < cs.length) : lookT (nmT cs ds) cs[i] = some [ds[i]'(by omega)] := by
  refine look_mem (by rw [nmT_keys h]; exact nc) (List.mem_map.mpr ⟨(cs[i], ds[i]'(by omega)), ?_, rfl⟩)
  exact List.mem_of_getElem? (i := i) (by rw [List.getElem?_zip_eq_some]; exact ⟨List.getElem?_eq_getElem hi, List.getElem?_eq_getElem (by omega)⟩)
theorem nm_has {cs ds : List Nat} (h : cs.length = ds.length) (nc : cs.Nodup) {i : Nat} (hi : i < cs.length) : nmF (nmT cs ds) cs[i] = ds[i]'(by omega) := by
  unfold nmF
  rw [nm_at h nc hi]
  rfl
theorem nm_all {cs ds : List Nat} (h : cs.length = ds.length) (nc : cs.Nodup) (nd : ds.Nodup) (ld : ∀ c ∈ ds, isLt c) : (∀ c ∈ cs, HasNm (nmT cs ds) c ∧ isLt (nmF (nmT cs ds) c)) ∧ ∀ a ∈ cs, ∀ b ∈ cs, nmF (nmT cs ds) a = nmF (nmT cs ds) b → a = b := by
  refine ⟨fun c hc => ?_, fun a ha b hb e => ?_⟩
  · obtain ⟨i, hi, rfl⟩ := List.getElem_of_mem hc
    refine ⟨?_, ?_⟩
    · unfold HasNm
      rw [nm_at h nc hi, nm_has h nc hi]
    · rw [nm_has h nc hi]
      exact ld _ (List.getElem_mem _)
  · obtain ⟨i, hi, rfl⟩ := List.getElem_of_mem ha
    obtain ⟨j, hj, rfl⟩ := List.getElem_of_mem hb
    rw [nm_has h nc hi, nm_has h nc hj] at e
    have pw := List.pairwise_iff_getElem.mp nd
    rcases Nat.lt_trichotomy i j with h1 | h1 | h1
    · exact absurd e (pw i j (by omega) (by omega) h1)
    · subst h1
      rfl
    · exact absurd e.symm (pw j i (by omega) (by omega) h1)
structure Tq2 (K : PySem.W.Frag) (mg : Str → Option Value) (CM CJ : Addr) : Prop extends Tz K mg CM CJ where
  zip : mg "zip" = none
theorem cut_tail (cs : List Nat) : cutV (lets cs) (some 1) none = lets (cs.drop 1) := by
  unfold cutV
  rw [lets_len]
  cases cs with
  | nil => rfl
  | cons c r =>
    have e1 : HT.sIx (c :: r).length 0 (some 1) = 1 := by
      show min 1 (r.length + 1) = 1
      omega
    rw [e1, HT.sIx_none]
    show ((lets r)).take (r.length + 1 - 1) = lets r
    exact List.take_of_length_le (by rw [lets_len]; omega)
theorem ones_len (cs : List Nat) : ((((cs.map fun c => [c]).map Sx).map fun x => x.length).sum) ≤ 1 * cs.length := by
  have hb := sum_le (fun x : Str => x.length) 1 ((cs.map fun c => [c]).map Sx) fun y hy => by
    obtain ⟨s3, hs3, rfl⟩ := List.mem_map.mp hy
    obtain ⟨c, hc, rfl⟩ := List.mem_map.mp hs3
    exact Nat.le_refl _
  rw [List.length_map, List.length_map] at hb
  exact hb
def spLaw (aS aE aV aD : Addr) (K : PySem.W.Frag) : Sp := fun vs H Q _ => ∃ (a : Addr) (ns : List Int), vs = [.ref a] ∧ SqL K H a (ns.map V.int) ∧ ns.length ≤ 63 ∧ CnD K aS aE aV aD H ∧ ∀ H', Q (.bl true) H'
section
variable {P : Program} {w : World} {K : PySem.W.Frag} {mg : Str → Option Value} {base : Heap} {aS aE aV aD CM CJ CO CR : Addr}
theorem ok_law {f : Addr} {fd : FuncData} (F : Fun K "law" "law" s_law f fd) (T : Tq2 K mg CM CJ) (T2 : Ts K mg CM CJ CO CR) (D_pen : Df P w K mg base 1 "_law_pen" (spPen K)) (D_draw : Df P w K mg base 1 "_law_draw" spDraw) (D_some_letters : Df P w K mg base 2 "_law_some_letters" spLetters)
    (D_table : Df P w K mg base 4 "_law_table" (spTab 260)) (D_mk : Mkr P w K mg base CM) (D_alike_right : Df P w K mg base 9 "_law_alike_right" (spAlikeR K aS aE aV aD CM)) (D_rows_right : Df P w K mg base 9 "_law_rows_right" (spRowsR K aS aE aV aD CM)) (D_merging : Df P w K mg base 7 "merging" (spMerging K aS aE aV aD CM CO CR))
    (D_only : Mf P w K mg base 7 CM "only" (spOnly CM)) (D_or : Bo P w K mg base 7 CM "__or__" (spOr CM)) (D_rshift : Bo P w K mg base 7 CM "__rshift__" (spRsh CM)) (D_same : Sms P w K mg base CM)
    (D_boolO : Mf P w K mg base 1 CO "__bool__" (spTrue true)) (D_boolR : Mf P w K mg base 1 CR "__bool__" (spTrue false)) : FnOk P w K mg base CX0 11 f fd ["_law_script"] (spLaw aS aE aV aD K) := by
  refine F.ok sc_law (fun vs H Q E h => ?_) (fun cdv A outer s H vs Q E hr h => ?_)
  · obtain ⟨a, ns, rfl, _⟩ := h
    rfl
  · obtain ⟨a, ns, rfl, hS, hn0, cd0, q0⟩ := h
    refine ⟨_, (pss_cons (ps_set (i := 1) sc_law.nd rfl (.inl rfl) (pe_c D_pen hr (by decide) (by rfl) (pa_cons (pv 0) pa_nil)))
      (pss_cons (ps_for PassesOwn.never rfl (pi_range1 (by rfl) T.range (pa_cons pe_int pa_nil)) (pg_name (i := 2) sc_law.nd rfl (.inl rfl))
        (pss_cons (ps_set (i := 3) sc_law.nd rfl (.inl rfl) (pe_c D_some_letters hr (by decide) (by rfl) (pa_cons (pv 1) (pa_cons (pe_op op_add pe_int (pe_c D_draw hr (by decide) (by rfl) (pa_cons (pv 1) (pa_cons pe_int pa_nil)))) pa_nil))))
        (pss_cons (ps_set (i := 4) sc_law.nd rfl (.inl rfl) (pe_c D_table hr (by decide) (by rfl) (pa_cons (pv 1) (pa_cons (pv 3) pa_nil))))
        (pss_cons (ps_par (i := 5) (j := 6) (by rfl) sc_law.nd rfl rfl (by decide) rfl rfl (pa_cons (pe_mk1 D_mk hr (by decide) (by rfl) (pa_cons (pv 4) pa_nil)) (pa_cons (pe_mk1 D_mk hr (by decide) (by rfl) (pa_cons (pe_c D_table hr (by decide) (by rfl) (pa_cons (pv 1) (pa_cons (pv 3) pa_nil))) pa_nil)) pa_nil)) (by rfl))
        (pss_cons (ps_par (i := 7) (j := 8) (by rfl) sc_law.nd rfl rfl (by decide) rfl rfl (pa_cons (pe_c D_some_letters hr (by decide) (by rfl) (pa_cons (pv 1) (pa_cons (pe_callB (call_len_seqK (K := K) rfl) (by rfl) T.len (by decide +kernel) (pa_cons (pv 3) pa_nil)) pa_nil))) (pa_cons pe_dnewK pa_nil)) (by rfl))
        (pss_cons (ps_for PassesOwn.never rfl (pi_zip (by rfl) T.zip (pa_cons (pv 3) (pa_cons (pv 7) pa_nil))) (pg_tup (by rfl) (pgs_cons (pg_name (i := 9) sc_law.nd rfl (.inl rfl)) (pgs_cons (pg_name (i := 10) sc_law.nd rfl (.inl rfl)) pgs_nil)))
          (pss_one (ps_dput (hu_of hr) (pv 8) (pv 9) (pv 10) rfl)))
        (pss_cons (ps_if (PW.pt (pw_or (pt_not (pt_val (pe_c D_alike_right hr (by decide) (by rfl) (pa_cons (pv 5) (pa_cons (pv 4) (pa_cons (pv 8) pa_nil)))))) (pw_or (pt_not (pt_val (pe_c D_rows_right hr (by decide) (by rfl) (pa_cons (pv 5) (pa_cons (pv 6) pa_nil))))) (pw_or1 (pt_not (pt_val (pe_c D_rows_right hr (by decide) (by rfl) (pa_cons (pv 5) (pa_cons (pv 5) pa_nil)))))))))
          (pss_one (ps_ret pe_bl))
          pss_nil)
        (pss_cons (ps_set (i := 11) sc_law.nd rfl (.inl rfl) (pe_mt T.cl D_only hr (by decide) (pv 5) (pa_cons (pe_joinK (K := K) rfl pe_str (pe_slice (sl_listK (K := K) rfl) (pv 3) (po_some pe_int) po_none)) pa_nil)))
        (pss_cons (ps_if (PW.pt (pw_or (PW.pt (pw_and (pt_tru (tru_or (tru_own D_boolO hr (by decide)) (tru_own D_boolR hr (by decide))) (pe_c D_merging hr (by decide) (by rfl) (pa_cons (pv 5) pa_nil))) (pw_and1 (pt_not (pt_tru (tru_or (tru_own D_boolO hr (by decide)) (tru_own D_boolR hr (by decide))) (pe_c D_merging hr (by decide) (by rfl) (pa_cons (pv 11) pa_nil))))))) (pw_or1 (PW.pt (pw_and (pt_not (pt_tru (tru_or (tru_own D_boolO hr (by decide)) (tru_own D_boolR hr (by decide))) (pe_c D_merging hr (by decide) (by rfl) (pa_cons (pv 11) pa_nil)))) (pw_and1 (pt_tru (tru_or (tru_own D_boolO hr (by decide)) (tru_own D_boolR hr (by decide))) (pe_c D_merging hr (by decide) (by rfl) (pa_cons (pe_op (op_bin D_or hr (by decide)) (pv 5) (pv 11)) pa_nil)))))))))
          (pss_one (ps_ret pe_bl))
          pss_nil)
        (pss_cons (ps_set (i := 12) sc_law.nd rfl (.inl rfl) (pe_sm D_same hr (by decide) (pe_gv T.gMisreading (by rfl)) (pa_cons (pe_joinK (K := K) rfl pe_str (pv 3)) pa_nil)))
        (pss_one (ps_if (PW.pt (pw_or (pt_not (pt_tru (tru_or (tru_own D_boolO hr (by decide)) (tru_own D_boolR hr (by decide))) (pe_c D_merging hr (by decide) (by rfl) (pa_cons (pv 12) pa_nil)))) (pw_or1 (pt_cmpR op_ne (pe_callTy (call_or (call_boolO D_boolO hr (by decide)) (call_boolO D_boolR hr (by decide))) (by rfl) T.bool (by decide +kernel) (pa_cons (pe_c D_merging hr (by decide) (by rfl) (pa_cons (pe_op (op_bin D_rshift hr (by decide)) (pv 5) (pv 12)) pa_nil)) pa_nil)) (pe_callTy (call_or (call_boolO D_boolO hr (by decide)) (call_boolO D_boolR hr (by decide))) (by rfl) T.bool (by decide +kernel) (pa_cons (pe_c D_merging hr (by decide) (by rfl) (pa_cons (pv 5) pa_nil)) pa_nil)) (nomark _)))))
          (pss_one (ps_ret pe_bl))
          pss_nil))))))))))))
      (pss_one (ps_ret pe_bl)))), ?_⟩
    have c12 : ∀ c ∈ abc, isLt c := fun c hc => abc_mem.mp hc
    refine ⟨_, rfl, a, ns, rfl, hS, hn0, fun p l H1 np s1 PA1 => ?_⟩
    have cd1 := cd0.same s1
    clear np s1 cd0 hS
    refine ⟨_, rfl, by decide, by decide, for_it (walk_range (lo := 0) (n := 5)) (fun i σ H2 => (∃ v2 v3 v4 v5 v6 v7 v8 v9 v10 v11 v12 : Option V, σ = [some (.ref a), some (.ref p), v2, v3, v4, v5, v6, v7, v8, v9, v10, v11, v12]) ∧ PenAt H2 p l ns (1000 * (5 - i)) ∧ CnD K aS aE aV aD H2) ⟨⟨none, none, none, none, none, none, none, none, none, none, none, rfl⟩, PA1.less (by omega), cd1⟩ (fun _ _ _ _ _ => trivial) ?_ ?_⟩
    rotate_left
    · exact fun σ H2 ⟨⟨v2, v3, v4, v5, v6, v7, v8, v9, v10, v11, v12, e⟩, PA2, cd2⟩ => q0 _
    rintro i z σ H2 H2' hi ⟨⟨v2, v3, v4, v5, v6, v7, v8, v9, v10, v11, v12, rfl⟩, PA2, cd2⟩ ⟨rfl, rfl⟩
    have hb : 1000 * (5 - i) = 1000 * (5 - (i + 1)) + 1000 := by
      have : i < 5 := hi
      omega
    rw [hb] at PA2
    generalize 1000 * (5 - (i + 1)) = n at PA2 ⊢
    refine ⟨_, rfl, _, rfl, p, l, ns, n + 980, 5, rfl, PA2.less (by omega), by decide, by decide, fun v H4 w0 w1 PA5 fr5 => ?_⟩
    obtain ⟨j, rfl⟩ : ∃ j : Nat, v = j := ⟨v.toNat, by omega⟩
    refine ⟨_, _, rfl, rfl, ?_⟩
    refine ⟨p, l, ns, n + 970, 1 + j, by rw [show ((1 + j : Nat) : Int) = 1 + (j : Int) by omega]; rfl, PA5.less (by omega), by omega, fun so cs H5 hlen hnd hlt PA6 fr6 nso hso => ?_⟩
    refine atName ?_
    dsimp only [List.set_cons_succ, List.set_cons_zero]
    have h5 : cs.length ≤ 5 := by omega
    have hne : cs ≠ [] := fun z => by
      rw [z] at hlen
      simp at hlen
      omega
    have cd5 := (cd2.fr PA2 fr5).fr PA5 fr6
    have hsp : so ≠ p := PA5.nep nso
    refine ⟨_, rfl, _, rfl, p, l, so, ns, n + 700, cs, rfl, PA6.less (by omega), hso, hsp, hne, hnd, by omega, hlt, fun d t H6 G1 PA7 fr7 nd1 hd1 => ?_⟩
    refine atName ?_
    dsimp only [List.set_cons_succ, List.set_cons_zero]
    have cd6 := cd5.fr PA6 fr7
    have A1 : GoodT abc t := G1.abc hlt
    have l1 : t.length ≤ 5 := Nat.le_trans G1.len h5
    have hso6 := fr7 _ _ hso hsp
    have dp1 : d ≠ p := PA6.nep nd1
    clear PA6 fr7 nd1 cd5 hso PA5 fr5 fr6 nso w0 w1 cd2 PA2
    refine ⟨_, rfl, d, abc, [], t, rfl, hd1, A1, ⟨by rw [toldT_nil A1.nd]; omega, by rw [abc_len]; omega⟩, c12, fun c h => (nomatch h), by decide, fun x H7 nx m7 s7 => ?_⟩
    have m := m7.mis
    rw [toldT_nil A1.nd] at m
    have PA8 := pen_same PA7 s7
    have cd7 := cd6.same s7
    have hd7 := s7 _ _ hd1
    have hso7 := s7 _ _ hso6
    clear m7 nx s7 cd6 PA7 hd1 hso6
    refine ⟨_, rfl, _, rfl, p, l, so, ns, n + 400, cs, rfl, PA8.less (by omega), hso7, hsp, hne, hnd, by omega, hlt, fun d2 t2 H8 G2 PA9 fr9 nd2 hd2 => ?_⟩
    have A2 : GoodT abc t2 := G2.abc hlt
    have l2 : t2.length ≤ 5 := Nat.le_trans G2.len h5
    have cd8 := cd7.fr PA8 fr9
    have hd8 := fr9 _ _ hd7 dp1
    have hso8 := fr9 _ _ hso7 hsp
    have hds : d2 ≠ p := PA8.nep nd2
    have m8 := mis_fr m PA8 fr9
    refine ⟨d2, abc, [], t2, rfl, hd2, A2, ⟨by rw [toldT_nil A2.nd]; omega, by rw [abc_len]; omega⟩, c12, fun c h => (nomatch h), by decide, fun y H9 ny m79 s9 => ⟨_, _, rfl, ?_⟩⟩
    have my := m79.mis
    rw [toldT_nil A2.nd] at my
    dsimp only [List.set_cons_succ, List.set_cons_zero]
    have PA10 := pen_same PA9 s9
    have cd9 := cd8.same s9
    have mx9 := m8.same2 s9
    have hd9 := s9 _ _ hd8
    have hso9 := s9 _ _ hso8
    clear m79 ny s9 cd8 m8 m hd8 hso8 PA9 fr9 nd2 hd2 hds cd7 hd7 hso7 PA8
    refine ⟨_, rfl, _, rfl, so, lets cs, rfl, .inl (SqL.of hso9), p, l, ns, n + 300, cs.length, by rw [lets_len]; rfl, PA10.less (by omega), by omega, fun so2 ds H10 dlen dnd dlt PA11 fr11 nso2 hso2 D nD => ⟨_, _, rfl, ?_⟩⟩
    dsimp only [List.set_cons_succ, List.set_cons_zero]
    have cd10 := cd9.fr PA10 fr11
    have mx10 := mis_fr mx9 PA10 fr11
    have my10 := mis_fr my PA10 fr11
    have hd10 := fr11 _ _ hd9 dp1
    have hso10 := fr11 _ _ hso9 hsp
    have hD0 : upd H10 D (.dK []) D = some (.dK (encT ((nmT cs ds).take 0))) := upd_same
    have sD := same_put (s := Same.refl H10) (o := .dK []) nD
    clear cd9 mx9 my hd9 hso9 PA10 fr11
    show tSeq _ _ _ _ (upd H10 D (.dK []))
    have ln : (nmT cs ds).length = cs.length := by
      unfold nmT
      rw [List.length_map, List.length_zip]
      omega
    have nmk := nmT_keys dlen.symm
    generalize upd H10 D (.dK []) = H11 at hD0 sD ⊢
    refine ⟨_, rfl, _, rfl, so, so2, lets cs, lets ds, rfl, SqL.of (sD _ _ hso10), SqL.of (sD _ _ hso2), for_it (walk_zip (K := K) (a := so) (b := so2) (xs := lets cs) (ys := lets ds) (n := cs.length) (by rw [lets_len, lets_len]; omega)) (fun i' σ H' => (∃ v9 v10 : Option V, σ = [some (.ref a), some (.ref p), some (.int (0 + (i : Int))), some (.ref so), some (.ref d), some (.ref x), some (.ref y), some (.ref so2), some (.ref D), v9, v10, v11, v12]) ∧ H' D = some (.dK (encT ((nmT cs ds).take i'))) ∧ Same H10 H') ⟨⟨_, _, rfl⟩, hD0, sD⟩ ?_ ?_ ?_⟩
    · rintro i' σ H' hi' ⟨_, _, s⟩
      exact ⟨SqL.of (s _ _ hso10), SqL.of (s _ _ hso2)⟩
    · rintro i' z σ H' H'' hi' ⟨⟨v9, v10, rfl⟩, hD, s⟩ ⟨tq, xv, yv, rfl, ntq, rfl, hxv, hyv⟩
      obtain ⟨h1, rfl⟩ := lets_get hxv
      obtain ⟨h2, rfl⟩ := lets_get hyv
      refine ⟨tq, [.str (L1 cs[i']), .str (L1 ds[i'])], rfl, .inl (.inl upd_same), rfl, _, _, rfl, _, _, rfl, rfl, ?_⟩
      have hD5 : upd H' tq (.tup [.str (L1 cs[i']), .str (L1 ds[i'])]) D = some (.dK (encT ((nmT cs ds).take i'))) := by rw [upd_ne (ne_of_none hD ntq)]; exact hD
      have s5 := same_put (s := s) (o := .tup [.str (L1 cs[i']), .str (L1 ds[i'])]) ntq
      generalize upd H' tq (.tup [.str (L1 cs[i']), .str (L1 ds[i'])]) = H5 at hD5 s5 ⊢
      refine ⟨_, rfl, _, rfl, _, rfl, D, _, rfl, DPut.k (k := Sum.inr (L1 cs[i'])) hD5 (by rw [encT_len, List.length_take]; exact small1000 (by omega)), ?_⟩
      have ep : putK (encT ((nmT cs ds).take i')) (Sum.inr (L1 cs[i'])) (V.str (L1 ds[i'])) = encT ((nmT cs ds).take (i' + 1)) := by
        have e1 : putK (encT ((nmT cs ds).take i')) (Sum.inr (L1 cs[i'])) (V.str (Sx [ds[i']])) = encT (putT ((nmT cs ds).take i') cs[i'] [ds[i']]) := putK_enc _ _ _
        have e2 : (nmT cs ds)[i']? = some (cs[i'], [ds[i']]) := by
          have e3 : (cs.zip ds)[i']? = some (cs[i'], ds[i']) := List.getElem?_zip_eq_some.mpr ⟨List.getElem?_eq_getElem h1, List.getElem?_eq_getElem h2⟩
          unfold nmT
          rw [List.getElem?_map, e3]
          rfl
        refine e1.trans ?_
        rw [putT_new, List.take_add_one, e2]
        · rfl
        · rw [List.map_take, nmk]
          intro hm
          have nd' := hnd
          rw [← List.take_append_drop i' cs, List.nodup_append] at nd'
          exact nd'.2.2 _ hm _ (by rw [List.drop_eq_getElem_cons h1]; exact List.mem_cons_self) rfl
      refine ⟨⟨_, _, rfl⟩, ?_, fun b o e => ?_⟩
      · rw [upd_same, ep]
      · rw [upd_ne (ne_of_none e nD)]
        exact s5 _ _ e
    rintro σ H12 ⟨⟨v9, v10, rfl⟩, hD12, s12⟩
    rw [List.take_of_length_le (by rw [ln]; exact Nat.le_refl _)] at hD12
    have cd12 := cd10.same s12
    have mx12 := mx10.same2 s12
    have my12 := my10.same2 s12
    have hd12 := s12 _ _ hd10
    have hso12 := s12 _ _ hso10
    have PA12 : PenAt H12 p l ns n := pen_same (PA11.less (by omega)) s12
    clear cd10 mx10 my10 hd10 hso10 hso2 nD hD0 sD s12 PA11 nso2
    obtain ⟨hasn, injn⟩ := nm_all dlen.symm hnd dnd dlt
    refine ⟨_, rfl, _, rfl, _, rfl, x, d, D, cs, t, nmT cs ds, rfl, mx12, hd12, hD12, G1, l1, hlt, hasn, injn, cd12, fun H13 s13 => ⟨true, rfl, iteF ?_⟩⟩
    have cd13 := cd12.same s13
    refine ⟨_, rfl, _, rfl, x, y, cs, t, t2, rfl, mx12.same2 s13, my12.same2 s13, G1, G2, l1, l2, h5, hlt, cd13, fun H14 s14 => ⟨true, rfl, iteF ?_⟩⟩
    have s24 : Same H12 H14 := fun b o e => s14 _ _ (s13 _ _ e)
    have cd14 := cd13.same s14
    refine ⟨_, rfl, _, rfl, x, x, cs, t, t, rfl, mx12.same2 s24, mx12.same2 s24, G1, G1, l1, l1, h5, hlt, cd14, fun H15 s15 => ⟨true, rfl, iteF ?_⟩⟩
    have s25 : Same H12 H15 := fun b o e => s15 _ _ (s24 _ _ e)
    have cd15 := cd14.same s15
    have mx15 := mx12.same2 s25
    have hso15 := s25 _ _ hso12
    have PA15 := pen_same PA12 s25
    clear s13 s14 s15 s24 s25 cd13 cd14 cd12 mx12 my12 hd12 hso12 hD12 PA12
    have ou := good_over G1
    have b4 := good_bnd G1
    have ok := ok_good A1 (by omega)
    have okLike : ∀ {v : Tab} {f : Fu}, lk v = f → leF f (lk t) → OkU v := fun {v f} e h => ok_of e (fun c s hc => good_ne G1 c s (h c s hc)) (fun c s hc => Nat.le_trans (b4 c s (h c s hc)) (by decide)) (fun c s hc e2 he => hlt _ (ou.img c s (h c s hc) e2 he)) (by
      have h1 := keys_few (t := t) e fun c s hc => by rw [h c s hc]; rfl
      have h2 := keys_five (t := t)
      omega)
    obtain ⟨dx, fa, fb, fc, hx, _⟩ := id mx15.at_
    have b64 : Bnd 64 (lk t) := Bnd.le b4 (by decide)
    -- fewer letters
    refine ⟨_, rfl, x, dx, _, rfl, hx, f3_no (by decide +kernel) (by decide +kernel) (by decide +kernel), ⟨_, rfl⟩, _, rfl, 1, rfl, so, _, rfl, SqL.of hso15, fun q nq => ?_⟩
    rw [cut_tail]
    have s16 := same_put (s := Same.refl H15) (o := .lst (lets (cs.drop 1))) nq
    have hq16 : upd H15 q (.lst (lets (cs.drop 1))) q = some (.lst (lets (cs.drop 1))) := upd_same
    generalize upd H15 q (.lst (lets (cs.drop 1))) = H16 at s16 hq16 ⊢
    rw [lets_sx] at hq16
    have dlt' : ∀ c ∈ cs.drop 1, isLt c := fun c hc => hlt c (List.mem_of_mem_drop hc)
    have dl5 : (cs.drop 1).length ≤ 5 := by rw [List.length_drop]; omega
    refine ⟨Str.empty, q, ((cs.drop 1).map fun c => [c]).map Sx, rfl, rfl, .inl (SqL.of hq16), ?_, ?_⟩
    · have hb := ones_len (cs.drop 1)
      rw [List.length_map, List.length_map]
      show _ + _ * 0 ≤ _
      omega
    rw [join_Sx, flat_one]
    refine ⟨x, t, cs, cs.drop 1, rfl, mx15.same2 s16, dlt', by omega, ou, by omega, fun k H17 lv nk mk ek s17 => ?_⟩
    refine atName ?_
    dsimp only [List.set_cons_succ, List.set_cons_zero]
    have s57 : Same H15 H17 := fun b o e => s17 _ _ (s16 _ _ e)
    have cd17 := cd15.same s57
    have mx17 := mx15.same2 s57
    have hx17 := s57 _ _ hx
    have hso17 := s57 _ _ hso15
    have PA17 := pen_same PA15 s57
    clear s16 s17 s57 cd15 mx15 hx hso15 PA15 nq hq16 nk
    have okl := okLike ek (oF_le _ _)
    obtain ⟨dk, fk, hk⟩ := mk.ins
    have less : OneF (lk t) → OneF (lk lv) := fun o => by
      rw [ek]
      exact o.fewer (oF_le _ _)
    refine seq1 (fun σ' H' => σ' = [some (.ref a), some (.ref p), some (.int (0 + (i : Int))), some (.ref so), some (.ref d), some (.ref x), some (.ref y), some (.ref so2), some (.ref D), v9, v10, some (.ref k), v12] ∧ Same H17 H') ?_ (fun R r => ?_)
    rotate_left
    · refine ⟨_, rfl, x, t, rfl, mx17, ok, cd17.cn, cd17.sd, fun z1 H18 s18 nz1 vz1 => ?_⟩
      have cd18 := cd17.same s18
      rcases vz1 with ⟨dx1, _, _, _, _, ak1, hz1, _⟩ | ⟨dx1, u1, hz1, way1, une1, _⟩
      · have o1 := (one_iff ok.ne).mp ak1
        refine .inl ⟨z1, dx1, _, rfl, hz1, z1, rfl, true, rfl, iteT ?_⟩
        refine ⟨_, rfl, k, lv, rfl, mk.same2 s18, okl, cd18.cn, cd18.sd, fun z2 H19 s19 nz2 vz2 => ?_⟩
        have cd19 := cd18.same s19
        rcases vz2 with ⟨dx2, _, _, _, _, ak2, hz2, _⟩ | ⟨dx2, u2, hz2, way2, une2, _⟩
        rotate_left
        · exact absurd (less o1) (way_not okl.ne way2 une2)
        refine .inl ⟨z2, dx2, _, rfl, hz2, z2, rfl, true, rfl, iteF ?_⟩
        refine ⟨_, rfl, k, lv, rfl, (mk.same2 s18).same2 s19, okl, cd19.cn, cd19.sd, fun z3 H20 s20 nz3 vz3 => ?_⟩
        rcases vz3 with ⟨dx3, _, _, _, _, ak3, hz3, _⟩ | ⟨dx3, u3, hz3, way3, une3, _⟩
        rotate_left
        · exact absurd (less o1) (way_not okl.ne way3 une3)
        exact .inl ⟨z3, dx3, _, rfl, hz3, z3, rfl, true, rfl, iteF (iteF (r _ _ ⟨rfl, fun b o e => s20 _ _ (s19 _ _ (s18 _ _ e))⟩))⟩
      · have n1 := way_not ok.ne way1 une1
        refine .inr ⟨z1, dx1, _, rfl, hz1, z1, rfl, false, rfl, iteF (iteF ?_)⟩
        refine ⟨_, rfl, k, lv, rfl, mk.same2 s18, okl, cd18.cn, cd18.sd, fun z2 H19 s19 nz2 vz2 => ?_⟩
        have s79 : Same H17 H19 := fun b o e => s19 _ _ (s18 _ _ e)
        have cd19 := cd18.same s19
        rcases vz2 with ⟨dx2, _, _, _, _, ak2, hz2, _⟩ | ⟨dx2, u2, hz2, way2, une2, _⟩
        · exact .inl ⟨z2, dx2, _, rfl, hz2, z2, rfl, true, rfl, iteF (iteF (r _ _ ⟨rfl, s79⟩))⟩
        refine .inr ⟨z2, dx2, _, rfl, hz2, z2, rfl, false, rfl, iteT ?_⟩
        refine ⟨_, rfl, _, rfl, x, dx, _, k, dk, _, rfl, s79 _ _ hx17, rfl, s79 _ _ hk, x, k, t, lv, cs, rfl, mx17.same2 s79, mk.same2 s79, fun c s' r' e1 e2 => ?_, ou, by rw [ek]; exact ou.only _, by omega, fun o3 H20 ov no3 mo3 eo3 s20 => ?_⟩
        · rw [ek] at e2
          exact Option.some.inj (e1.symm.trans (oF_le _ _ c r' e2))
        rw [ek, uF_self (oF_le _ _)] at eo3
        have oko := okLike eo3 (fun c s' h => h)
        have cd20 := cd19.same s20
        refine ⟨o3, ov, rfl, mo3, oko, cd20.cn, cd20.sd, fun z4 H21 s21 nz4 vz4 => ?_⟩
        rcases vz4 with ⟨_, _, _, _, _, ak4, _⟩ | ⟨dx4, u4, hz4, _⟩
        · have o4 := (one_iff oko.ne).mp ak4
          rw [eo3] at o4
          exact absurd o4 n1
        exact .inr ⟨z4, dx4, _, rfl, hz4, z4, rfl, false, rfl, iteF (r _ _ ⟨rfl, fun b o e => s21 _ _ (s20 _ _ (s79 _ _ e))⟩)⟩
    rintro σ' H18 ⟨rfl, s18⟩
    have cd18 := cd17.same s18
    have mx18 := mx17.same2 s18
    have hx18 := s18 _ _ hx17
    have hso18 := s18 _ _ hso17
    have PA18 := pen_same PA17 s18
    clear cd17 mx17 hx17 hso17 PA17 hk mk s18
    -- what leaves each letter as it is
    have hso18' := hso18
    rw [lets_sx] at hso18'
    refine ⟨rfl, ⟨_, rfl⟩, _, rfl, Str.empty, so, (cs.map fun c => [c]).map Sx, rfl, rfl, .inl (SqL.of hso18'), ?_, ?_⟩
    · have hb := ones_len cs
      rw [List.length_map, List.length_map]
      show _ + _ * 0 ≤ _
      omega
    rw [join_Sx, flat_one]
    refine ⟨cs, cs, rfl, by omega, hlt, fun c hc => hc, by omega, fun st H19 nst mst s19 => ?_⟩
    refine atName ?_
    dsimp only [List.set_cons_succ, List.set_cons_zero]
    have es := lk_still hnd hlt
    have cd19 := cd18.same s19
    have mx19 := mx18.same2 s19
    have hx19 := s19 _ _ hx18
    have PA19 := pen_same PA18 s19
    clear cd18 mx18 hx18 PA18 s19 hso18 hso18'
    obtain ⟨ds', fs', hst⟩ := mst.ins
    have oks : OkU (toldT cs []) := ok_of es (fun c s hc e => by
      unfold idF at hc
      by_cases h : c ∈ cs
      · rw [if_pos h] at hc
        cases Option.some.inj hc
        cases e
      · rw [if_neg h] at hc
        cases hc) (fun c s hc => Nat.le_trans (Bnd.id c s hc) (by decide)) (fun c s hc e he => hlt _ ((Ovr.id (cs := cs)).img c s hc e he)) (by
      have h1 : (keysOf (toldT cs [])).length ≤ cs.length := nd_le (keysOf_nd _) fun c hc => by
        obtain ⟨s, e⟩ := Option.isSome_iff_exists.mp (lk_mem.mp hc)
        rw [es] at e
        exact (Ovr.id (cs := cs)).key c s e
      omega)
    have one_s : OneF (lk (toldT cs [])) := by
      rw [es]
      exact one_id
    refine ⟨_, rfl, st, toldT cs [], rfl, mst, oks, cd19.cn, cd19.sd, fun z1 H20 s20 nz1 vz1 => ?_⟩
    rcases vz1 with ⟨dx1, _, _, _, _, ak1, hz1, _⟩ | ⟨dx1, u1, hz1, way1, une1, _⟩
    rotate_left
    · exact absurd one_s (way_not oks.ne way1 une1)
    refine .inl ⟨z1, dx1, _, rfl, hz1, z1, rfl, true, rfl, iteF ?_⟩
    have cd20 := cd19.same s20
    have eF : cF (lk t) (lk (toldT cs [])) = lk t := by rw [es, cF_id ou]
    refine ⟨_, rfl, _, rfl, x, dx, _, st, ds', _, rfl, s20 _ _ hx19, rfl, s20 _ _ hst, x, st, t, toldT cs [], cs, rfl, mx19.same2 s20, mst.same2 s20, b64, by rw [es]; exact Bnd.le Bnd.id (by decide), by rw [eF]; exact b64, ou, by omega, fun o3 H21 ov no3 mo3 eo3 s21 => ?_⟩
    rw [eF] at eo3
    have oko := okLike eo3 (fun c s' h => h)
    have cd21 := cd20.same s21
    refine ⟨o3, ov, rfl, mo3, oko, cd21.cn, cd21.sd, fun z4 H22 s22 nz4 vz4 => ?_⟩
    have s92 : Same H19 H22 := fun b o e => s22 _ _ (s21 _ _ (s20 _ _ e))
    have cd22 := cd21.same s22
    rcases vz4 with ⟨dx4, _, _, _, _, ak4, hz4, _⟩ | ⟨dx4, u4, hz4, way4, une4, _⟩
    · have o4 := (one_iff oko.ne).mp ak4
      rw [eo3] at o4
      refine .inl ⟨z4, dx4, _, rfl, hz4, z4, rfl, true, rfl, ?_⟩
      refine ⟨_, rfl, x, t, rfl, mx19.same2 s92, ok, cd22.cn, cd22.sd, fun z5 H23 s23 nz5 vz5 => ?_⟩
      rcases vz5 with ⟨dx5, _, _, _, _, ak5, hz5, _⟩ | ⟨dx5, u5, hz5, way5, une5, _⟩
      rotate_left
      · exact absurd o4 (way_not ok.ne way5 une5)
      refine .inl ⟨z5, dx5, _, rfl, hz5, z5, rfl, true, rfl, rfl, _, rfl, ?_⟩
      rw [decide_eq_true rfl]
      exact iteF ⟨⟨_, _, _, _, _, _, _, _, _, _, _, rfl⟩, pen_same (pen_same PA19 s92) s23, cd22.same s23⟩
    · have n4 := way_not oko.ne way4 une4
      rw [eo3] at n4
      refine .inr ⟨z4, dx4, _, rfl, hz4, z4, rfl, false, rfl, ?_⟩
      refine ⟨_, rfl, x, t, rfl, mx19.same2 s92, ok, cd22.cn, cd22.sd, fun z5 H23 s23 nz5 vz5 => ?_⟩
      rcases vz5 with ⟨dx5, _, _, _, _, ak5, hz5, _⟩ | ⟨dx5, u5, hz5, way5, une5, _⟩
      · exact absurd ((one_iff ok.ne).mp ak5) n4
      refine .inr ⟨z5, dx5, _, rfl, hz5, z5, rfl, false, rfl, rfl, _, rfl, ?_⟩
      rw [decide_eq_true rfl]
      exact iteF ⟨⟨_, _, _, _, _, _, _, _, _, _, _, rfl⟩, pen_same (pen_same PA19 s92) s23, cd22.same s23⟩
end
end V8
set_option Elab.async false
set_option linter.all false
set_option maxRecDepth 100000
set_option maxHeartbeats 16000000
/-! What the top has left, taken together. -/
namespace V8
open PySem PySem.Spec PyProof.Rows L2 MZ
def spLaw0 (K : PySem.W.Frag) : Sp := fun vs H Q _ => ∃ (a : Addr) (ns : List Int), vs = [.ref a] ∧ SqL K H a (ns.map V.int) ∧ ns.length ≤ 63 ∧ ∀ H', Q (.bl true) H'
theorem sq_known {K : PySem.W.Frag} {a : Addr} {od : Option Addr} {x y : Str} {t u : Tok} {n : Nat} {sl : Array (Option Value)} (h : K.lookup a = some ⟨.type "tuple", od, .seq #[.str x t, .str y u] n, sl⟩) (H : Hp) : SqT K H a [.str x, .str y] :=
  .inr ⟨_, _, _, h, rfl, rfl, by show 2 ≤ sizeLine; decide, .cons ⟨t, rfl⟩ (.cons ⟨u, rfl⟩ .nil)⟩
theorem all_mk {P : Program} {w : World} {K : PySem.W.Frag} {h : Heap} {mg : Str → Option Value} {fa CM CJ CG CO CR f0 f1 f2 f3 f4 f5 f6 f7 f8 f9 f10 f11 f12 f13 f14 f15 f16 f17 f18 f19 f20 f21 f22 f23 f24 f25 f26 f27 f28 f29 f30 f31 f32 f33 f34 f35 f36 f37 f38 f39 f40 f41 f42 f43 f44 f45 f46 f47 f48 f49 f50 f51 f52 f53 f54 f55 TI pS tS tE tW tD0 : Addr} {od0 od1 od2 od3 od4 od5 od6 od7 od8 od9 od10 od11 od12 od13 od14 od15 od16 od17 od18 od19 od20 od21 od22 od23 od24 od25 od26 od27 od28 od29 od30 od31 od32 od33 od34 od35 od36 od37 od38 od39 od40 od41 od42 od43 od44 od45 od46 od47 od48 od49 od50 od51 od52 od53 od54 od55 odT odS odE odW odD : Option Addr} {an0 an1 an2 an3 an4 an5 an6 an7 an8 an9 an10 an11 an12 an13 an14 an15 an16 an17 an18 an19 an20 an21 an22 an23 an24 an25 an26 an27 an28 an29 an30 an31 an32 an33 an34 an35 an36 an37 an38 an39 an40 an41 an42 an43 an44 an45 an46 an47 an48 an49 an50 an51 an52 an53 an54 an55 : Option Addr} {sl0 sl1 sl2 sl3 sl4 sl5 sl6 sl7 sl8 sl9 sl10 sl11 sl12 sl13 sl14 sl15 sl16 sl17 sl18 sl19 sl20 sl21 sl22 sl23 sl24 sl25 sl26 sl27 sl28 sl29 sl30 sl31 sl32 sl33 sl34 sl35 sl36 sl37 sl38 sl39 sl40 sl41 sl42 sl43 sl44 sl45 sl46 sl47 sl48 sl49 sl50 sl51 sl52 sl53 sl54 sl55 slT slS slE slW slD : Array (Option Value)} {oc0 kV0 dc0 pm0 cd0 ct0 oc1 kV1 dc1 pm1 cd1 ct1 oc2 kV2 dc2 pm2 cd2 ct2 oc3 kV3 dc3 pm3 cd3 ct3 oc4 kV4 dc4 pm4 cd4 ct4 oc5 kV5 dc5 pm5 cd5 ct5 oc6 kV6 dc6 pm6 cd6 ct6 oc7 kV7 dc7 pm7 cd7 ct7 oc8 kV8 dc8 pm8 cd8 ct8 oc9 kV9 dc9 pm9 cd9 ct9 oc10 kV10 dc10 pm10 cd10 ct10 oc11 kV11 dc11 pm11 cd11 ct11 oc12 kV12 dc12 pm12 cd12 ct12 oc13 kV13 dc13 pm13 cd13 ct13 oc14 kV14 dc14 pm14 cd14 ct14 oc15 kV15 dc15 pm15 cd15 ct15 oc16 kV16 dc16 pm16 cd16 ct16 oc17 kV17 dc17 pm17 cd17 ct17 oc18 kV18 dc18 pm18 cd18 ct18 oc19 kV19 dc19 pm19 cd19 ct19 oc20 kV20 dc20 pm20 cd20 ct20 oc21 kV21 dc21 pm21 cd21 ct21 oc22 kV22 dc22 pm22 cd22 ct22 oc23 kV23 dc23 pm23 cd23 ct23 oc24 kV24 dc24 pm24 cd24 ct24 oc25 kV25 dc25 pm25 cd25 ct25 oc26 kV26 dc26 pm26 cd26 ct26 oc27 kV27 dc27 pm27 cd27 ct27 oc28 kV28 dc28 pm28 cd28 ct28 oc29 kV29 dc29 pm29 cd29 ct29 oc30 kV30 dc30 pm30 cd30 ct30 oc31 kV31 dc31 pm31 cd31 ct31 oc32 kV32 dc32 pm32 cd32 ct32 oc33 kV33 dc33 pm33 cd33 ct33 oc34 kV34 dc34 pm34 cd34 ct34 oc35 kV35 dc35 pm35 cd35 ct35 oc36 kV36 dc36 pm36 cd36 ct36 oc37 kV37 dc37 pm37 cd37 ct37 oc38 kV38 dc38 pm38 cd38 ct38 oc39 kV39 dc39 pm39 cd39 ct39 oc40 kV40 dc40 pm40 cd40 ct40 oc41 kV41 dc41 pm41 cd41 ct41 oc42 kV42 dc42 pm42 cd42 ct42 oc43 kV43 dc43 pm43 cd43 ct43 oc44 kV44 dc44 pm44 cd44 ct44 oc45 kV45 dc45 pm45 cd45 ct45 oc46 kV46 dc46 pm46 cd46 ct46 oc47 kV47 dc47 pm47 cd47 ct47 oc48 kV48 dc48 pm48 cd48 ct48 oc49 kV49 dc49 pm49 cd49 ct49 oc50 kV50 dc50 pm50 cd50 ct50 oc51 kV51 dc51 pm51 cd51 ct51 oc52 kV52 dc52 pm52 cd52 ct52 oc53 kV53 dc53 pm53 cd53 ct53 oc54 kV54 dc54 pm54 cd54 ct54 oc55 kV55 dc55 pm55 cd55 ct55 ocT : Value} {restS : List Value} {nT nS nE nW nD : Nat} {tkT tk1 tk2 tk3 tk4 tk5 tk6 taS tbS taE tbE taW tbW taD tbD : Tok} {poI roI : Option Value} (X : K.In h) (G : h.Ns mainGlobals mg) (hfa : mg "law" = some (.ref fa))
    (aC : PySem.W.nsIn K mainGlobals "Misreading" = some (some (.ref CM)))
    (aJ : PySem.W.nsIn K mainGlobals "Joined" = some (some (.ref CJ)))
    (aG : PySem.W.nsIn K mainGlobals "Meetings" = some (some (.ref CG)))
    (aO : PySem.W.nsIn K mainGlobals "OneToOne" = some (some (.ref CO)))
    (aR : PySem.W.nsIn K mainGlobals "Merged" = some (some (.ref CR)))
    (uS : PySem.W.nsIn K mainGlobals "START" = some (some (.ref tS)))
    (vS : K.lookup tS = some ⟨.type "tuple", odS, .seq #[.str "start" taS, .str "" tbS] nS, slS⟩)
    (uE : PySem.W.nsIn K mainGlobals "END" = some (some (.ref tE)))
    (vE : K.lookup tE = some ⟨.type "tuple", odE, .seq #[.str "end" taE, .str "" tbE] nE, slE⟩)
    (uW : PySem.W.nsIn K mainGlobals "EVEN" = some (some (.ref tW)))
    (vW : K.lookup tW = some ⟨.type "tuple", odW, .seq #[.str "one" taW, .str "" tbW] nW, slW⟩)
    (uD : PySem.W.nsIn K mainGlobals "SIDES" = some (some (.ref tD0)))
    (vD : K.lookup tD0 = some ⟨.type "tuple", odD, .seq #[.str "one" taD, .str "two" tbD] nD, slD⟩)
    (a0 : PySem.W.nsIn K mainGlobals "copied" = some (some (.ref f0)))
    (l0 : K.lookup f0 = some ⟨oc0, od0, .func (PySem.W.fnOf "copied" "copied" (defArgs s_copied) (defBody s_copied) (defScope s_copied) .none kV0 dc0 pm0 an0 cd0 ct0), sl0⟩) (c0 : PySem.W.codeIn K cd0 "copied" = true) (k0 : PySem.W.keepIn K (.ref f0) = true)
    (a1 : PySem.W.nsIn K mainGlobals "is_letter" = some (some (.ref f1)))
    (l1 : K.lookup f1 = some ⟨oc1, od1, .func (PySem.W.fnOf "is_letter" "is_letter" (defArgs s_is_letter) (defBody s_is_letter) (defScope s_is_letter) .none kV1 dc1 pm1 an1 cd1 ct1), sl1⟩) (c1 : PySem.W.codeIn K cd1 "is_letter" = true) (k1 : PySem.W.keepIn K (.ref f1) = true)
    (a2 : PySem.W.nsIn K mainGlobals "all_letters" = some (some (.ref f2)))
    (l2 : K.lookup f2 = some ⟨oc2, od2, .func (PySem.W.fnOf "all_letters" "all_letters" (defArgs s_all_letters) (defBody s_all_letters) (defScope s_all_letters) .none kV2 dc2 pm2 an2 cd2 ct2), sl2⟩) (c2 : PySem.W.codeIn K cd2 "all_letters" = true) (k2 : PySem.W.keepIn K (.ref f2) = true)
    (a3 : PySem.W.nsIn K mainGlobals "is_text" = some (some (.ref f3)))
    (l3 : K.lookup f3 = some ⟨oc3, od3, .func (PySem.W.fnOf "is_text" "is_text" (defArgs s_is_text) (defBody s_is_text) (defScope s_is_text) .none kV3 dc3 pm3 an3 cd3 ct3), sl3⟩) (c3 : PySem.W.codeIn K cd3 "is_text" = true) (k3 : PySem.W.keepIn K (.ref f3) = true)
    (a4 : PySem.W.nsIn K mainGlobals "is_image" = some (some (.ref f4)))
    (l4 : K.lookup f4 = some ⟨oc4, od4, .func (PySem.W.fnOf "is_image" "is_image" (defArgs s_is_image) (defBody s_is_image) (defScope s_is_image) .none kV4 dc4 pm4 an4 cd4 ct4), sl4⟩) (c4 : PySem.W.codeIn K cd4 "is_image" = true) (k4 : PySem.W.keepIn K (.ref f4) = true)
    (a5 : PySem.W.nsIn K mainGlobals "told_images" = some (some (.ref f5)))
    (l5 : K.lookup f5 = some ⟨oc5, od5, .func (PySem.W.fnOf "told_images" "told_images" (defArgs s_told_images) (defBody s_told_images) (defScope s_told_images) .none kV5 dc5 pm5 an5 cd5 ct5), sl5⟩) (c5 : PySem.W.codeIn K cd5 "told_images" = true) (k5 : PySem.W.keepIn K (.ref f5) = true)
    (a6 : PySem.W.nsIn K mainGlobals "check_other" = some (some (.ref f6)))
    (l6 : K.lookup f6 = some ⟨oc6, od6, .func (PySem.W.fnOf "check_other" "check_other" (defArgs s_check_other) (defBody s_check_other) (defScope s_check_other) .none kV6 dc6 pm6 an6 cd6 ct6), sl6⟩) (c6 : PySem.W.codeIn K cd6 "check_other" = true) (k6 : PySem.W.keepIn K (.ref f6) = true)
    (a7 : PySem.W.nsIn K mainGlobals "check_text" = some (some (.ref f7)))
    (l7 : K.lookup f7 = some ⟨oc7, od7, .func (PySem.W.fnOf "check_text" "check_text" (defArgs s_check_text) (defBody s_check_text) (defScope s_check_text) .none kV7 dc7 pm7 an7 cd7 ct7), sl7⟩) (c7 : PySem.W.codeIn K cd7 "check_text" = true) (k7 : PySem.W.keepIn K (.ref f7) = true)
    (a8 : PySem.W.nsIn K mainGlobals "other_side" = some (some (.ref f8)))
    (l8 : K.lookup f8 = some ⟨oc8, od8, .func (PySem.W.fnOf "other_side" "other_side" (defArgs s_other_side) (defBody s_other_side) (defScope s_other_side) .none kV8 dc8 pm8 an8 cd8 ct8), sl8⟩) (c8 : PySem.W.codeIn K cd8 "other_side" = true) (k8 : PySem.W.keepIn K (.ref f8) = true)
    (a9 : PySem.W.nsIn K mainGlobals "place_behind" = some (some (.ref f9)))
    (l9 : K.lookup f9 = some ⟨oc9, od9, .func (PySem.W.fnOf "place_behind" "place_behind" (defArgs s_place_behind) (defBody s_place_behind) (defScope s_place_behind) .none kV9 dc9 pm9 an9 cd9 ct9), sl9⟩) (c9 : PySem.W.codeIn K cd9 "place_behind" = true) (k9 : PySem.W.keepIn K (.ref f9) = true)
    (a10 : PySem.W.nsIn K mainGlobals "moves_from" = some (some (.ref f10)))
    (l10 : K.lookup f10 = some ⟨oc10, od10, .func (PySem.W.fnOf "moves_from" "moves_from" (defArgs s_moves_from) (defBody s_moves_from) (defScope s_moves_from) .none kV10 dc10 pm10 an10 cd10 ct10), sl10⟩) (c10 : PySem.W.codeIn K cd10 "moves_from" = true) (k10 : PySem.W.keepIn K (.ref f10) = true)
    (a11 : PySem.W.nsIn K mainGlobals "with_label" = some (some (.ref f11)))
    (l11 : K.lookup f11 = some ⟨oc11, od11, .func (PySem.W.fnOf "with_label" "with_label" (defArgs s_with_label) (defBody s_with_label) (defScope s_with_label) .none kV11 dc11 pm11 an11 cd11 ct11), sl11⟩) (c11 : PySem.W.codeIn K cd11 "with_label" = true) (k11 : PySem.W.keepIn K (.ref f11) = true)
    (a12 : PySem.W.nsIn K mainGlobals "lead_of" = some (some (.ref f12)))
    (l12 : K.lookup f12 = some ⟨oc12, od12, .func (PySem.W.fnOf "lead_of" "lead_of" (defArgs s_lead_of) (defBody s_lead_of) (defScope s_lead_of) .none kV12 dc12 pm12 an12 cd12 ct12), sl12⟩) (c12 : PySem.W.codeIn K cd12 "lead_of" = true) (k12 : PySem.W.keepIn K (.ref f12) = true)
    (a13 : PySem.W.nsIn K mainGlobals "all_moves" = some (some (.ref f13)))
    (l13 : K.lookup f13 = some ⟨oc13, od13, .func (PySem.W.fnOf "all_moves" "all_moves" (defArgs s_all_moves) (defBody s_all_moves) (defScope s_all_moves) .none kV13 dc13 pm13 an13 cd13 ct13), sl13⟩) (c13 : PySem.W.codeIn K cd13 "all_moves" = true) (k13 : PySem.W.keepIn K (.ref f13) = true)
    (a14 : PySem.W.nsIn K mainGlobals "all_living" = some (some (.ref f14)))
    (l14 : K.lookup f14 = some ⟨oc14, od14, .func (PySem.W.fnOf "all_living" "all_living" (defArgs s_all_living) (defBody s_all_living) (defScope s_all_living) .none kV14 dc14 pm14 an14 cd14 ct14), sl14⟩) (c14 : PySem.W.codeIn K cd14 "all_living" = true) (k14 : PySem.W.keepIn K (.ref f14) = true)
    (a15 : PySem.W.nsIn K mainGlobals "ways_from" = some (some (.ref f15)))
    (l15 : K.lookup f15 = some ⟨oc15, od15, .func (PySem.W.fnOf "ways_from" "ways_from" (defArgs s_ways_from) (defBody s_ways_from) (defScope s_ways_from) .none kV15 dc15 pm15 an15 cd15 ct15), sl15⟩) (c15 : PySem.W.codeIn K cd15 "ways_from" = true) (k15 : PySem.W.keepIn K (.ref f15) = true)
    (a16 : PySem.W.nsIn K mainGlobals "ended" = some (some (.ref f16)))
    (l16 : K.lookup f16 = some ⟨oc16, od16, .func (PySem.W.fnOf "ended" "ended" (defArgs s_ended) (defBody s_ended) (defScope s_ended) .none kV16 dc16 pm16 an16 cd16 ct16), sl16⟩) (c16 : PySem.W.codeIn K cd16 "ended" = true) (k16 : PySem.W.keepIn K (.ref f16) = true)
    (a17 : PySem.W.nsIn K mainGlobals "unlike_meeting" = some (some (.ref f17)))
    (l17 : K.lookup f17 = some ⟨oc17, od17, .func (PySem.W.fnOf "unlike_meeting" "unlike_meeting" (defArgs s_unlike_meeting) (defBody s_unlike_meeting) (defScope s_unlike_meeting) .none kV17 dc17 pm17 an17 cd17 ct17), sl17⟩) (c17 : PySem.W.codeIn K cd17 "unlike_meeting" = true) (k17 : PySem.W.keepIn K (.ref f17) = true)
    (a18 : PySem.W.nsIn K mainGlobals "rests_of" = some (some (.ref f18)))
    (l18 : K.lookup f18 = some ⟨oc18, od18, .func (PySem.W.fnOf "rests_of" "rests_of" (defArgs s_rests_of) (defBody s_rests_of) (defScope s_rests_of) .none kV18 dc18 pm18 an18 cd18 ct18), sl18⟩) (c18 : PySem.W.codeIn K cd18 "rests_of" = true) (k18 : PySem.W.keepIn K (.ref f18) = true)
    (a19 : PySem.W.nsIn K mainGlobals "leads_of" = some (some (.ref f19)))
    (l19 : K.lookup f19 = some ⟨oc19, od19, .func (PySem.W.fnOf "leads_of" "leads_of" (defArgs s_leads_of) (defBody s_leads_of) (defScope s_leads_of) .none kV19 dc19 pm19 an19 cd19 ct19), sl19⟩) (c19 : PySem.W.codeIn K cd19 "leads_of" = true) (k19 : PySem.W.keepIn K (.ref f19) = true)
    (a20 : PySem.W.nsIn K mainGlobals "check_misreading" = some (some (.ref f20)))
    (l20 : K.lookup f20 = some ⟨oc20, od20, .func (PySem.W.fnOf "check_misreading" "check_misreading" (defArgs s_check_misreading) (defBody s_check_misreading) (defScope s_check_misreading) .none kV20 dc20 pm20 an20 cd20 ct20), sl20⟩) (c20 : PySem.W.codeIn K cd20 "check_misreading" = true) (k20 : PySem.W.keepIn K (.ref f20) = true)
    (a21 : PySem.W.nsIn K mainGlobals "check_length" = some (some (.ref f21)))
    (l21 : K.lookup f21 = some ⟨oc21, od21, .func (PySem.W.fnOf "check_length" "check_length" (defArgs s_check_length) (defBody s_check_length) (defScope s_check_length) .none kV21 dc21 pm21 an21 cd21 ct21), sl21⟩) (c21 : PySem.W.codeIn K cd21 "check_length" = true) (k21 : PySem.W.keepIn K (.ref f21) = true)
    (a22 : PySem.W.nsIn K mainGlobals "check_images" = some (some (.ref f22)))
    (l22 : K.lookup f22 = some ⟨oc22, od22, .func (PySem.W.fnOf "check_images" "check_images" (defArgs s_check_images) (defBody s_check_images) (defScope s_check_images) .none kV22 dc22 pm22 an22 cd22 ct22), sl22⟩) (c22 : PySem.W.codeIn K cd22 "check_images" = true) (k22 : PySem.W.keepIn K (.ref f22) = true)
    (a23 : PySem.W.nsIn K mainGlobals "image_pairs" = some (some (.ref f23)))
    (l23 : K.lookup f23 = some ⟨oc23, od23, .func (PySem.W.fnOf "image_pairs" "image_pairs" (defArgs s_image_pairs) (defBody s_image_pairs) (defScope s_image_pairs) .none kV23 dc23 pm23 an23 cd23 ct23), sl23⟩) (c23 : PySem.W.codeIn K cd23 "image_pairs" = true) (k23 : PySem.W.keepIn K (.ref f23) = true)
    (a24 : PySem.W.nsIn K mainGlobals "merging" = some (some (.ref f24)))
    (l24 : K.lookup f24 = some ⟨oc24, od24, .func (PySem.W.fnOf "merging" "merging" (defArgs s_merging) (defBody s_merging) (defScope s_merging) .none kV24 dc24 pm24 an24 cd24 ct24), sl24⟩) (c24 : PySem.W.codeIn K cd24 "merging" = true) (k24 : PySem.W.keepIn K (.ref f24) = true)
    (a25 : PySem.W.nsIn K mainGlobals "right_leads" = some (some (.ref f25)))
    (l25 : K.lookup f25 = some ⟨oc25, od25, .func (PySem.W.fnOf "right_leads" "right_leads" (defArgs s_right_leads) (defBody s_right_leads) (defScope s_right_leads) .none kV25 dc25 pm25 an25 cd25 ct25), sl25⟩) (c25 : PySem.W.codeIn K cd25 "right_leads" = true) (k25 : PySem.W.keepIn K (.ref f25) = true)
    (a26 : PySem.W.nsIn K mainGlobals "can_happen" = some (some (.ref f26)))
    (l26 : K.lookup f26 = some ⟨oc26, od26, .func (PySem.W.fnOf "can_happen" "can_happen" (defArgs s_can_happen) (defBody s_can_happen) (defScope s_can_happen) .none kV26 dc26 pm26 an26 cd26 ct26), sl26⟩) (c26 : PySem.W.codeIn K cd26 "can_happen" = true) (k26 : PySem.W.keepIn K (.ref f26) = true)
    (a27 : PySem.W.nsIn K mainGlobals "merges" = some (some (.ref f27)))
    (l27 : K.lookup f27 = some ⟨oc27, od27, .func (PySem.W.fnOf "merges" "merges" (defArgs s_merges) (defBody s_merges) (defScope s_merges) .none kV27 dc27 pm27 an27 cd27 ct27), sl27⟩) (c27 : PySem.W.codeIn K cd27 "merges" = true) (k27 : PySem.W.keepIn K (.ref f27) = true)
    (a28 : PySem.W.nsIn K mainGlobals "shows_merging" = some (some (.ref f28)))
    (l28 : K.lookup f28 = some ⟨oc28, od28, .func (PySem.W.fnOf "shows_merging" "shows_merging" (defArgs s_shows_merging) (defBody s_shows_merging) (defScope s_shows_merging) .none kV28 dc28 pm28 an28 cd28 ct28), sl28⟩) (c28 : PySem.W.codeIn K cd28 "shows_merging" = true) (k28 : PySem.W.keepIn K (.ref f28) = true)
    (a29 : PySem.W.nsIn K mainGlobals "_law_pen" = some (some (.ref f29)))
    (l29 : K.lookup f29 = some ⟨oc29, od29, .func (PySem.W.fnOf "_law_pen" "_law_pen" (defArgs s_pen) (defBody s_pen) (defScope s_pen) .none kV29 dc29 pm29 an29 cd29 ct29), sl29⟩) (c29 : PySem.W.codeIn K cd29 "_law_pen" = true) (k29 : PySem.W.keepIn K (.ref f29) = true)
    (a30 : PySem.W.nsIn K mainGlobals "_law_draw" = some (some (.ref f30)))
    (l30 : K.lookup f30 = some ⟨oc30, od30, .func (PySem.W.fnOf "_law_draw" "_law_draw" (defArgs s_draw) (defBody s_draw) (defScope s_draw) .none kV30 dc30 pm30 an30 cd30 ct30), sl30⟩) (c30 : PySem.W.codeIn K cd30 "_law_draw" = true) (k30 : PySem.W.keepIn K (.ref f30) = true)
    (a31 : PySem.W.nsIn K mainGlobals "_law_pick" = some (some (.ref f31)))
    (l31 : K.lookup f31 = some ⟨oc31, od31, .func (PySem.W.fnOf "_law_pick" "_law_pick" (defArgs s_pick) (defBody s_pick) (defScope s_pick) .none kV31 dc31 pm31 an31 cd31 ct31), sl31⟩) (c31 : PySem.W.codeIn K cd31 "_law_pick" = true) (k31 : PySem.W.keepIn K (.ref f31) = true)
    (a32 : PySem.W.nsIn K mainGlobals "_law_some_letters" = some (some (.ref f32)))
    (l32 : K.lookup f32 = some ⟨oc32, od32, .func (PySem.W.fnOf "_law_some_letters" "_law_some_letters" (defArgs s_some_letters) (defBody s_some_letters) (defScope s_some_letters) .none kV32 dc32 pm32 an32 cd32 ct32), sl32⟩) (c32 : PySem.W.codeIn K cd32 "_law_some_letters" = true) (k32 : PySem.W.keepIn K (.ref f32) = true)
    (a33 : PySem.W.nsIn K mainGlobals "_law_escaped" = some (some (.ref f33)))
    (l33 : K.lookup f33 = some ⟨oc33, od33, .func (PySem.W.fnOf "_law_escaped" "_law_escaped" (defArgs s_escaped) (defBody s_escaped) (defScope s_escaped) .none kV33 dc33 pm33 an33 cd33 ct33), sl33⟩) (c33 : PySem.W.codeIn K cd33 "_law_escaped" = true) (k33 : PySem.W.keepIn K (.ref f33) = true)
    (a34 : PySem.W.nsIn K mainGlobals "_law_any_image" = some (some (.ref f34)))
    (l34 : K.lookup f34 = some ⟨oc34, od34, .func (PySem.W.fnOf "_law_any_image" "_law_any_image" (defArgs s_any_image) (defBody s_any_image) (defScope s_any_image) .none kV34 dc34 pm34 an34 cd34 ct34), sl34⟩) (c34 : PySem.W.codeIn K cd34 "_law_any_image" = true) (k34 : PySem.W.keepIn K (.ref f34) = true)
    (a35 : PySem.W.nsIn K mainGlobals "_law_table" = some (some (.ref f35)))
    (l35 : K.lookup f35 = some ⟨oc35, od35, .func (PySem.W.fnOf "_law_table" "_law_table" (defArgs s_table) (defBody s_table) (defScope s_table) .none kV35 dc35 pm35 an35 cd35 ct35), sl35⟩) (c35 : PySem.W.codeIn K cd35 "_law_table" = true) (k35 : PySem.W.keepIn K (.ref f35) = true)
    (a36 : PySem.W.nsIn K mainGlobals "_law_named" = some (some (.ref f36)))
    (l36 : K.lookup f36 = some ⟨oc36, od36, .func (PySem.W.fnOf "_law_named" "_law_named" (defArgs s__law_named) (defBody s__law_named) (defScope s__law_named) .none kV36 dc36 pm36 an36 cd36 ct36), sl36⟩) (c36 : PySem.W.codeIn K cd36 "_law_named" = true) (k36 : PySem.W.keepIn K (.ref f36) = true)
    (a37 : PySem.W.nsIn K mainGlobals "_law_alike_right" = some (some (.ref f37)))
    (l37 : K.lookup f37 = some ⟨oc37, od37, .func (PySem.W.fnOf "_law_alike_right" "_law_alike_right" (defArgs s__law_alike_right) (defBody s__law_alike_right) (defScope s__law_alike_right) .none kV37 dc37 pm37 an37 cd37 ct37), sl37⟩) (c37 : PySem.W.codeIn K cd37 "_law_alike_right" = true) (k37 : PySem.W.keepIn K (.ref f37) = true)
    (a38 : PySem.W.nsIn K mainGlobals "_law_rows_right" = some (some (.ref f38)))
    (l38 : K.lookup f38 = some ⟨oc38, od38, .func (PySem.W.fnOf "_law_rows_right" "_law_rows_right" (defArgs s__law_rows_right) (defBody s__law_rows_right) (defScope s__law_rows_right) .none kV38 dc38 pm38 an38 cd38 ct38), sl38⟩) (c38 : PySem.W.codeIn K cd38 "_law_rows_right" = true) (k38 : PySem.W.keepIn K (.ref f38) = true)
    (a39 : PySem.W.nsIn K mainGlobals "law" = some (some (.ref f39)))
    (l39 : K.lookup f39 = some ⟨oc39, od39, .func (PySem.W.fnOf "law" "law" (defArgs s_law) (defBody s_law) (defScope s_law) .none kV39 dc39 pm39 an39 cd39 ct39), sl39⟩) (c39 : PySem.W.codeIn K cd39 "law" = true) (k39 : PySem.W.keepIn K (.ref f39) = true)
    (a40 : PySem.W.findIn K (.ref CM) "first_barred" = some (some (.ref f40)))
    (i40 : PySem.W.isFn K (.ref f40) = true)
    (l40 : K.lookup f40 = some ⟨oc40, od40, .func (PySem.W.fnOf "first_barred" "Misreading.first_barred" (defArgs s_Misreading_first_barred) (defBody s_Misreading_first_barred) (defScope s_Misreading_first_barred) .none kV40 dc40 pm40 an40 cd40 ct40), sl40⟩) (c40 : PySem.W.codeIn K cd40 "Misreading.first_barred" = true) (k40 : PySem.W.keepIn K (.ref f40) = true)
    (n40 : PySem.W.fnIn K f40 = true)
    (a41 : PySem.W.findIn K (.ref CM) "image" = some (some (.ref f41)))
    (i41 : PySem.W.isFn K (.ref f41) = true)
    (l41 : K.lookup f41 = some ⟨oc41, od41, .func (PySem.W.fnOf "image" "Misreading.image" (defArgs s_Misreading_image) (defBody s_Misreading_image) (defScope s_Misreading_image) .none kV41 dc41 pm41 an41 cd41 ct41), sl41⟩) (c41 : PySem.W.codeIn K cd41 "Misreading.image" = true) (k41 : PySem.W.keepIn K (.ref f41) = true)
    (n41 : PySem.W.fnIn K f41 = true)
    (a42 : PySem.W.findIn K (.ref CM) "__rshift__" = some (some (.ref f42)))
    (i42 : PySem.W.isFn K (.ref f42) = true)
    (l42 : K.lookup f42 = some ⟨oc42, od42, .func (PySem.W.fnOf "__rshift__" "Misreading.__rshift__" (defArgs s_Misreading_rshift) (defBody s_Misreading_rshift) (defScope s_Misreading_rshift) .none kV42 dc42 pm42 an42 cd42 ct42), sl42⟩) (c42 : PySem.W.codeIn K cd42 "Misreading.__rshift__" = true) (k42 : PySem.W.keepIn K (.ref f42) = true)
    (n42 : PySem.W.fnIn K f42 = true)
    (a43 : PySem.W.findIn K (.ref CM) "__or__" = some (some (.ref f43)))
    (i43 : PySem.W.isFn K (.ref f43) = true)
    (l43 : K.lookup f43 = some ⟨oc43, od43, .func (PySem.W.fnOf "__or__" "Misreading.__or__" (defArgs s_Misreading_or) (defBody s_Misreading_or) (defScope s_Misreading_or) .none kV43 dc43 pm43 an43 cd43 ct43), sl43⟩) (c43 : PySem.W.codeIn K cd43 "Misreading.__or__" = true) (k43 : PySem.W.keepIn K (.ref f43) = true)
    (n43 : PySem.W.fnIn K f43 = true)
    (a44 : PySem.W.findIn K (.ref CM) "only" = some (some (.ref f44)))
    (i44 : PySem.W.isFn K (.ref f44) = true)
    (l44 : K.lookup f44 = some ⟨oc44, od44, .func (PySem.W.fnOf "only" "Misreading.only" (defArgs s_Misreading_only) (defBody s_Misreading_only) (defScope s_Misreading_only) .none kV44 dc44 pm44 an44 cd44 ct44), sl44⟩) (c44 : PySem.W.codeIn K cd44 "Misreading.only" = true) (k44 : PySem.W.keepIn K (.ref f44) = true)
    (n44 : PySem.W.fnIn K f44 = true)
    (a45 : PySem.W.findIn K (.ref CM) "__contains__" = some (some (.ref f45)))
    (i45 : PySem.W.isFn K (.ref f45) = true)
    (l45 : K.lookup f45 = some ⟨oc45, od45, .func (PySem.W.fnOf "__contains__" "Misreading.__contains__" (defArgs s_Misreading_contains) (defBody s_Misreading_contains) (defScope s_Misreading_contains) .none kV45 dc45 pm45 an45 cd45 ct45), sl45⟩) (c45 : PySem.W.codeIn K cd45 "Misreading.__contains__" = true) (k45 : PySem.W.keepIn K (.ref f45) = true)
    (n45 : PySem.W.fnIn K f45 = true)
    (a46 : PySem.W.findIn K (.ref CM) "__getitem__" = some (some (.ref f46)))
    (i46 : PySem.W.isFn K (.ref f46) = true)
    (l46 : K.lookup f46 = some ⟨oc46, od46, .func (PySem.W.fnOf "__getitem__" "Misreading.__getitem__" (defArgs s_Misreading_getitem) (defBody s_Misreading_getitem) (defScope s_Misreading_getitem) .none kV46 dc46 pm46 an46 cd46 ct46), sl46⟩) (c46 : PySem.W.codeIn K cd46 "Misreading.__getitem__" = true) (k46 : PySem.W.keepIn K (.ref f46) = true)
    (n46 : PySem.W.fnIn K f46 = true)
    (a47 : PySem.W.findIn K (.ref CM) "__iter__" = some (some (.ref f47)))
    (i47 : PySem.W.isFn K (.ref f47) = true)
    (l47 : K.lookup f47 = some ⟨oc47, od47, .func (PySem.W.fnOf "__iter__" "Misreading.__iter__" (defArgs s_Misreading_iter) (defBody s_Misreading_iter) (defScope s_Misreading_iter) .none kV47 dc47 pm47 an47 cd47 ct47), sl47⟩) (c47 : PySem.W.codeIn K cd47 "Misreading.__iter__" = true) (k47 : PySem.W.keepIn K (.ref f47) = true)
    (n47 : PySem.W.fnIn K f47 = true)
    (a48 : PySem.W.findIn K (.ref CO) "__init__" = some (some (.ref f48)))
    (i48 : PySem.W.isFn K (.ref f48) = true)
    (l48 : K.lookup f48 = some ⟨oc48, od48, .func (PySem.W.fnOf "__init__" "OneToOne.__init__" (defArgs s_OneToOne_init) (defBody s_OneToOne_init) (defScope s_OneToOne_init) .none kV48 dc48 pm48 an48 cd48 ct48), sl48⟩) (c48 : PySem.W.codeIn K cd48 "OneToOne.__init__" = true) (k48 : PySem.W.keepIn K (.ref f48) = true)
    (a49 : PySem.W.findIn K (.ref CO) "__bool__" = some (some (.ref f49)))
    (i49 : PySem.W.isFn K (.ref f49) = true)
    (l49 : K.lookup f49 = some ⟨oc49, od49, .func (PySem.W.fnOf "__bool__" "OneToOne.__bool__" (defArgs s_OneToOne_bool) (defBody s_OneToOne_bool) (defScope s_OneToOne_bool) .none kV49 dc49 pm49 an49 cd49 ct49), sl49⟩) (c49 : PySem.W.codeIn K cd49 "OneToOne.__bool__" = true) (k49 : PySem.W.keepIn K (.ref f49) = true)
    (n49 : PySem.W.fnIn K f49 = true)
    (a50 : PySem.W.findIn K (.ref CR) "__init__" = some (some (.ref f50)))
    (i50 : PySem.W.isFn K (.ref f50) = true)
    (l50 : K.lookup f50 = some ⟨oc50, od50, .func (PySem.W.fnOf "__init__" "Merged.__init__" (defArgs s_Merged_init) (defBody s_Merged_init) (defScope s_Merged_init) .none kV50 dc50 pm50 an50 cd50 ct50), sl50⟩) (c50 : PySem.W.codeIn K cd50 "Merged.__init__" = true) (k50 : PySem.W.keepIn K (.ref f50) = true)
    (a51 : PySem.W.findIn K (.ref CR) "__bool__" = some (some (.ref f51)))
    (i51 : PySem.W.isFn K (.ref f51) = true)
    (l51 : K.lookup f51 = some ⟨oc51, od51, .func (PySem.W.fnOf "__bool__" "Merged.__bool__" (defArgs s_Merged_bool) (defBody s_Merged_bool) (defScope s_Merged_bool) .none kV51 dc51 pm51 an51 cd51 ct51), sl51⟩) (c51 : PySem.W.codeIn K cd51 "Merged.__bool__" = true) (k51 : PySem.W.keepIn K (.ref f51) = true)
    (n51 : PySem.W.fnIn K f51 = true)
    (a52 : PySem.W.findIn K (.ref CG) "__init__" = some (some (.ref f52)))
    (i52 : PySem.W.isFn K (.ref f52) = true)
    (l52 : K.lookup f52 = some ⟨oc52, od52, .func (PySem.W.fnOf "__init__" "Meetings.__init__" (defArgs s_Meetings_init) (defBody s_Meetings_init) (defScope s_Meetings_init) .none kV52 dc52 pm52 an52 cd52 ct52), sl52⟩) (c52 : PySem.W.codeIn K cd52 "Meetings.__init__" = true) (k52 : PySem.W.keepIn K (.ref f52) = true)
    (a53 : PySem.W.findIn K (.ref CM) "__init__" = some (some (.ref f53)))
    (i53 : PySem.W.isFn K (.ref f53) = true)
    (l53 : K.lookup f53 = some ⟨oc53, od53, .func (PySem.W.fnOf "__init__" "Misreading.__init__" (defArgs s_Misreading_init) (defBody s_Misreading_init) (defScope s_Misreading_init) (.ref TI) kV53 dc53 pm53 an53 cd53 ct53), sl53⟩) (c53 : PySem.W.codeIn K cd53 "Misreading.__init__" = true) (k53 : PySem.W.keepIn K (.ref f53) = true)
    (tI : K.lookup TI = some ⟨ocT, odT, .seq #[.str "" tkT] nT, slT⟩)
    (sC : PySem.W.findCls K (.ref CM) (.type "type") "same" = some (.get (.builtin "staticmethod.__get__") (.ref pS) .none (.ref CM)))
    (sR : PySem.W.recIn K pS "staticmethod" = some (.ref f54 :: restS))
    (l54 : K.lookup f54 = some ⟨oc54, od54, .func (PySem.W.fnOf "same" "Misreading.same" (defArgs s_Misreading_same) (defBody s_Misreading_same) (defScope s_Misreading_same) .none kV54 dc54 pm54 an54 cd54 ct54), sl54⟩) (c54 : PySem.W.codeIn K cd54 "Misreading.same" = true) (k54 : PySem.W.keepIn K (.ref f54) = true)
    (a55 : PySem.W.findIn K (.ref CJ) "__init__" = some (some (.ref f55)))
    (i55 : PySem.W.isFn K (.ref f55) = true)
    (l55 : K.lookup f55 = some ⟨oc55, od55, .func (PySem.W.fnOf "__init__" "Joined.__init__" (defArgs s_Joined_init) (defBody s_Joined_init) (defScope s_Joined_init) .none kV55 dc55 pm55 an55 cd55 ct55), sl55⟩) (c55 : PySem.W.codeIn K cd55 "Joined.__init__" = true) (k55 : PySem.W.keepIn K (.ref f55) = true)
    (rd : PySem.W.readsIn K CM (.type "type") = true)
    (ga : PySem.W.specialIn K (.ref CM) "__getattribute__" = some (some (.builtin "type.__getattribute__")))
    (pg : PySem.W.plainGet K CM Str.empty = true)
    (hd : PySem.W.hasDictIn K CM = true)
    (po : PySem.W.plainOver K CM = true)
    (sa : PySem.W.findIn K (.ref CM) "__setattr__" = some (some (.builtin "object.__setattr__")))
    (mk : PySem.W.makesIn K CM = true)
    (kc : PySem.W.keepIn K (.ref CM) = true)
    (sf : PySem.W.selfFirst K CM = true)
    (nL : PySem.W.findIn K (.ref CM) "_letters" = some none)
    (nI : PySem.W.findIn K (.ref CM) "_images" = some none)
    (nC : PySem.W.findIn K (.ref CM) "changed" = some none)
    (tA : PySem.W.findIn K (.ref CM) "__class__" = some (some (.builtin "object.__class__")))
    (tD : PySem.W.mroIn K CM (.type "object") = some true)
    (ne : PySem.W.findIn K (.ref CM) "__ne__" = some (some (.builtin "object.__ne__")))
    (tB : PySem.W.specialIn K (.builtin "object.__class__") "__get__" = some (some (.builtin "getset_descriptor.__get__")))
    (tC : PySem.W.takesIn K (.builtin "object.__class__") = some true)
    (rp : PySem.W.findIn K (.ref CM) "__rpow__" = some none)
    (h1 : PySem.W.findIn K (.type "int") "__pow__" = some poI)
    (h2 : PySem.W.findIn K (.type "int") "__rpow__" = some roI)
    (os_int : PySem.W.subIn K (.type "int") (.ref CM) = some false)
    (ow_int : PySem.W.notFirst K CM (.type "int") = true)
    (ow_str : PySem.W.notFirst K CM (.type "str") = true)
    (ow_dict : PySem.W.notFirst K CM (.type "dict") = true)
    (pgJ : PySem.W.plainGet K CJ Str.empty = true)
    (hdJ : PySem.W.hasDictIn K CJ = true)
    (poJ : PySem.W.plainOver K CJ = true)
    (saJ : PySem.W.findIn K (.ref CJ) "__setattr__" = some (some (.builtin "object.__setattr__")))
    (mkJ : PySem.W.makesIn K CJ = true)
    (kcJ : PySem.W.keepIn K (.ref CJ) = true)
    (nJ : PySem.W.findIn K (.ref CJ) "images" = some none)
    (jA : PySem.W.findIn K (.ref CJ) "__class__" = some (some (.builtin "object.__class__")))
    (jD : PySem.W.mroIn K CJ (.type "object") = some true)
    (pgO : PySem.W.plainGet K CO Str.empty = true)
    (hdO : PySem.W.hasDictIn K CO = true)
    (poO : PySem.W.plainOver K CO = true)
    (saO : PySem.W.findIn K (.ref CO) "__setattr__" = some (some (.builtin "object.__setattr__")))
    (mkO : PySem.W.makesIn K CO = true)
    (kcO : PySem.W.keepIn K (.ref CO) = true)
    (tAO : PySem.W.findIn K (.ref CO) "__class__" = some (some (.builtin "object.__class__")))
    (tDO : PySem.W.mroIn K CO (.type "object") = some true)
    (neO : PySem.W.findIn K (.ref CO) "__ne__" = some (some (.builtin "object.__ne__")))
    (pgR : PySem.W.plainGet K CR Str.empty = true)
    (hdR : PySem.W.hasDictIn K CR = true)
    (poR : PySem.W.plainOver K CR = true)
    (saR : PySem.W.findIn K (.ref CR) "__setattr__" = some (some (.builtin "object.__setattr__")))
    (mkR : PySem.W.makesIn K CR = true)
    (kcR : PySem.W.keepIn K (.ref CR) = true)
    (tAR : PySem.W.findIn K (.ref CR) "__class__" = some (some (.builtin "object.__class__")))
    (tDR : PySem.W.mroIn K CR (.type "object") = some true)
    (neR : PySem.W.findIn K (.ref CR) "__ne__" = some (some (.builtin "object.__ne__")))
    (pgG : PySem.W.plainGet K CG Str.empty = true)
    (hdG : PySem.W.hasDictIn K CG = true)
    (poG : PySem.W.plainOver K CG = true)
    (saG : PySem.W.findIn K (.ref CG) "__setattr__" = some (some (.builtin "object.__setattr__")))
    (mkG : PySem.W.makesIn K CG = true)
    (kcG : PySem.W.keepIn K (.ref CG) = true)
    (nO1 : PySem.W.findIn K (.ref CO) "leads" = some none)
    (nO2 : PySem.W.findIn K (.ref CO) "dead" = some none)
    (nR1 : PySem.W.findIn K (.ref CR) "one" = some none)
    (nR2 : PySem.W.findIn K (.ref CR) "other" = some none)
    (nG1 : PySem.W.findIn K (.ref CG) "moves" = some none)
    (nG2 : PySem.W.findIn K (.ref CG) "living" = some none)
    (nG3 : PySem.W.findIn K (.ref CG) "ways" = some none)
    (ok_int : PySem.W.kitOne K (.type "int") (.ref CM) = some false)
    (ok_str : PySem.W.kitOne K (.type "str") (.ref CM) = some false)
    (ok_dict : PySem.W.kitOne K (.type "dict") (.ref CM) = some false)
    (kdJ : PySem.W.kitOne K (.type "dict") (.ref CJ) = some false)
    (kMM : PySem.W.kitOne K (.ref CM) (.ref CM) = some true)
    (kMJ : PySem.W.kitOne K (.ref CM) (.ref CJ) = some false)
    (kMs : PySem.W.kitOne K (.ref CM) (.type "str") = some false)
    (kls : PySem.W.kitOne K (.type "list") (.type "str") = some false)
    (kJJ : PySem.W.kitOne K (.ref CJ) (.ref CJ) = some true)
    (kOO : PySem.W.kitOne K (.ref CO) (.ref CO) = some true)
    (kRR : PySem.W.kitOne K (.ref CR) (.ref CR) = some true)
    (kRO : PySem.W.kitOne K (.ref CR) (.ref CO) = some false)
    (g1 : PySem.W.nsIn K mainGlobals "LETTERS" = some (some (.str "abcdefghijklmnopqrstuvwxyz" tk1)))
    (g2 : PySem.W.nsIn K mainGlobals "LONGEST" = some (some (.int 2000 tk2)))
    (g3 : PySem.W.nsIn K mainGlobals "LONGEST_TOLD" = some (some (.int 4 tk3)))
    (g4 : PySem.W.nsIn K mainGlobals "MOST_LETTERS" = some (some (.int 12 tk4)))
    (g5 : PySem.W.nsIn K mainGlobals "LONGEST_JOINED" = some (some (.int 64 tk5)))
    (g6 : PySem.W.nsIn K mainGlobals "LONGEST_IMAGE" = some (some (.int 8 tk6)))
    (z_list : PySem.W.nsIn K mainGlobals "list" = some none)
    (z_int : PySem.W.nsIn K mainGlobals "int" = some none)
    (z_len : PySem.W.nsIn K mainGlobals "len" = some none)
    (z_abs : PySem.W.nsIn K mainGlobals "abs" = some none)
    (z_range : PySem.W.nsIn K mainGlobals "range" = some none)
    (z_dict : PySem.W.nsIn K mainGlobals "dict" = some none)
    (z_str : PySem.W.nsIn K mainGlobals "str" = some none)
    (z_sorted : PySem.W.nsIn K mainGlobals "sorted" = some none)
    (z_tuple : PySem.W.nsIn K mainGlobals "tuple" = some none)
    (z_isinstance : PySem.W.nsIn K mainGlobals "isinstance" = some none)
    (z_iter : PySem.W.nsIn K mainGlobals "iter" = some none)
    (z_enumerate : PySem.W.nsIn K mainGlobals "enumerate" = some none)
    (z_all : PySem.W.nsIn K mainGlobals "all" = some none)
    (z_bool : PySem.W.nsIn K mainGlobals "bool" = some none)
    (z_any : PySem.W.nsIn K mainGlobals "any" = some none)
    (z_zip : PySem.W.nsIn K mainGlobals "zip" = some none)
    (z_set : PySem.W.nsIn K mainGlobals "set" = some none)
    (z_repr : PySem.W.nsIn K mainGlobals "repr" = some none) :
    ∃ fd : FuncData, (∀ (s : Shared) (v : Value), BindsTo s fd ⟨[v], []⟩ [("_law_script", v)]) ∧ ∀ base : Heap, K.In base → base.Ns mainGlobals mg → FnOk P w K mg base CX0 11 fa fd ["_law_script"] (spLaw0 K) := by
  have e := hfa.symm.trans (PySem.W.mg_of X G a39)
  cases e
  have B : Blt mg := ⟨PySem.W.mg_none_of X G z_list, PySem.W.mg_none_of X G z_int, PySem.W.mg_none_of X G z_len, PySem.W.mg_none_of X G z_abs, PySem.W.mg_none_of X G z_range, PySem.W.mg_none_of X G z_dict, PySem.W.mg_none_of X G z_str, PySem.W.mg_none_of X G z_sorted, PySem.W.mg_none_of X G z_tuple⟩
  have T1 : Tx K mg CM CJ := ⟨B, PySem.W.mg_none_of X G z_isinstance, PySem.W.mg_none_of X G z_iter, ⟨_, PySem.W.mg_of X G g1, ⟨tk1, rfl⟩⟩, ⟨_, PySem.W.mg_of X G g2, ⟨tk2, rfl⟩⟩, ⟨_, PySem.W.mg_of X G g3, ⟨tk3, rfl⟩⟩, ⟨_, PySem.W.mg_of X G g4, ⟨tk4, rfl⟩⟩,
    ⟨_, PySem.W.mg_of X G aC, rfl⟩, ⟨_, PySem.W.mg_of X G aJ, rfl⟩, kdJ, ok_dict, ok_str, ok_int, ⟨pg, hd, po, sa⟩, nL, nI, nC, tA, tB, tC, tD, ne, ow_dict, ow_str, ow_int⟩
  have T2 : Ty K mg CM CJ := ⟨T1, kMM, kMJ, kMs, kls⟩
  have T : Tz K mg CM CJ := ⟨T2, PySem.W.mg_none_of X G z_enumerate, PySem.W.mg_none_of X G z_all, PySem.W.mg_none_of X G z_bool, ⟨_, PySem.W.mg_of X G g5, ⟨tk5, rfl⟩⟩, ⟨pgJ, hdJ, poJ, saJ⟩, nJ, jA, jD, ⟨rp, ⟨_, h1⟩, ⟨_, h2⟩, os_int⟩, kJJ⟩
  have Tp1 : Tp K mg CM CJ := ⟨T, PySem.W.mg_none_of X G z_any, ⟨_, PySem.W.mg_of X G g6, ⟨tk6, rfl⟩⟩⟩
  have Tm1 : Tm mg tS tE tW := ⟨B, ⟨_, PySem.W.mg_of X G uS, rfl⟩, ⟨_, PySem.W.mg_of X G uE, rfl⟩, ⟨_, PySem.W.mg_of X G uW, rfl⟩, PySem.W.mg_none_of X G z_any⟩
  have Tn1 : Tn K mg tS tE tW CG := ⟨Tm1, ⟨pgG, hdG, poG, saG⟩, nG1, nG2, nG3⟩
  have Tq1 : Tq mg := ⟨B, PySem.W.mg_none_of X G z_isinstance, PySem.W.mg_none_of X G z_repr, PySem.W.mg_none_of X G z_enumerate⟩
  have Te1 : Te mg := ⟨Tq1, PySem.W.mg_none_of X G z_bool, PySem.W.mg_none_of X G z_all, PySem.W.mg_none_of X G z_zip⟩
  have clM : Cls K CM := ⟨pg, hd, po, sa⟩
  have clO : Cls K CO := ⟨pgO, hdO, poO, saO⟩
  have clR : Cls K CR := ⟨pgR, hdR, poR, saR⟩
  have Tv1 : Tv K mg CO CR := ⟨Te1, clO, clR, nO1, nO2, nR1, nR2, ⟨_, PySem.W.mg_of X G aO, rfl⟩, ⟨_, PySem.W.mg_of X G aR, rfl⟩, fun _ _ _ _ hx => .base (.ins hx clO tAO tB tC tDO), fun _ _ _ _ hx => .base (.ins hx clR tAR tB tC tDR), kOO, kRR⟩
  have Ts1 : Ts K mg CM CJ CO CR := ⟨Tv1, Tp1, kRO⟩
  have Tq21 : Tq2 K mg CM CJ := ⟨T, PySem.W.mg_none_of X G z_zip⟩
  have hSD : GV mg "SIDES" (.ref tD0) := ⟨_, PySem.W.mg_of X G uD, rfl⟩
  have F0 := fun_mk (st := s_copied) l0 c0 k0
  have b0 := F0.binds (ps := ["value"]) fun _ _ _ _ _ _ us hl => match us, hl with | [_], _ => rfl
  have F1 := fun_mk (st := s_is_letter) l1 c1 k1
  have b1 := F1.binds (ps := ["value"]) fun _ _ _ _ _ _ us hl => match us, hl with | [_], _ => rfl
  have F2 := fun_mk (st := s_all_letters) l2 c2 k2
  have b2 := F2.binds (ps := ["string"]) fun _ _ _ _ _ _ us hl => match us, hl with | [_], _ => rfl
  have F3 := fun_mk (st := s_is_text) l3 c3 k3
  have b3 := F3.binds (ps := ["value"]) fun _ _ _ _ _ _ us hl => match us, hl with | [_], _ => rfl
  have F4 := fun_mk (st := s_is_image) l4 c4 k4
  have b4 := F4.binds (ps := ["value"]) fun _ _ _ _ _ _ us hl => match us, hl with | [_], _ => rfl
  have F5 := fun_mk (st := s_told_images) l5 c5 k5
  have b5 := F5.binds (ps := ["images", "keeps"]) fun _ _ _ _ _ _ us hl => match us, hl with | [_, _], _ => rfl
  have F6 := fun_mk (st := s_check_other) l6 c6 k6
  have b6 := F6.binds (ps := ["other"]) fun _ _ _ _ _ _ us hl => match us, hl with | [_], _ => rfl
  have F7 := fun_mk (st := s_check_text) l7 c7 k7
  have b7 := F7.binds (ps := ["value"]) fun _ _ _ _ _ _ us hl => match us, hl with | [_], _ => rfl
  have F8 := fun_mk (st := s_other_side) l8 c8 k8
  have b8 := F8.binds (ps := ["side"]) fun _ _ _ _ _ _ us hl => match us, hl with | [_], _ => rfl
  have F9 := fun_mk (st := s_place_behind) l9 c9 k9
  have b9 := F9.binds (ps := ["ahead", "rest", "word"]) fun _ _ _ _ _ _ us hl => match us, hl with | [_, _, _], _ => rfl
  have F10 := fun_mk (st := s_moves_from) l10 c10 k10
  have b10 := F10.binds (ps := ["first", "second", "place"]) fun _ _ _ _ _ _ us hl => match us, hl with | [_, _, _], _ => rfl
  have F11 := fun_mk (st := s_with_label) l11 c11 k11
  have b11 := F11.binds (ps := ["way", "taker", "label"]) fun _ _ _ _ _ _ us hl => match us, hl with | [_, _, _], _ => rfl
  have F12 := fun_mk (st := s_lead_of) l12 c12 k12
  have b12 := F12.binds (ps := ["way"]) fun _ _ _ _ _ _ us hl => match us, hl with | [_], _ => rfl
  have F13 := fun_mk (st := s_all_moves) l13 c13 k13
  have b13 := F13.binds (ps := ["first", "second"]) fun _ _ _ _ _ _ us hl => match us, hl with | [_, _], _ => rfl
  have F14 := fun_mk (st := s_all_living) l14 c14 k14
  have b14 := F14.binds (ps := ["moves"]) fun _ _ _ _ _ _ us hl => match us, hl with | [_], _ => rfl
  have F15 := fun_mk (st := s_ways_from) l15 c15 k15
  have b15 := F15.binds (ps := ["moves", "place"]) fun _ _ _ _ _ _ us hl => match us, hl with | [_, _], _ => rfl
  have F16 := fun_mk (st := s_ended) l16 c16 k16
  have b16 := F16.binds (ps := ["meetings", "way", "place"]) fun _ _ _ _ _ _ us hl => match us, hl with | [_, _, _], _ => rfl
  have F17 := fun_mk (st := s_unlike_meeting) l17 c17 k17
  have b17 := F17.binds (ps := ["meetings"]) fun _ _ _ _ _ _ us hl => match us, hl with | [_], _ => rfl
  have F18 := fun_mk (st := s_rests_of) l18 c18 k18
  have b18 := F18.binds (ps := ["meetings", "living"]) fun _ _ _ _ _ _ us hl => match us, hl with | [_, _], _ => rfl
  have F19 := fun_mk (st := s_leads_of) l19 c19 k19
  have b19 := F19.binds (ps := ["meetings"]) fun _ _ _ _ _ _ us hl => match us, hl with | [_], _ => rfl
  have F20 := fun_mk (st := s_check_misreading) l20 c20 k20
  have b20 := F20.binds (ps := ["value"]) fun _ _ _ _ _ _ us hl => match us, hl with | [_], _ => rfl
  have F21 := fun_mk (st := s_check_length) l21 c21 k21
  have b21 := F21.binds (ps := ["misreading"]) fun _ _ _ _ _ _ us hl => match us, hl with | [_], _ => rfl
  have F22 := fun_mk (st := s_check_images) l22 c22 k22
  have b22 := F22.binds (ps := ["misreading"]) fun _ _ _ _ _ _ us hl => match us, hl with | [_], _ => rfl
  have F23 := fun_mk (st := s_image_pairs) l23 c23 k23
  have b23 := F23.binds (ps := ["misreading"]) fun _ _ _ _ _ _ us hl => match us, hl with | [_], _ => rfl
  have F24 := fun_mk (st := s_merging) l24 c24 k24
  have b24 := F24.binds (ps := ["misreading"]) fun _ _ _ _ _ _ us hl => match us, hl with | [_], _ => rfl
  have F25 := fun_mk (st := s_right_leads) l25 c25 k25
  have b25 := F25.binds (ps := ["first", "second", "leads", "dead"]) fun _ _ _ _ _ _ us hl => match us, hl with | [_, _, _, _], _ => rfl
  have F26 := fun_mk (st := s_can_happen) l26 c26 k26
  have b26 := F26.binds (ps := ["misreading", "value"]) fun _ _ _ _ _ _ us hl => match us, hl with | [_, _], _ => rfl
  have F27 := fun_mk (st := s_merges) l27 c27 k27
  have b27 := F27.binds (ps := ["misreading", "one", "other"]) fun _ _ _ _ _ _ us hl => match us, hl with | [_, _, _], _ => rfl
  have F28 := fun_mk (st := s_shows_merging) l28 c28 k28
  have b28 := F28.binds (ps := ["misreading", "value"]) fun _ _ _ _ _ _ us hl => match us, hl with | [_, _], _ => rfl
  have F29 := fun_mk (st := s_pen) l29 c29 k29
  have b29 := F29.binds (ps := ["_law_script"]) fun _ _ _ _ _ _ us hl => match us, hl with | [_], _ => rfl
  have F30 := fun_mk (st := s_draw) l30 c30 k30
  have b30 := F30.binds (ps := ["_law_pen_here", "_law_many"]) fun _ _ _ _ _ _ us hl => match us, hl with | [_, _], _ => rfl
  have F31 := fun_mk (st := s_pick) l31 c31 k31
  have b31 := F31.binds (ps := ["_law_pen_here", "_law_some"]) fun _ _ _ _ _ _ us hl => match us, hl with | [_, _], _ => rfl
  have F32 := fun_mk (st := s_some_letters) l32 c32 k32
  have b32 := F32.binds (ps := ["_law_pen_here", "_law_many"]) fun _ _ _ _ _ _ us hl => match us, hl with | [_, _], _ => rfl
  have F33 := fun_mk (st := s_escaped) l33 c33 k33
  have b33 := F33.binds (ps := ["_law_pen_here", "_law_some"]) fun _ _ _ _ _ _ us hl => match us, hl with | [_, _], _ => rfl
  have F34 := fun_mk (st := s_any_image) l34 c34 k34
  have b34 := F34.binds (ps := ["_law_pen_here", "_law_some"]) fun _ _ _ _ _ _ us hl => match us, hl with | [_, _], _ => rfl
  have F35 := fun_mk (st := s_table) l35 c35 k35
  have b35 := F35.binds (ps := ["_law_pen_here", "_law_some"]) fun _ _ _ _ _ _ us hl => match us, hl with | [_, _], _ => rfl
  have F36 := fun_mk (st := s__law_named) l36 c36 k36
  have b36 := F36.binds (ps := ["_law_table_here", "_law_names"]) fun _ _ _ _ _ _ us hl => match us, hl with | [_, _], _ => rfl
  have F37 := fun_mk (st := s__law_alike_right) l37 c37 k37
  have b37 := F37.binds (ps := ["_law_made", "_law_table_here", "_law_names"]) fun _ _ _ _ _ _ us hl => match us, hl with | [_, _, _], _ => rfl
  have F38 := fun_mk (st := s__law_rows_right) l38 c38 k38
  have b38 := F38.binds (ps := ["_law_one", "_law_two"]) fun _ _ _ _ _ _ us hl => match us, hl with | [_, _], _ => rfl
  have F39 := fun_mk (st := s_law) l39 c39 k39
  have F40 := fun_mk (st := s_Misreading_first_barred) l40 c40 k40
  have b40 := F40.binds (ps := ["self", "text"]) fun _ _ _ _ _ _ us hl => match us, hl with | [_, _], _ => rfl
  have F41 := fun_mk (st := s_Misreading_image) l41 c41 k41
  have b41 := F41.binds (ps := ["self", "text"]) fun _ _ _ _ _ _ us hl => match us, hl with | [_, _], _ => rfl
  have F42 := fun_mk (st := s_Misreading_rshift) l42 c42 k42
  have b42 := F42.binds (ps := ["self", "other"]) fun _ _ _ _ _ _ us hl => match us, hl with | [_, _], _ => rfl
  have F43 := fun_mk (st := s_Misreading_or) l43 c43 k43
  have b43 := F43.binds (ps := ["self", "other"]) fun _ _ _ _ _ _ us hl => match us, hl with | [_, _], _ => rfl
  have F44 := fun_mk (st := s_Misreading_only) l44 c44 k44
  have b44 := F44.binds (ps := ["self", "letters"]) fun _ _ _ _ _ _ us hl => match us, hl with | [_, _], _ => rfl
  have F45 := fun_mk (st := s_Misreading_contains) l45 c45 k45
  have b45 := F45.binds (ps := ["self", "x"]) fun _ _ _ _ _ _ us hl => match us, hl with | [_, _], _ => rfl
  have F46 := fun_mk (st := s_Misreading_getitem) l46 c46 k46
  have b46 := F46.binds (ps := ["self", "at"]) fun _ _ _ _ _ _ us hl => match us, hl with | [_, _], _ => rfl
  have F47 := fun_mk (st := s_Misreading_iter) l47 c47 k47
  have b47 := F47.binds (ps := ["self"]) fun _ _ _ _ _ _ us hl => match us, hl with | [_], _ => rfl
  have F48 := fun_mk (st := s_OneToOne_init) l48 c48 k48
  have b48 := F48.binds (ps := ["self", "leads", "dead"]) fun _ _ _ _ _ _ us hl => match us, hl with | [_, _, _], _ => rfl
  have F49 := fun_mk (st := s_OneToOne_bool) l49 c49 k49
  have b49 := F49.binds (ps := ["self"]) fun _ _ _ _ _ _ us hl => match us, hl with | [_], _ => rfl
  have F50 := fun_mk (st := s_Merged_init) l50 c50 k50
  have b50 := F50.binds (ps := ["self", "one", "other"]) fun _ _ _ _ _ _ us hl => match us, hl with | [_, _, _], _ => rfl
  have F51 := fun_mk (st := s_Merged_bool) l51 c51 k51
  have b51 := F51.binds (ps := ["self"]) fun _ _ _ _ _ _ us hl => match us, hl with | [_], _ => rfl
  have F52 := fun_mk (st := s_Meetings_init) l52 c52 k52
  have b52 := F52.binds (ps := ["self", "first", "second"]) fun _ _ _ _ _ _ us hl => match us, hl with | [_, _, _], _ => rfl
  have ee : ("" : Str) = Sx [] := by decide +kernel
  have F53 : FunD K "__init__" "Misreading.__init__" (defArgs s_Misreading_init) (defBody s_Misreading_init) (defScope s_Misreading_init) [.str (Sx [])] [] f53 _ := ⟨⟨oc53, od53, .ref TI, kV53, dc53, pm53, an53, cd53, ct53, sl53, rfl, l53, c53, .inr ⟨(fun z => nomatch z), TI, _, [.str "" tkT], nT, rfl, tI, rfl, .cons ⟨tkT, by rw [← ee]⟩ .nil⟩, .inl rfl⟩, k53⟩
  have F54 := fun_mk (st := s_Misreading_same) l54 c54 k54
  have b54 := F54.binds (ps := ["letters"]) fun _ _ _ _ _ _ us hl => match us, hl with | [_], _ => rfl
  have F55 := fun_mk (st := s_Joined_init) l55 c55 k55
  have b55 := F55.binds (ps := ["self", "images"]) fun _ _ _ _ _ _ us hl => match us, hl with | [_, _], _ => rfl
  have kb : KBinds K (PySem.W.fnOf "same" "Misreading.same" (defArgs s_Misreading_same) (defBody s_Misreading_same) (defScope s_Misreading_same) .none kV54 dc54 pm54 an54 cd54 ct54) ["letters"] ["letters"] (fun us ws => us ++ ws) (fun vs zs => vs ++ zs) := ⟨fun s us ws _ hl => match us, ws, hl with
    | [], [_], _ => .of_eq rfl
    | [_], [], _ => .of_eq rfl, fun r1 r2 => r1.append r2⟩
  refine ⟨PySem.W.fnOf "law" "law" (defArgs s_law) (defBody s_law) (defScope s_law) .none kV39 dc39 pm39 an39 cd39 ct39, fun s v => .of_eq rfl, fun base _ _ => ?_⟩
  have D_draw : Df P w K mg base 1 "_law_draw" spDraw := ⟨⟨f30, _, _, ok_draw (k := 0) F30 B, PySem.W.mg_of X G a30, k30, b30⟩⟩
  have D_pick : Df P w K mg base 2 "_law_pick" (spPick K) := ⟨⟨f31, _, _, ok_pick F31 B D_draw, PySem.W.mg_of X G a31, k31, b31⟩⟩
  have D_some_letters : Df P w K mg base 2 "_law_some_letters" spLetters := ⟨⟨f32, _, _, ok_some_letters F32 B D_draw, PySem.W.mg_of X G a32, k32, b32⟩⟩
  have D_any_image : Df P w K mg base 3 "_law_any_image" spImage := ⟨⟨f34, _, _, ok_any_image F34 B D_pick, PySem.W.mg_of X G a34, k34, b34⟩⟩
  have D_escaped : Df P w K mg base 2 "_law_escaped" (spTab 52) := ⟨⟨f33, _, _, ok_escaped F33 B D_draw, PySem.W.mg_of X G a33, k33, b33⟩⟩
  have D_table : Df P w K mg base 4 "_law_table" (spTab 260) := ⟨⟨f35, _, _, ok_table F35 B D_draw D_escaped D_any_image, PySem.W.mg_of X G a35, k35, b35⟩⟩
  have D_pen : Df P w K mg base 1 "_law_pen" (spPen K) := ⟨⟨f29, _, _, ok_pen F29 B, PySem.W.mg_of X G a29, k29, b29⟩⟩
  have D_is_letter : Df P w K mg base 1 "is_letter" (spIsLetter K) := ⟨⟨f1, _, _, ok_is_letter F1 T1, PySem.W.mg_of X G a1, k1, b1⟩⟩
  have D_all_letters : Df P w K mg base 1 "all_letters" spAllLetters := ⟨⟨f2, _, _, ok_all_letters F2 T1, PySem.W.mg_of X G a2, k2, b2⟩⟩
  have D_is_text : Df P w K mg base 2 "is_text" spIsText := ⟨⟨f3, _, _, ok_is_text F3 T1 D_all_letters, PySem.W.mg_of X G a3, k3, b3⟩⟩
  have D_is_image : Df P w K mg base 3 "is_image" spIsImage := ⟨⟨f4, _, _, ok_is_image F4 T1 D_is_text, PySem.W.mg_of X G a4, k4, b4⟩⟩
  have D_told_images : Df P w K mg base 4 "told_images" spTold := ⟨⟨f5, _, _, ok_told_images F5 T1 D_is_letter D_is_text D_is_image, PySem.W.mg_of X G a5, k5, b5⟩⟩
  have D_check_text : Df P w K mg base 3 "check_text" spChkT := ⟨⟨f7, _, _, ok_check_text F7 T1 D_is_text, PySem.W.mg_of X G a7, k7, b7⟩⟩
  have D_check_other : Df P w K mg base 1 "check_other" (spChkO CM) := ⟨⟨f6, _, _, ok_check_other F6 T2, PySem.W.mg_of X G a6, k6, b6⟩⟩
  have D_cop0 : Df P w K mg base 0 "copied" (fun _ _ _ _ => False) := ⟨⟨f0, _, _, ⟨fun _ _ _ _ z => z.elim, fun _ _ _ _ _ _ _ _ _ _ _ _ _ z => z.elim⟩, PySem.W.mg_of X G a0, k0, b0⟩⟩
  have D_copied : Df P w K mg base 1 "copied" (spCopied K) := ⟨⟨f0, _, _, ok_copied F0 Tq1 D_cop0, PySem.W.mg_of X G a0, k0, b0⟩⟩
  have D_copyW : Df P w K mg base 2 "copied" spCopyW := ⟨⟨f0, _, _, ok_copyW F0 Tq1 D_copied, PySem.W.mg_of X G a0, k0, b0⟩⟩
  have D_copT0 : Df P w K mg base 1 "copied" (spCopT 0) := ⟨⟨f0, _, _, ok_copT (n := 0) (k := 0) F0 Te1 D_cop0, PySem.W.mg_of X G a0, k0, b0⟩⟩
  have D_copT1 : Df P w K mg base 2 "copied" (spCopT 1) := ⟨⟨f0, _, _, ok_copT (n := 1) (k := 1) F0 Te1 D_copT0, PySem.W.mg_of X G a0, k0, b0⟩⟩
  have D_copT2 : Df P w K mg base 3 "copied" (spCopT 2) := ⟨⟨f0, _, _, ok_copT (n := 2) (k := 2) F0 Te1 D_copT1, PySem.W.mg_of X G a0, k0, b0⟩⟩
  have D_mk : Mkr P w K mg base CM := mkr_of F53 T1 D_told_images ⟨mk, a53, i53, kc⟩ (PySem.W.mg_of X G aC)
  have D_mkMJ : MkrM P w K mg base CM CJ := mkrM_of F53 T D_told_images ⟨mk, a53, i53, kc⟩ (PySem.W.mg_of X G aC)
  have D_mkJ : MkrJ P w K mg base CJ := ⟨f55, _, ⟨mkJ, a55, i55, kcJ⟩, ok_Joined F55 T, PySem.W.mg_of X G aJ, b55⟩
  have D_same : Sms P w K mg base CM := ⟨pS, f54, _, .type "type", ⟨rd, ga⟩, ⟨sC, ⟨restS, sR⟩, k54⟩, ok_same F54 T2 D_mk, b54, kb⟩
  have D_first_barred : Mf P w K mg base 1 CM "first_barred" (spFB CM) := ⟨⟨f40, _, _, ok_first_barred F40 T, ⟨a40, i40, k40⟩, ⟨a40, i40⟩, n40, b40⟩⟩
  have D_image : Mf P w K mg base 1 CM "image" (spImg CM) := ⟨⟨f41, _, _, ok_image F41 T, ⟨a41, i41, k41⟩, ⟨a41, i41⟩, n41, b41⟩⟩
  have D_get : Mf P w K mg base 2 CM "__getitem__" (spGet CM) := ⟨⟨f46, _, _, ok_get F46 T1 D_is_letter, ⟨a46, i46, k46⟩, ⟨a46, i46⟩, n46, b46⟩⟩
  have D_iter : ItM P w K mg base 1 CM (snIter CM) := ⟨f47, _, _, ok_iter F47 T1, ⟨a47, i47⟩, b47⟩
  have D_rshift : Bo P w K mg base 7 CM "__rshift__" (spRsh CM) := ⟨⟨f42, _, _, ok_rshift F42 T D_check_other D_first_barred D_image D_mkJ D_mkMJ, b42, a42, i42, sf⟩⟩
  have D_in : Mf P w K mg base 2 CM "__contains__" (spIn K CM) := ⟨⟨f45, _, _, ok_in F45 T1 D_is_letter, ⟨a45, i45, k45⟩, ⟨a45, i45⟩, n45, b45⟩⟩
  have D_or : Bo P w K mg base 7 CM "__or__" (spOr CM) := ⟨⟨f43, _, _, ok_or F43 T D_check_other D_in D_get D_iter D_mkJ D_mkMJ, b43, a43, i43, sf⟩⟩
  have D_only : Mf P w K mg base 7 CM "only" (spOnly CM) := ⟨⟨f44, _, _, ok_only F44 T D_check_text D_mkJ D_mkMJ, ⟨a44, i44, k44⟩, ⟨a44, i44⟩, n44, b44⟩⟩
  have D_other_side : Df P w K mg base 1 "other_side" spOther := ⟨⟨f8, _, _, ok_other F8 Tm1, PySem.W.mg_of X G a8, k8, b8⟩⟩
  have D_place_behind : Df P w K mg base 2 "place_behind" (spBehind K tS tE tW) := ⟨⟨f9, _, _, ok_behind F9 Tm1 D_other_side, PySem.W.mg_of X G a9, k9, b9⟩⟩
  have D_with_label : Df P w K mg base 1 "with_label" spLabel := ⟨⟨f11, _, _, ok_with_label F11 Tm1, PySem.W.mg_of X G a11, k11, b11⟩⟩
  have D_lead_of : Df P w K mg base 1 "lead_of" (spLead K) := ⟨⟨f12, _, _, ok_lead_of F12 Tm1, PySem.W.mg_of X G a12, k12, b12⟩⟩
  have D_moves_from : Df P w K mg base 3 "moves_from" (spMoves K tS tE tW) := ⟨⟨f10, _, _, ok_moves F10 Tm1 D_other_side D_place_behind, PySem.W.mg_of X G a10, k10, b10⟩⟩
  have D_all_moves : Df P w K mg base 4 "all_moves" (spAll K w tS tE tW) := ⟨⟨f13, _, _, ok_all_moves F13 Tm1 D_moves_from, PySem.W.mg_of X G a13, k13, b13⟩⟩
  have D_all_living : Df P w K mg base 1 "all_living" (spLiving K w tS tE tW) := ⟨⟨f14, _, _, ok_all_living F14 Tm1, PySem.W.mg_of X G a14, k14, b14⟩⟩
  have D_ways_from : Df P w K mg base 2 "ways_from" (spWays K w) := ⟨⟨f15, _, _, ok_ways_from F15 Tm1 D_with_label, PySem.W.mg_of X G a15, k15, b15⟩⟩
  have D_Meetings : MkC P w K mg base 5 CG "Meetings" (spMee K w tS tE tW CG) := ⟨f52, _, _, ⟨mkG, a52, i52, kcG⟩, ok_meet F52 Tn1 D_all_moves D_all_living D_ways_from, PySem.W.mg_of X G aG, b52⟩
  have D_OneToOne : MkC P w K mg base 4 CO "OneToOne" (spOneI CO) := ⟨f48, _, _, ⟨mkO, a48, i48, kcO⟩, ok_oneI F48 Tv1 D_copT2, PySem.W.mg_of X G aO, b48⟩
  have D_Merged : MkC P w K mg base 4 CR "Merged" (spMrgI CR) := ⟨f50, _, _, ⟨mkR, a50, i50, kcR⟩, ok_mrgI F50 Tv1 D_copyW, PySem.W.mg_of X G aR, b50⟩
  have D_ended : Df P w K mg base 3 "ended" (spEnded K w tS tE tW CG) := ⟨⟨f16, _, _, ok_ended F16 Tn1 D_ways_from, PySem.W.mg_of X G a16, k16, b16⟩⟩
  have D_unlike_meeting : Df P w K mg base 4 "unlike_meeting" (spUnlike K w tS tE tW CG) := ⟨⟨f17, _, _, ok_unlike F17 Tn1 D_with_label D_lead_of D_ended, PySem.W.mg_of X G a17, k17, b17⟩⟩
  have D_rests_of : Df P w K mg base 1 "rests_of" (spRests K w tD0 CG) := ⟨⟨f18, _, _, ok_rests F18 Tn1 hSD, PySem.W.mg_of X G a18, k18, b18⟩⟩
  have D_leads_of : Df P w K mg base 2 "leads_of" (spLeads K w tD0 CG) := ⟨⟨f19, _, _, ok_leads F19 Tn1 D_rests_of D_lead_of, PySem.W.mg_of X G a19, k19, b19⟩⟩
  have D_check_misreading : Df P w K mg base 1 "check_misreading" (spChkM CM) := ⟨⟨f20, _, _, ok_check_misreading F20 Tp1, PySem.W.mg_of X G a20, k20, b20⟩⟩
  have D_check_length : Df P w K mg base 4 "check_length" (spChkL CM) := ⟨⟨f21, _, _, ok_check_length F21 Tp1 D_iter D_get, PySem.W.mg_of X G a21, k21, b21⟩⟩
  have D_check_images : Df P w K mg base 5 "check_images" (spChkL CM) := ⟨⟨f22, _, _, ok_check_images F22 Tp1 D_check_misreading D_check_length, PySem.W.mg_of X G a22, k22, b22⟩⟩
  have D_image_pairs : Df P w K mg base 4 "image_pairs" (spPairs CM) := ⟨⟨f23, _, _, ok_image_pairs F23 Tp1 D_iter D_get, PySem.W.mg_of X G a23, k23, b23⟩⟩
  have D_merging : Df P w K mg base 7 "merging" (spMerging K tS tE tW tD0 CM CO CR) := ⟨⟨f24, _, _, ok_merging F24 Tp1 D_check_images D_image_pairs D_Meetings D_unlike_meeting D_leads_of D_rests_of D_OneToOne D_Merged, PySem.W.mg_of X G a24, k24, b24⟩⟩
  have D_boolO : Mf P w K mg base 1 CO "__bool__" (spTrue true) := ⟨⟨f49, _, _, ok_oneB F49, ⟨a49, i49, k49⟩, ⟨a49, i49⟩, n49, b49⟩⟩
  have D_boolR : Mf P w K mg base 1 CR "__bool__" (spTrue false) := ⟨⟨f51, _, _, ok_mrgB F51, ⟨a51, i51, k51⟩, ⟨a51, i51⟩, n51, b51⟩⟩
  have D_right_leads : Df P w K mg base 0 "right_leads" (fun _ _ _ _ => False) := ⟨⟨f25, _, _, ⟨fun _ _ _ _ z => z.elim, fun _ _ _ _ _ _ _ _ _ _ _ _ _ z => z.elim⟩, PySem.W.mg_of X G a25, k25, b25⟩⟩
  have D_can_happen : Df P w K mg base 3 "can_happen" (spCan CM) := ⟨⟨f26, _, _, ok_can F26 T D_is_text D_first_barred, PySem.W.mg_of X G a26, k26, b26⟩⟩
  have D_merges : Df P w K mg base 4 "merges" (spMerges CM) := ⟨⟨f27, _, _, ok_merges F27 T D_can_happen D_image, PySem.W.mg_of X G a27, k27, b27⟩⟩
  have D_shows_merging : Df P w K mg base 6 "shows_merging" (spShowsM CM CR) := ⟨⟨f28, _, _, ok_showsM F28 Ts1 D_check_images D_image_pairs D_right_leads D_merges, PySem.W.mg_of X G a28, k28, b28⟩⟩
  have D_named : Df P w K mg base 1 "_law_named" spNamed := ⟨⟨f36, _, _, ok_named F36 T, PySem.W.mg_of X G a36, k36, b36⟩⟩
  have D_alike_right : Df P w K mg base 9 "_law_alike_right" (spAlikeR K tS tE tW tD0 CM) := ⟨⟨f37, _, _, ok_alikeR F37 Ts1 D_mk D_merging D_named D_shows_merging D_Merged D_boolO D_boolR, PySem.W.mg_of X G a37, k37, b37⟩⟩
  have D_rows_right : Df P w K mg base 9 "_law_rows_right" (spRowsR K tS tE tW tD0 CM) := ⟨⟨f38, _, _, ok_rowsR F38 T Ts1 D_rshift D_only D_iter D_get D_merging D_shows_merging D_Merged D_boolO D_boolR, PySem.W.mg_of X G a38, k38, b38⟩⟩
  refine (ok_law F39 Tq21 Ts1 D_pen D_draw D_some_letters D_table D_mk D_alike_right D_rows_right D_merging D_only D_or D_rshift D_same D_boolO D_boolR).imp fun vs H Q E z => ?_
  obtain ⟨a, ns, e1, e2, e3, e4⟩ := z
  refine ⟨a, ns, e1, e2, e3, ⟨⟨sq_known vS H, sq_known vE H, ?_⟩, sq_known vD H⟩, e4⟩
  rw [← ee]
  exact sq_known vW H
theorem walk {l : PySem.W.OpenLaw} {q : Program} {loose : List Str} {XP : (Str → Option Value) → Heap → Prop} {YP : World → Heap → Prop} {d : DefRec} {K : Params → PySem.W.Frag} (hn : l.most = some 63) (hdf : d.params.defaults = [])
    (hY : ∀ (w : World) (h : Heap), YP w h → (K w.params).In h)
    (F : ∀ (w : World) (mg : Str → Option Value) (fa : Addr) (h : Heap), (K w.params).In h → h.Ns mainGlobals mg → mg d.name = some (.ref fa) →
      ∃ fd : FuncData, (∀ (s : Shared) (u : Value), BindsTo s fd ⟨[u], []⟩ [("_law_script", u)]) ∧ ∀ base : Heap, (K w.params).In base → base.Ns mainGlobals mg → FnOk l.prog w (K w.params) mg base CX0 11 fa fd ["_law_script"] (spLaw0 (K w.params))) :
    PySem.W.WalkO q loose XP YP l.row.toRowW d [] (fun f vs => PySem.call f vs) :=
  L2.walk_of (n := 63) (k := 11) (x := "_law_script") (CX := fun _ => CX0) (sp := fun w => spLaw0 (K w.params)) hn (by decide) hdf ⟨rfl, by decide, by decide⟩ hY F (fun _ _ a ns hl _ hS => ⟨a, ns, rfl, hS, hl, fun _ => rfl⟩) fun _ _ _ _ _ z => z
end V8
set_option Elab.async false
set_option linter.all false
set_option maxRecDepth 100000
open PySem PySem.W PyProof.Rows
theorem PySem.W.Fast.te16646274424687563337 : True := trivial
theorem PySem.W.Fast.tw9602325723908123176 : True := trivial
set_option maxHeartbeats 0 in
theorem PySem.Challenge.cw_blindrepair_k21_whole_one_to_one_kept_holds : PySem.Challenge.rw_blindrepair_k21_whole_one_to_one_kept.Holds := by
  w_on; o_law; k_head; (case hw => w_witness2)
  k_fill
  refine V8.walk (l := PySem.Challenge.rw_blindrepair_k21_whole_one_to_one_kept) rfl rfl (fun w h Y => PySem.W.kIn_of Y) ?F
  case F =>
    intro w mg fa h KX G hmg
    refine' V8.all_mk KX G hmg ?aC ?aJ ?aG ?aO ?aR ?uS ?vS ?uE ?vE ?uW ?vW ?uD ?vD ?a0 ?l0 ?c0 ?k0 ?a1 ?l1 ?c1 ?k1 ?a2 ?l2 ?c2 ?k2 ?a3 ?l3 ?c3 ?k3 ?a4 ?l4 ?c4 ?k4 ?a5 ?l5 ?c5 ?k5 ?a6 ?l6 ?c6 ?k6 ?a7 ?l7 ?c7 ?k7 ?a8 ?l8 ?c8 ?k8 ?a9 ?l9 ?c9 ?k9 ?a10 ?l10 ?c10 ?k10 ?a11 ?l11 ?c11 ?k11 ?a12 ?l12 ?c12 ?k12 ?a13 ?l13 ?c13 ?k13 ?a14 ?l14 ?c14 ?k14 ?a15 ?l15 ?c15 ?k15 ?a16 ?l16 ?c16 ?k16 ?a17 ?l17 ?c17 ?k17 ?a18 ?l18 ?c18 ?k18 ?a19 ?l19 ?c19 ?k19 ?a20 ?l20 ?c20 ?k20 ?a21 ?l21 ?c21 ?k21 ?a22 ?l22 ?c22 ?k22 ?a23 ?l23 ?c23 ?k23 ?a24 ?l24 ?c24 ?k24 ?a25 ?l25 ?c25 ?k25 ?a26 ?l26 ?c26 ?k26 ?a27 ?l27 ?c27 ?k27 ?a28 ?l28 ?c28 ?k28 ?a29 ?l29 ?c29 ?k29 ?a30 ?l30 ?c30 ?k30 ?a31 ?l31 ?c31 ?k31 ?a32 ?l32 ?c32 ?k32 ?a33 ?l33 ?c33 ?k33 ?a34 ?l34 ?c34 ?k34 ?a35 ?l35 ?c35 ?k35 ?a36 ?l36 ?c36 ?k36 ?a37 ?l37 ?c37 ?k37 ?a38 ?l38 ?c38 ?k38 ?a39 ?l39 ?c39 ?k39 ?a40 ?i40 ?l40 ?c40 ?k40 ?n40 ?a41 ?i41 ?l41 ?c41 ?k41 ?n41 ?a42 ?i42 ?l42 ?c42 ?k42 ?n42 ?a43 ?i43 ?l43 ?c43 ?k43 ?n43 ?a44 ?i44 ?l44 ?c44 ?k44 ?n44 ?a45 ?i45 ?l45 ?c45 ?k45 ?n45 ?a46 ?i46 ?l46 ?c46 ?k46 ?n46 ?a47 ?i47 ?l47 ?c47 ?k47 ?n47 ?a48 ?i48 ?l48 ?c48 ?k48 ?a49 ?i49 ?l49 ?c49 ?k49 ?n49 ?a50 ?i50 ?l50 ?c50 ?k50 ?a51 ?i51 ?l51 ?c51 ?k51 ?n51 ?a52 ?i52 ?l52 ?c52 ?k52 ?a53 ?i53 ?l53 ?c53 ?k53 ?tI ?sC ?sR ?l54 ?c54 ?k54 ?a55 ?i55 ?l55 ?c55 ?k55 ?rd ?ga ?pg ?hd ?po ?sa ?mk ?kc ?sf ?nL ?nI ?nC ?tA ?tD ?ne ?tB ?tC ?rp ?h1 ?h2 ?os_int ?ow_int ?ow_str ?ow_dict ?pgJ ?hdJ ?poJ ?saJ ?mkJ ?kcJ ?nJ ?jA ?jD ?pgO ?hdO ?poO ?saO ?mkO ?kcO ?tAO ?tDO ?neO ?pgR ?hdR ?poR ?saR ?mkR ?kcR ?tAR ?tDR ?neR ?pgG ?hdG ?poG ?saG ?mkG ?kcG ?nO1 ?nO2 ?nR1 ?nR2 ?nG1 ?nG2 ?nG3 ?ok_int ?ok_str ?ok_dict ?kdJ ?kMM ?kMJ ?kMs ?kls ?kJJ ?kOO ?kRR ?kRO ?g1 ?g2 ?g3 ?g4 ?g5 ?g6 ?z_list ?z_int ?z_len ?z_abs ?z_range ?z_dict ?z_str ?z_sorted ?z_tuple ?z_isinstance ?z_iter ?z_enumerate ?z_all ?z_bool ?z_any ?z_zip ?z_set ?z_repr
    (case aC => k_is)
    (case aJ => k_is)
    (case aG => k_is)
    (case aO => k_is)
    (case aR => k_is)
    (case uS => k_is)
    (case vS => k_is)
    (case uE => k_is)
    (case vE => k_is)
    (case uW => k_is)
    (case vW => k_is)
    (case uD => k_is)
    (case vD => k_is)
    (case a0 => k_is)
    (case l0 => k_is)
    (case c0 => k_is)
    (case k0 => k_is)
    (case a1 => k_is)
    (case l1 => k_is)
    (case c1 => k_is)
    (case k1 => k_is)
    (case a2 => k_is)
    (case l2 => k_is)
    (case c2 => k_is)
    (case k2 => k_is)
    (case a3 => k_is)
    (case l3 => k_is)
    (case c3 => k_is)
    (case k3 => k_is)
    (case a4 => k_is)
    (case l4 => k_is)
    (case c4 => k_is)
    (case k4 => k_is)
    (case a5 => k_is)
    (case l5 => k_is)
    (case c5 => k_is)
    (case k5 => k_is)
    (case a6 => k_is)
    (case l6 => k_is)
    (case c6 => k_is)
    (case k6 => k_is)
    (case a7 => k_is)
    (case l7 => k_is)
    (case c7 => k_is)
    (case k7 => k_is)
    (case a8 => k_is)
    (case l8 => k_is)
    (case c8 => k_is)
    (case k8 => k_is)
    (case a9 => k_is)
    (case l9 => k_is)
    (case c9 => k_is)
    (case k9 => k_is)
    (case a10 => k_is)
    (case l10 => k_is)
    (case c10 => k_is)
    (case k10 => k_is)
    (case a11 => k_is)
    (case l11 => k_is)
    (case c11 => k_is)
    (case k11 => k_is)
    (case a12 => k_is)
    (case l12 => k_is)
    (case c12 => k_is)
    (case k12 => k_is)
    (case a13 => k_is)
    (case l13 => k_is)
    (case c13 => k_is)
    (case k13 => k_is)
    (case a14 => k_is)
    (case l14 => k_is)
    (case c14 => k_is)
    (case k14 => k_is)
    (case a15 => k_is)
    (case l15 => k_is)
    (case c15 => k_is)
    (case k15 => k_is)
    (case a16 => k_is)
    (case l16 => k_is)
    (case c16 => k_is)
    (case k16 => k_is)
    (case a17 => k_is)
    (case l17 => k_is)
    (case c17 => k_is)
    (case k17 => k_is)
    (case a18 => k_is)
    (case l18 => k_is)
    (case c18 => k_is)
    (case k18 => k_is)
    (case a19 => k_is)
    (case l19 => k_is)
    (case c19 => k_is)
    (case k19 => k_is)
    (case a20 => k_is)
    (case l20 => k_is)
    (case c20 => k_is)
    (case k20 => k_is)
    (case a21 => k_is)
    (case l21 => k_is)
    (case c21 => k_is)
    (case k21 => k_is)
    (case a22 => k_is)
    (case l22 => k_is)
    (case c22 => k_is)
    (case k22 => k_is)
    (case a23 => k_is)
    (case l23 => k_is)
    (case c23 => k_is)
    (case k23 => k_is)
    (case a24 => k_is)
    (case l24 => k_is)
    (case c24 => k_is)
    (case k24 => k_is)
    (case a25 => k_is)
    (case l25 => k_is)
    (case c25 => k_is)
    (case k25 => k_is)
    (case a26 => k_is)
    (case l26 => k_is)
    (case c26 => k_is)
    (case k26 => k_is)
    (case a27 => k_is)
    (case l27 => k_is)
    (case c27 => k_is)
    (case k27 => k_is)
    (case a28 => k_is)
    (case l28 => k_is)
    (case c28 => k_is)
    (case k28 => k_is)
    (case a29 => k_is)
    (case l29 => k_is)
    (case c29 => k_is)
    (case k29 => k_is)
    (case a30 => k_is)
    (case l30 => k_is)
    (case c30 => k_is)
    (case k30 => k_is)
    (case a31 => k_is)
    (case l31 => k_is)
    (case c31 => k_is)
    (case k31 => k_is)
    (case a32 => k_is)
    (case l32 => k_is)
    (case c32 => k_is)
    (case k32 => k_is)
    (case a33 => k_is)
    (case l33 => k_is)
    (case c33 => k_is)
    (case k33 => k_is)
    (case a34 => k_is)
    (case l34 => k_is)
    (case c34 => k_is)
    (case k34 => k_is)
    (case a35 => k_is)
    (case l35 => k_is)
    (case c35 => k_is)
    (case k35 => k_is)
    (case a36 => k_is)
    (case l36 => k_is)
    (case c36 => k_is)
    (case k36 => k_is)
    (case a37 => k_is)
    (case l37 => k_is)
    (case c37 => k_is)
    (case k37 => k_is)
    (case a38 => k_is)
    (case l38 => k_is)
    (case c38 => k_is)
    (case k38 => k_is)
    (case a39 => k_is)
    (case l39 => k_is)
    (case c39 => k_is)
    (case k39 => k_is)
    (case a40 => k_is)
    (case i40 => k_is)
    (case l40 => k_is)
    (case c40 => k_is)
    (case k40 => k_is)
    (case n40 => k_is)
    (case a41 => k_is)
    (case i41 => k_is)
    (case l41 => k_is)
    (case c41 => k_is)
    (case k41 => k_is)
    (case n41 => k_is)
    (case a42 => k_is)
    (case i42 => k_is)
    (case l42 => k_is)
    (case c42 => k_is)
    (case k42 => k_is)
    (case n42 => k_is)
    (case a43 => k_is)
    (case i43 => k_is)
    (case l43 => k_is)
    (case c43 => k_is)
    (case k43 => k_is)
    (case n43 => k_is)
    (case a44 => k_is)
    (case i44 => k_is)
    (case l44 => k_is)
    (case c44 => k_is)
    (case k44 => k_is)
    (case n44 => k_is)
    (case a45 => k_is)
    (case i45 => k_is)
    (case l45 => k_is)
    (case c45 => k_is)
    (case k45 => k_is)
    (case n45 => k_is)
    (case a46 => k_is)
    (case i46 => k_is)
    (case l46 => k_is)
    (case c46 => k_is)
    (case k46 => k_is)
    (case n46 => k_is)
    (case a47 => k_is)
    (case i47 => k_is)
    (case l47 => k_is)
    (case c47 => k_is)
    (case k47 => k_is)
    (case n47 => k_is)
    (case a48 => k_is)
    (case i48 => k_is)
    (case l48 => k_is)
    (case c48 => k_is)
    (case k48 => k_is)
    (case a49 => k_is)
    (case i49 => k_is)
    (case l49 => k_is)
    (case c49 => k_is)
    (case k49 => k_is)
    (case n49 => k_is)
    (case a50 => k_is)
    (case i50 => k_is)
    (case l50 => k_is)
    (case c50 => k_is)
    (case k50 => k_is)
    (case a51 => k_is)
    (case i51 => k_is)
    (case l51 => k_is)
    (case c51 => k_is)
    (case k51 => k_is)
    (case n51 => k_is)
    (case a52 => k_is)
    (case i52 => k_is)
    (case l52 => k_is)
    (case c52 => k_is)
    (case k52 => k_is)
    (case a53 => k_is)
    (case i53 => k_is)
    (case l53 => k_is)
    (case c53 => k_is)
    (case k53 => k_is)
    (case tI => k_is)
    (case sC => k_is)
    (case sR => k_is)
    (case l54 => k_is)
    (case c54 => k_is)
    (case k54 => k_is)
    (case a55 => k_is)
    (case i55 => k_is)
    (case l55 => k_is)
    (case c55 => k_is)
    (case k55 => k_is)
    (case rd => k_is)
    (case ga => k_is)
    (case pg => k_is)
    (case hd => k_is)
    (case po => k_is)
    (case sa => k_is)
    (case mk => k_is)
    (case kc => k_is)
    (case sf => k_is)
    (case nL => k_is)
    (case nI => k_is)
    (case nC => k_is)
    (case tA => k_is)
    (case tD => k_is)
    (case ne => k_is)
    (case tB => k_is)
    (case tC => k_is)
    (case rp => k_is)
    (case h1 => k_is)
    (case h2 => k_is)
    (case os_int => k_is)
    (case ow_int => k_is)
    (case ow_str => k_is)
    (case ow_dict => k_is)
    (case pgJ => k_is)
    (case hdJ => k_is)
    (case poJ => k_is)
    (case saJ => k_is)
    (case mkJ => k_is)
    (case kcJ => k_is)
    (case nJ => k_is)
    (case jA => k_is)
    (case jD => k_is)
    (case pgO => k_is)
    (case hdO => k_is)
    (case poO => k_is)
    (case saO => k_is)
    (case mkO => k_is)
    (case kcO => k_is)
    (case tAO => k_is)
    (case tDO => k_is)
    (case neO => k_is)
    (case pgR => k_is)
    (case hdR => k_is)
    (case poR => k_is)
    (case saR => k_is)
    (case mkR => k_is)
    (case kcR => k_is)
    (case tAR => k_is)
    (case tDR => k_is)
    (case neR => k_is)
    (case pgG => k_is)
    (case hdG => k_is)
    (case poG => k_is)
    (case saG => k_is)
    (case mkG => k_is)
    (case kcG => k_is)
    (case nO1 => k_is)
    (case nO2 => k_is)
    (case nR1 => k_is)
    (case nR2 => k_is)
    (case nG1 => k_is)
    (case nG2 => k_is)
    (case nG3 => k_is)
    (case ok_int => first | kit_is | exact L2.kit_ty (by decide +kernel))
    (case ok_str => first | kit_is | exact L2.kit_ty (by decide +kernel))
    (case ok_dict => first | kit_is | exact L2.kit_ty (by decide +kernel))
    (case kdJ => first | kit_is | exact L2.kit_ty (by decide +kernel))
    (case kMM => first | kit_is | exact L2.kit_ty (by decide +kernel))
    (case kMJ => first | kit_is | exact L2.kit_ty (by decide +kernel))
    (case kMs => first | kit_is | exact L2.kit_ty (by decide +kernel))
    (case kls => first | kit_is | exact L2.kit_ty (by decide +kernel))
    (case kJJ => first | kit_is | exact L2.kit_ty (by decide +kernel))
    (case kOO => first | kit_is | exact L2.kit_ty (by decide +kernel))
    (case kRR => first | kit_is | exact L2.kit_ty (by decide +kernel))
    (case kRO => first | kit_is | exact L2.kit_ty (by decide +kernel))
    (case g1 => k_is)
    (case g2 => k_is)
    (case g3 => k_is)
    (case g4 => k_is)
    (case g5 => k_is)
    (case g6 => k_is)
    (case z_list => k_is)
    (case z_int => k_is)
    (case z_len => k_is)
    (case z_abs => k_is)
    (case z_range => k_is)
    (case z_dict => k_is)
    (case z_str => k_is)
    (case z_sorted => k_is)
    (case z_tuple => k_is)
    (case z_isinstance => k_is)
    (case z_iter => k_is)
    (case z_enumerate => k_is)
    (case z_all => k_is)
    (case z_bool => k_is)
    (case z_any => k_is)
    (case z_zip => k_is)
    (case z_set => k_is)
    (case z_repr => k_is)
