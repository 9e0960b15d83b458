import PyProof.Rows.All
import Wide.All
import OpenK.AllK
import Wide.FinOn
import HandS.ForMost
import HandS.OwnEq
import HandS.Wide
import HandS.DictComp
import HandS.IsInst
import HandS.Codes
import HandS.Flow
import PyProof.ListStr
import PyProof.InstNe
import KE.KCallOwn
import KE.KOwnIter
import KE.KFmtOwn
import HandS.Style
import HandS.IterNext
import HandS.StrMore
import HandS.MakeKw
import HandS.IterVal
import HandS.More
import PyProof.DictUpdate
import HandS.RaiseMore
import HandS.Walk
import HandS.FStr
import HandS.ClsMeth
import HandS.MakeKwOnly
import HandS.ExcInit
import KE.GoesMore
import KE.KOpsOwn
import HandS.Star
import HandS.TryOnly
import HandS.ExcValue
import HandS.ExcIs
import HandS.Lambda
import KE.KExcIs
import HandS.Zip
import KE.GoesZip
import PyProof.Rows.StrMul
import KE.KEqDict
import PyProof.P3Eq
import KE.GoesEnum
import PyProof.CallFns
import PyProof.InstEq
import PyProof.ReprRoads
import HandS.WordsExc
import HandS.RaiseFrom
import PySem.Challenge.RW_blindrepair_k55_whole_lists_of_misreadin
import HandS.Defaults
import KE.KxText
import PyProof.Rows.StrReprJoin
import PyProof.DictTable
import PyProof.DictRoadsH
import KE.KeyNested
import PyProof.DictKind
import PyProof.DictFindH
import HandS.Dict
import HandS.Small
import HandS.Iter
import HandS.TupLen
import PyProof.StrLawsAffix
import PyProof.Rows.SortStr
import PyProof.Rows.StrMeet
import PyProof.Rows.Range3
import OpenK.KOps
import HandS.Strs
import HandS.Text
import KE.KRevSl
import HandS.SortInts
import PyProof.Rows.SortKeyStr
import PyProof.NeKinds
import HandS.SetFor
import KE.RegKIsAll
set_option Elab.async false
set_option linter.all false
set_option maxRecDepth 100000
set_option maxHeartbeats 4000000
/-! Rules of our own: the methods with two underscores of a text's own class, called by Python's signs; list(text). -/
namespace L2
open PySem PySem.Spec PyProof.Rows
section
variable {X : Cx} {n : Nat} {CX : CXT} {C f : Addr} {fd : FuncData} {ps : List Str} {sp : Sp} {E : XK}
/-- a def that is called from within a built-in -/
theorem run_own {A : Around} {pins : List (Addr × Obj)} {σ : St} {H : Hp} {s : Shared} {Q : VK} {us : List Value} {vs : List V} (sb : Sub X n A) (F : FnOk X.prog X.w X.K X.mg X.base CX n f fd ps sp) (hb : Binds X.K fd ps []) (hx : Passes CX X E)
    (I : Inv X pins σ H s) (r : Vals vs us) (h : sp vs H Q E) : wpAny (model X.prog X.w) A (call (.ref f) us) (EP X pins σ Q) X.xe s := by
  have e0 : Env0 X.prog X.w X.K X.mg X.base A X.stack s H := by
    have e := I.env0
    exact ⟨by rw [sb.fr]; exact e.frames, e.mod, e.bs, e.bsz, e.funs, e.frf, e.hok, e.bare⟩
  have hl := F.len _ _ _ _ h
  have hl2 : us.length = ps.length := by rw [← r.length]; exact hl
  refine wpAny_call (codeAny_mono (F.run A X.stack s H ⟨us, []⟩ us vs Q E sb.room e0 (by
    have := hb s us I.kIn (by simpa using hl2)
    simpa using this) r h) fun r s' hq => ?_)
  cases r with
  | error e => exact hx pins σ H s e s' I hq
  | ok fl =>
    cases fl with
    | ret w => exact I.after hq
    | next => exact False.elim hq
    | brk => exact False.elim hq
    | cont => exact False.elim hq
/-- the instance that H tells, for the library's rules -/
theorem inst_at {pins : List (Addr × Obj)} {σ : St} {H : Hp} {s : Shared} {a dx : Addr} {fs : List (Str × V)} (I : Inv X pins σ H s) (ha : H a = some (.ins C dx fs)) : ∃ od, PySem.W.InstAt s.heap a (PySem.W.instObj C dx) C od := by
  obtain ⟨mA, J, _⟩ := ins_get I.hok ha
  obtain ⟨od, J, _⟩ := J.look
  exact ⟨od, J⟩
/-- where one stands in a built-in, once or twice deeper -/
theorem Sub.here (hr : Room n X.A) : Sub X n X.A := ⟨hr, rfl⟩
/-- the facts of a method that a sign calls -/
structure Own (K : PySem.W.Frag) (C : Addr) (m : Str) (f : Addr) : Prop where
  find : PySem.W.findIn K (.ref C) m = some (some (.ref f))
  fn : PySem.W.isFn K (.ref f) = true
/-- list(text) -/
theorem call_listS (hc : X.calm = true) : CallR X (.type "list") (fun xs H Q => ∃ z, xs = [.str z] ∧ z.length ≤ sizeLine ∧ ∀ l, H l = none → Q (.ref l) (upd H l (.lst (z.cps.toList.map fun c => V.str ⟨#[c]⟩)))) := by
  intro pins s σ H xs us Q I r h
  obtain ⟨z, rfl, hz, q⟩ := h
  obtain ⟨u, rfl, t, rfl⟩ := vals1 r
  refine call_list_str (I.ok.hd hc) z t (fun h' tk acc c' kp e it => ?_) hz
  have rv : ∀ (xs : List Nat) (acc : List Value), acc.length = xs.length → (∀ (j : Nat) (v : Value), acc[j]? = some v → ∃ (c : Nat) (u : Tok), xs[j]? = some c ∧ v = Value.str ⟨#[c]⟩ u) → Vals (xs.map fun c => V.str ⟨#[c]⟩) acc := by
    intro xs
    induction xs with
    | nil =>
      intro acc hl _
      cases acc with
      | nil => exact .nil
      | cons a r => cases hl
    | cons x xs ih =>
      intro acc hl hi
      cases acc with
      | nil => cases hl
      | cons a r =>
        obtain ⟨c, u, e1, e2⟩ := hi 0 a rfl
        have e1' : x = c := by simpa using e1
        subst e1'
        exact .cons ⟨u, e2⟩ (ih r (by simpa using hl) fun j v hj => by
          obtain ⟨c, u, e1, e2⟩ := hi (j + 1) v (by simpa using hj)
          exact ⟨c, u, by simpa using e1, e2⟩)
  have R : Vals (z.cps.toList.map fun c => V.str ⟨#[c]⟩) acc.toList := rv _ _ (by rw [Array.length_toList, it.1, Array.length_toList]) fun j v hj => by
    obtain ⟨c, u, e1, e2⟩ := it.2 j v (by rw [← Array.getElem?_toList]; exact hj)
    exact ⟨c, u, by rw [Array.getElem?_toList]; exact e1, e2⟩
  refine ⟨.ref s.heap.objs.size, _, I.laid (t' := tk) kp (Nat.le_refl _) (show ObjOk X.prog X.w _ h' _ (.lst _) from ⟨?_, acc.toList, c', R, by rw [Array.toArray_toList]; exact e⟩), rfl, q _ (I.hok.fresh (Nat.le_refl _))⟩
  rw [List.length_map, Array.length_toList]
  exact hz
/-- o[k] by an own __getitem__ -/
theorem pe_ixOwn {a b : Expr} {ta tb : TE} {pos : Pos} (F : FnOk X.prog X.w X.K X.mg X.base CX n f fd ps sp) (hb : Binds X.K fd ps []) (hx : Passes CX X E) (o : Own X.K C "__getitem__" f) (hf : PySem.W.fnIn X.K f = true) (hr : Room (n + 1) X.A) (hA : PE X a ta) (hB : PE X b tb)
    (hsl : ∀ v u, subscripted b true v u = runValue (.builtin "lifetime.subscript" ⟨[v, u], []⟩) := by intro _ _; rfl) :
    PE X (.Subscript a b pos) (tOp (fun x y H Q => ∃ a dx fs, x = .ref a ∧ H a = some (.ins C dx fs) ∧ sp [.ref a, y] H Q E) ta tb) := by
  refine ⟨fun pins s σ H Q I h => ?_⟩
  refine Subscript_ (binT hA hB I h fun v u s2 x y H2 I2 rx ry q => ?_)
  obtain ⟨a, dx, fs, rfl, ha, hs⟩ := q
  cases rx
  obtain ⟨od, J⟩ := inst_at I2 ha
  obtain ⟨m, hF⟩ := I2.fr
  exact PySem.W.sub_K hF I2.ok.mod.kin J o.find hf o.fn (run_own (Sub.here hr).in1 F hb hx I2 (show Vals [V.ref a, y] [Value.ref a, u] from .cons rfl (.cons ry .nil)) hs) (hsl _ _)
end
end L2
set_option Elab.async false
set_option linter.all false
set_option maxRecDepth 100000
set_option maxHeartbeats 4000000
/-! == and != by an own __eq__ that gives True or False. -/
namespace PySem.W
open PySem PySem.Calls PyProof.Rows Builtin
end PySem.W
namespace L2
open PySem PySem.Spec PyProof.Rows
end L2
set_option Elab.async false
set_option linter.all false
set_option maxRecDepth 100000
set_option maxHeartbeats 4000000
/-! for x in o, by an own __iter__ that gives iter(a tuple). -/
namespace L2
open PySem PySem.Spec PyProof.Rows ItX
abbrev itTObj (l : Addr) : Obj := { cls := .type "tuple_iterator", data := .fields #[.ref l, .int 0 0] }
/-- at it a fresh iterator of the tuple at l -/
def ItT (l it : Addr) : HO := .ext fun h => h.get? it = some (itTObj l)
theorem itT_ok {P : Program} {w : World} {H : Hp} {h : Heap} {l it : Addr} (e : h.get? it = some (itTObj l)) : ObjOk P w H h it (ItT l it) := ⟨e, ⟨_, e⟩, fun h1 h2 q k => k _ q⟩
theorem call_iterTup {prog : Program} {w : World} {A : Around} {E : Value → Shared → Prop} {s : Shared} {l : Addr} {items : Array Value} {Q : Value → Shared → Prop} (hl : s.heap.IsTuple l items) (h : Q (.ref s.heap.objs.size) { s with heap := s.heap.push (itTObj l) }) : wpAny (model prog w) A (call (.builtin "iter") [.ref l]) Q E s := by
  refine Calls.call_function_entry (by decide +kernel) (by decide +kernel) PySem.W.kdk_entry_iter (PySem.W.kdk_args_iter _) ?_
  unfold Builtin.«iter»
  refine wpAny_bind (m := someArgs "iter" 1 2 _) (wpAny_of_eq (a := [Value.ref l]) (by first | rfl | kernel_rfl!) ?_)
  show wpAny _ _ (pyIter (.ref l) >>= _) _ _ _
  refine wpAny_bind (wpAny_pyIter_tuple hl ?_)
  exact wpAny_pure ⟨_, rfl, h⟩
section
variable {X : Cx}
theorem call_iterT : CallR X (.builtin "iter") (fun xs H Q => ∃ (l : Addr) (zs : List V), xs = [.ref l] ∧ SqT X.K H l zs ∧ ∀ it, H it = none → X.s_0.heap.objs.size ≤ it → Q (.ref it) (upd H it (ItT l it))) := by
  intro pins s σ H xs us Q I r h
  obtain ⟨l, zs, rfl, hq, q⟩ := h
  obtain rfl := Vals.ref1 r
  obtain ⟨its, rv, pl, hz⟩ := I.tuple hq
  refine call_iterTup (show s.heap.IsTuple l its.toArray from pl) ?_
  exact ⟨.ref s.heap.objs.size, _, I.laid (t' := s.toks) (fun b u e => Heap.get?_push_of_some _ e) (Nat.le_refl _) (itT_ok (Heap.get?_push_size _ rfl)), rfl, q _ (I.hok.fresh (Nat.le_refl _)) I.sz⟩
variable {n : Nat} {CX : CXT} {C f : Addr} {fd : FuncData} {ps : List Str} {sp : Sp} {E : XK}
/-- a def whose promise may speak of how many objects stand at its entry -/
structure FnN (P : Program) (w : World) (K : PySem.W.Frag) (mg : Str → Option Value) (base : Heap) (CX : CXT) (k : Nat) (f : Addr) (fd : FuncData) (ps : List Str) (sn : Nat → Sp) : Prop where
  many : ∀ m vs H Q E, sn m vs H Q E → vs.length = ps.length
  goes : ∀ (A : Around) (outer : List Env) (s : Shared) (H : Hp) (args : Args) (us : List Value) (vs : List V) (Q : VK) (E : XK), Room k A → Env0 P w K mg base A outer s H → BindsTo s fd args (ps.zip us) → Vals vs us →
    sn s.heap.objs.size vs H Q E → codeAny (model P w) A (.call (.ref f) args) (CR CX outer P w H s Q E) s
theorem fnN_mk {CX : CXT} {P : Program} {w : World} {K : PySem.W.Frag} {mg : Str → Option Value} {base : Heap} {k : Nat} {f : Addr} {x qual : Str} {st : Stmt} {fd : FuncData} {N ps : List Str} {sn : Nat → Sp}
    (F : Fun K x qual st f fd) (S : FnScope N ps (defScope st)) (many : ∀ m vs H Q E, sn m vs H Q E → vs.length = ps.length)
    (body : ∀ (cdv : Value) (A : Around) (outer : List Env) (s : Shared) (H : Hp) (vs : List V) (Q : VK) (E : XK), Room k (A.deeper (envOfC qual (defScope st) s.heap.objs.size f cdv)) → sn s.heap.objs.size vs H Q E →
      ∃ t, PSs (cxOf CX P w K mg base N qual (defScope st) f cdv A outer s H E) (defBody st) t ∧ t { nx := fun _ H' => Q .non H', rt := Q } (start N vs) H) : FnN P w K mg base CX (k + 1) f fd ps sn := by
  obtain ⟨oc, od, kV, doc, pm, an, cdv, ct, osl, rfl, lk, hcd⟩ := F.ex
  refine ⟨many, fun A₁ out s₁ H₁ ar us₁ vs₁ Q₁ E₁ room ev bd rel prom => ?_⟩
  have len₁ := many _ _ _ _ _ prom
  have kin₁ : K.In s₁.heap := ev.mod.kin.keeps (fun a o z => (ev.bs a o z).left)
  have kinds : ∀ y ∈ ps.zip us₁, (defScope st).names.lookup y.1 = some .local ∨ ((defScope st).names.lookup y.1 = some .cell ∧ ((cellsFrom (s₁.heap.objs.size + 1) (defScope st).names []).lookup y.1).isSome = true) := by
    rintro ⟨nm, vl⟩ mem
    rcases S.par nm (List.of_mem_zip mem).1 with z | z
    · exact Or.inl z
    · exact Or.inr ⟨z, PySem.W.cellsFrom_some _ _ _ (Or.inl z)⟩
  refine codeAny_call_function room.depth (kin₁ _ _ lk) rfl S.co S.gen rfl (PySem.W.codeRec_of kin₁ hcd) (bd _ _ _ _ ?_)
  refine wpAny_newFunctionEnv_cells S.kind kinds (fun e₁ is₁ s₂ made => ?_)
  subst is₁
  refine ⟨Heap.NoLimit.keeps (ev.mod.nolimit.keeps fun a o z => (ev.bs a o z).left) made.toInCall.keep, codeAny_func ?_⟩
  obtain ⟨t₁, term, reads⟩ := body cdv A₁ out s₁ H₁ vs₁ Q₁ E₁ (room.deeper _) prom
  have inv₁ := inv_start (CX := CX) (P := P) (w := w) (mg := mg) (base := base) (E := E₁) S room.hd ev len₁ rel made
  refine wpAny_mono (term.run [] s₂ (start N vs₁) H₁ _ inv₁ reads) (fun flow s₃ done => ?_) (fun _ _ z => z)
  cases flow with
  | ret u₁ =>
    obtain ⟨v₁, _, H₂, J, rv, q⟩ := done
    exact ⟨v₁, H₂, J.os, J.bare, J.base, J.hok, rv, q⟩
  | next =>
    obtain ⟨_, H₂, J, q⟩ := done
    exact ⟨V.non, H₂, J.os, J.bare, J.base, J.hok, rfl, q⟩
  | brk => exact (done.elim fun _ z => z.elim fun _ z => z.2).elim
  | cont => exact (done.elim fun _ z => z.elim fun _ z => z.2).elim
variable {sn : Nat → Sp}
theorem run_N {A : Around} {pins : List (Addr × Obj)} {σ : St} {H : Hp} {s : Shared} {Q : VK} {us : List Value} {vs : List V} (sb : Sub X n A) (F : FnN X.prog X.w X.K X.mg X.base CX n f fd ps sn) (hb : Binds X.K fd ps []) (hx : Passes CX X E)
    (I : Inv X pins σ H s) (r : Vals vs us) (h : sn s.heap.objs.size vs H Q E) : wpAny (model X.prog X.w) A (call (.ref f) us) (EP X pins σ Q) X.xe s := by
  have e0 : Env0 X.prog X.w X.K X.mg X.base A X.stack s H := by
    have e := I.env0
    exact ⟨by rw [sb.fr]; exact e.frames, e.mod, e.bs, e.bsz, e.funs, e.frf, e.hok, e.bare⟩
  have hl := F.many _ _ _ _ _ h
  have hl2 : us.length = ps.length := by rw [← r.length]; exact hl
  refine wpAny_call (codeAny_mono (F.goes A X.stack s H ⟨us, []⟩ us vs Q E sb.room e0 (by
    have := hb s us I.kIn (by simpa using hl2)
    simpa using this) r h) fun r s' hq => ?_)
  cases r with
  | error e => exact hx pins σ H s e s' I hq
  | ok fl =>
    cases fl with
    | ret w => exact I.after hq
    | next => exact False.elim hq
    | brk => exact False.elim hq
    | cont => exact False.elim hq
def iOwn (K : PySem.W.Frag) (C : Addr) (m : Nat) (sn : Nat → Sp) (E : XK) (tl : TE) : TI := fun σ H R => tl σ H fun x H1 => ∃ a dx fs, x = .ref a ∧ H1 a = some (.ins C dx fs) ∧
  ∀ k, m ≤ k → sn k [.ref a] H1 (fun v H' => ∃ it t, v = .ref it ∧ k ≤ it ∧ H' it = some (ItT t it) ∧ R (Itt K t) (dropH H' it)) E
theorem pi_own {tg l : Expr} {tl : TE} (F : FnN X.prog X.w X.K X.mg X.base CX n f fd ps sn) (hb : Binds X.K fd ps []) (hx : Passes CX X E) (o : Own X.K C "__iter__" f) (hr : Room n X.A) (hl : PE X l tl) : PI X tg l (iOwn X.K C X.s_0.heap.objs.size sn E tl) := by
  refine ⟨fun pins s σ H R I h => ?_⟩
  refine thn (hl.run pins s σ H _ I h) fun v s1 ⟨x, H1, I1, r1, q1⟩ => ?_
  obtain ⟨a, dx, fs, rfl, ha, hs⟩ := q1
  cases r1
  obtain ⟨od, J⟩ := inst_at I1 ha
  obtain ⟨m, hF⟩ := I1.fr
  refine PySem.W.owit_iter hF I1.ok.mod.kin J o.find o.fn (thn (run_N (Sub.here hr) F hb hx I1 (show Vals [V.ref a] [Value.ref a] from .cons rfl .nil) (hs s1.heap.objs.size I1.sz)) fun v s' q => ?_)
  obtain ⟨y, H', I', ry, ⟨it, t, rfl, hn, hi, q⟩⟩ := q
  cases ry
  have hy := Nat.le_trans I1.sz hn
  have hit : s'.heap.get? it = some (itTObj t) := (I'.hok it _ hi).1
  unfold PySem.W.OwitIt
  refine wpAny_specialOf (T := "tuple_iterator") (v := .ref it) ⟨_, hit, rfl⟩ PySem.F.slot_tuple_iterator_next.lookup ?_
  refine ⟨it, [it], _, _, dropH H' it, rfl, inv_drop I' hi, turn_tuple t _, ⟨_, hit, rfl, rfl⟩, fun b hb => ?_, q⟩
  have e : b = it := by simpa using hb
  subst e
  exact inv_fp I' hi hy
end
end L2
set_option Elab.async false
set_option linter.all false
set_option maxRecDepth 100000
set_option maxHeartbeats 4000000
/-! {**a, **b}: two dicts of ints and texts, one behind the other, into a new one. -/
namespace PySem
open PyProof.Rows
section
variable {prog : Program} {w : World} {A : Around} {E : Value → Shared → Prop} {s : Shared} {K : Type} [DecidableEq K] {knd : KeyKind prog w K}
theorem put_pairs {a : Addr} {old : List (K × Value)} {c : K} {u v : Value} {R : Unit → Shared → Prop} (isC : knd.is c u = true) (D : s.heap.DictOf knd a old)
    (next : ∀ hp, hp.DictOf knd a (stored old c v) → Heap.SameBut a s.heap hp → R () { s with heap := hp }) (few : old.length ≤ sizeLine) :
    wpAny (model prog w) A (dictPut a (knd.hash c) u v) R E s := by
  obtain ⟨ob, es, ep, at_, exact_, dat, keyed, prs, uniq⟩ := D
  have szs : es.size ≤ sizeLine := by
    have l1 := prs.length
    have l2 : es.toList.length = es.size := by simp
    omega
  unfold dictPut
  refine wpAny_bind (wpAny_dictFind_of isC at_ dat keyed ?_)
  have same : (es.findIdx? fun e => knd.is c e.key) = old.findIdx? fun kv => decide (kv.1 = c) := by
    have z := prs.findIdx c
    obtain ⟨lst⟩ := es
    simpa using z
  cases found : es.findIdx? fun e => knd.is c e.key with
  | some j =>
    have there : (old.any fun kv => decide (kv.1 = c)) = true := any_of_findIdx_some (same ▸ found)
    refine wpAny_updateDict at_ dat (next _ ⟨_, _, ep, Heap.get?_update_self _ at_ (Obj.isFreed_of_dict (Obj.data_mapDict dat _)), exact_.mapDict _, Obj.data_mapDict dat _, keyed.modify _ _, ?_, ?_⟩ (Heap.SameBut.update ..))
    · have inList : (es.toList.findIdx? fun e => knd.is c e.key) = some j := by
        rw [← found]
        obtain ⟨lst⟩ := es
        simp
      have z := prs.modify uniq inList v
      rw [stored, if_pos there]
      obtain ⟨lst⟩ := es
      simpa using z
    · rw [stored, if_pos there, keys_map_store]
      exact uniq
  | none =>
    have notIn : c ∉ old.map (·.1) := not_mem_of_findIdx_none (same ▸ found)
    have gone : ¬ (old.any fun kv => decide (kv.1 = c)) = true := fun z => by
      obtain ⟨kv, mem, eq⟩ := List.any_eq_true.mp z
      exact notIn (List.mem_map.mpr ⟨kv, mem, of_decide_eq_true eq⟩)
    refine wpAny_updateDictKeys (hz := szs) at_ dat (next _ ⟨_, _, ep + 1, Heap.get?_update_self _ at_ (Obj.isFreed_of_dict (Obj.data_mapDictKeys dat _)), exact_.mapDictKeys _, Obj.data_mapDictKeys dat _, keyed.push isC _, ?_, ?_⟩ (Heap.SameBut.update ..))
    · have z := prs.append isC (knd.hash c) v
      rw [stored, if_neg gone]
      obtain ⟨lst⟩ := es
      simpa using z
    · rw [stored, if_neg gone, List.map_append]
      refine List.nodup_append.mpr ⟨uniq, by simp, fun x hx y hy => ?_⟩
      have ey : y = c := by simpa using hy
      intro exy
      exact notIn (by rw [← ey, ← exy]; exact hx)
end
section
variable {prog : Program} {w : World} {A : Around} {E : Value → Shared → Prop} {s : Shared}
open L2
theorem dict_sub : isSubtype (.type "dict") (.type "dict") = pure true := by rw [isSubtype_type]; kernel_rfl
theorem mergeMapping_mix {d o : Addr} {kvs more : List (Key × Value)} {Q : Unit → Shared → Prop} (hdo : d ≠ o) (hoS : (o == sysModules) = false)
    (hd : s.heap.DictOf (mixKind prog w) d kvs) (ho : s.heap.DictOf (mixKind prog w) o more)
    (hQ : ∀ h', h'.DictOf (mixKind prog w) d (merged kvs more) → Heap.SameBut d s.heap h' → Q () { s with heap := h' }) (hsz : kvs.length + more.length ≤ sizeLine) :
    wpAny (model prog w) A (mergeMapping d (.ref o) false) Q E s := by
  obtain ⟨oo, eso, epo, hoo, hco, hdo', hko, hpo, hno⟩ := id ho
  obtain ⟨od, esd, epd, hod, hcd, hdd, _⟩ := id hd
  have hlen : more.length = eso.size := by
    have z := hpo.length
    simpa using z.symm
  have loop : wpAny (model prog w) A (do
      let l ← dictEntries o
      let epoch ← dictEpoch o
      forIn (List.range l.size) PUnit.unit fun i (_ : PUnit) => (do
        let l' ← dictEntries o
        match l'[i]? with
          | some e => do
            holding [e.key, e.val] (dictPut d e.hash e.key e.val)
            let ep' ← dictEpoch o
            if (ep' != epoch) = true then do
                (unsupported "dict.changed-during-merge" : Sem PUnit)
                pure (ForInStep.yield PUnit.unit)
              else pure (ForInStep.yield PUnit.unit)
          | _ => do
            (unsupported "dict.changed-during-merge" : Sem PUnit)
            pure (ForInStep.yield PUnit.unit) : Sem (ForInStep PUnit))
      pure ()) Q E s := by
    refine wpAny_bind (wpAny_dictEntries hoo hdo' ?_)
    refine wpAny_bind (wpAny_dictEpoch hoo hdo' ?_)
    refine wpAny_bind ?_
    refine wpAny_forIn_list _ (fun left _ t => ∃ hp j, t = { s with heap := hp } ∧ left = (List.range eso.size).drop j ∧ j ≤ eso.size ∧ hp.DictOf (mixKind prog w) d (merged kvs (more.take j)) ∧ hp.get? o = some oo ∧ Heap.SameBut d s.heap hp) _ ?_ ?_ _ _
      ⟨s.heap, 0, rfl, by simp, Nat.zero_le _, by simpa [merged] using hd, hoo, Heap.SameBut.refl _ _⟩
    · rintro y left b t ⟨hp, j, rfl, hr, hj, hdj, hoj, hsb⟩
      have hlt : j < eso.size := by
        rcases Nat.lt_or_ge j eso.size with z | z
        · exact z
        · rw [List.drop_of_length_le (by rw [List.length_range]; exact z)] at hr
          cases hr
      have hd1 : (List.range eso.size).drop j = j :: (List.range eso.size).drop (j + 1) := by
        rw [List.drop_eq_getElem_cons (by rw [List.length_range]; exact hlt), List.getElem_range]
      rw [hd1] at hr
      obtain ⟨rfl, hleft⟩ : y = j ∧ left = (List.range eso.size).drop (j + 1) := by
        injection hr with z1 z2
        exact ⟨z1, z2⟩
      refine wpAny_bind (wpAny_dictEntries hoj hdo' ?_)
      rw [Array.getElem?_eq_getElem hlt]
      have hym : y < more.length := by rw [hlen]; exact hlt
      obtain ⟨isK, isV⟩ := hpo.get? (e := eso[y]) (by simp [hlt]) (List.getElem?_eq_getElem hym)
      obtain ⟨c, isC, isH⟩ := hko eso[y] (Array.getElem_mem hlt)
      have ec : c = more[y].1 := (mixKind prog w).inj _ _ _ isC isK
      show wpAny _ _ (holding [eso[y].key, eso[y].val] (dictPut d eso[y].hash eso[y].key eso[y].val) >>= _) _ _ _
      rw [isH, isV]
      have few : (merged kvs (more.take y)).length ≤ sizeLine := by
        have z1 := merged_length_le kvs (more.take y)
        have z2 : (more.take y).length ≤ more.length := by rw [List.length_take]; omega
        omega
      refine wpAny_bind (wpAny_holding (put_pairs isC hdj (fun hp2 hd2 hs2 => ?_) few))
      have ho2 : hp2.get? o = some oo := (hs2.2 o (Ne.symm hdo)).trans hoj
      refine wpAny_bind (wpAny_dictEpoch ho2 hdo' ?_)
      rw [if_neg (by simp)]
      refine wpAny_pure ⟨hp2, y + 1, rfl, hleft, hlt, ?_, ho2, hsb.trans hs2⟩
      rw [merged_take_succ kvs more y more[y] (List.getElem?_eq_getElem hym), ← ec]
      exact hd2
    · rintro b t ⟨hp, j, rfl, hr, hj, hdj, hoj, hsb⟩
      have hje : j = eso.size := by
        rcases Nat.lt_or_ge j eso.size with z | z
        · have e := congrArg List.length hr
          rw [List.length_drop, List.length_range] at e
          simp at e
          omega
        · exact Nat.le_antisymm hj z
      refine wpAny_pure (hQ hp ?_ hsb)
      rw [hje, ← hlen, List.take_length] at hdj
      exact hdj
  unfold mergeMapping
  refine wpAny_bind (wpAny_isInstance (T := "dict") (b := true) ho.typeIs dict_sub ?_)
  simp only [if_true]
  refine wpAny_bind (wpAny_specialOf (T := "dict") (v := .ref o) ho.typeIs PySem.F.slot_dict_iter.lookup (wpAny_bind (wpAny_pure ?_)))
  rw [show (some (Value.builtin "dict.__iter__") == some (Value.builtin "dict.__iter__")) = true from beq_self_eq_true _]
  dsimp only
  rw [if_neg (by rw [hoS]; exact Bool.false_ne_true)]
  refine wpAny_bind (wpAny_dictEntries hod hdd ?_)
  split
  · refine wpAny_bind (wpAny_dictEntries hoo hdo' ?_)
    refine wpAny_bind ?_
    rw [← Array.forIn_toList]
    refine wpAny_forIn_list _ (fun (left : List DictEntry) _ t => t = s ∧ ∀ e ∈ left, ∃ c : Key, keyIs c e.key = true) _ ?_ ?_ _ _ ⟨rfl, fun e he => ?_⟩
    · rintro e left b t ⟨rfl, all⟩
      obtain ⟨c, hc⟩ := all e List.mem_cons_self
      have more' : ∀ e ∈ left, ∃ c : Key, keyIs c e.key = true := fun e he => all e (List.mem_cons_of_mem _ he)
      rcases keyIs_shape hc with ⟨i, u, _, ek⟩ | ⟨z, u, _, ek⟩
      · rw [ek]
        exact wpAny_pure ⟨rfl, more'⟩
      · rw [ek]
        exact wpAny_pure ⟨rfl, more'⟩
    · rintro b t ⟨rfl, _⟩
      exact loop
    · obtain ⟨c, hc, _⟩ := hko e (by simpa using he)
      exact ⟨c, hc⟩
  · exact loop
end
end PySem
set_option Elab.async false
set_option linter.all false
set_option maxRecDepth 100000
set_option maxHeartbeats 4000000
namespace L2
open PySem PySem.Spec PyProof.Rows
/-- {**a, **b}: a new dict stands empty at p, the first one's pairs come into it, then the second one's -/
def tMerge2 (t1 t2 : TE) : TE := fun σ H Q => ∀ p, H p = none → t1 σ (upd H p (.dK [])) fun x H1 => ∃ a kvs, x = .ref a ∧ a ≠ p ∧ H1 p = some (.dK []) ∧ Rd H1 a (.dK kvs) ∧ kvs.length ≤ 1000 ∧
  t2 σ (upd H1 p (.dK (mergeK [] kvs))) fun y H2 => ∃ b acc more, y = .ref b ∧ b ≠ p ∧ H2 p = some (.dK acc) ∧ acc.length ≤ 1000 ∧ Rd H2 b (.dK more) ∧ more.length ≤ 1000 ∧ Q (.ref p) (upd H2 p (.dK (mergeK acc more)))
section
variable {X : Cx}
theorem merge_in {pins : List (Addr × Obj)} {σ : St} {H : Hp} {s : Shared} {p a : Addr} {acc kvs : List (Key × V)} {R : Unit → Shared → Prop} {E : Value → Shared → Prop} {A : Around} (I : Inv X pins σ H s) (ne : a ≠ p) (hp : H p = some (.dK acc)) (ha : Rd H a (.dK kvs))
    (l1 : acc.length ≤ 1000) (l2 : kvs.length ≤ 1000) (k : ∀ s', Inv X pins σ (upd H p (.dK (mergeK acc kvs))) s' → R () s') : wpAny (model X.prog X.w) A (mergeMapping p (.ref a) false) R E s := by
  obtain ⟨z, hd, vs, r, dd⟩ := dk_of I.hok hp
  obtain ⟨z2, hd2, ws, r2, dd2⟩ := dk_rd I.hok ha
  have e1 : vs.length = acc.length := (Paired.length r).symm
  have e2 : ws.length = kvs.length := (Paired.length r2).symm
  refine mergeMapping_mix (Ne.symm ne) hd2 dd dd2 (fun h' dd' sb => k _ ?_) (by rw [sizeLine_eq]; omega)
  have hz : (mergeK acc kvs).length ≤ sizeLine := by
    have h1 := length_mergeK kvs acc
    rw [sizeLine_eq]; omega
  have he : ∃ q, h'.get? p = some q := let ⟨q, _, _, hq, _⟩ := dd'; ⟨q, hq⟩
  exact d_write I (by rw [hp]; exact True.intro) sb he (dk_new hz hd (r2.merge r) dd')
theorem pe_merge2 {e1 e2 : Expr} {t1 t2 : TE} {pos : Pos} (h1 : PE X e1 t1) (h2 : PE X e2 t2) : PE X (.Dict [none, none] [e1, e2] pos) (tMerge2 t1 t2) := by
  refine ⟨fun pins s σ H Q I q => ?_⟩
  have hn := I.hok.fresh (Nat.le_refl s.heap.objs.size)
  have I1 := I.laid (a := s.heap.objs.size) (o := .dK []) (h' := s.heap.push { cls := .type "dict", data := .dict #[] }) (t' := s.toks) (fun _ _ q => Heap.get?_push_of_some _ q) (Nat.le_refl _) (dk_empty s.heap I.big)
  rw [arm_eval_Dict]
  refine wpAny_bind (wpAny_standAt ?_)
  show wpAny _ _ (dictDisplay [(none, do let x ← eval e1 X.env; standAt pos; pure x), (none, do let x ← eval e2 X.env; standAt pos; pure x)]) _ _ _
  unfold dictDisplay
  simp only [List.forIn_cons, List.forIn_nil, List.isEmpty_nil, if_true]
  refine wpAny_bind (wpAny_bind (wpAny_bind (wpAny_pure ?_)))
  dsimp only
  refine wpAny_bind (wpAny_alloc ?_)
  refine wpAny_bind (wpAny_holding (wpAny_bind (thn (h1.run pins _ σ _ _ I1 (q _ hn)) fun u s1 ⟨x, H1, I2, r1, a, kvs, ex, ne, e0, ra, l1, q1⟩ => ?_)))
  subst ex
  cases r1
  refine wpAny_bind (wpAny_standAt (wpAny_pure ?_))
  refine wpAny_bind (wpAny_onRaise (wpAny_tryCatch (wpAny_onRaise (wpAny_holding (merge_in I2 ne e0 ra (by simp) l1 fun s2 I3 => ?_)))))
  refine wpAny_pure ?_
  dsimp only
  simp only [List.isEmpty_nil, if_true]
  refine wpAny_bind (wpAny_bind (wpAny_pure ?_))
  dsimp only
  refine wpAny_bind (wpAny_pure ?_)
  refine wpAny_bind (wpAny_holding (wpAny_bind (thn (h2.run pins _ σ _ _ I3 q1) fun u s3 ⟨y, H2, I4, r2, b, acc, more, ey, ne2, e1', l2, rb, l3, q2⟩ => ?_)))
  subst ey
  cases r2
  refine wpAny_bind (wpAny_standAt (wpAny_pure ?_))
  refine wpAny_bind (wpAny_onRaise (wpAny_tryCatch (wpAny_onRaise (wpAny_holding (merge_in I4 ne2 e1' rb l2 l3 fun s4 I5 => ?_)))))
  refine wpAny_pure ?_
  dsimp only
  refine wpAny_pure ?_
  simp only [List.isEmpty_nil, if_true]
  refine wpAny_bind (wpAny_pure ?_)
  dsimp only
  exact wpAny_pure ⟨.ref _, _, I5, rfl, q2⟩
end
end L2
set_option Elab.async false
set_option linter.all false
set_option maxRecDepth 100000
set_option maxHeartbeats 4000000
namespace L2
open PySem PySem.Spec PyProof.Rows
/-- a def of the text, by its name, without defaults -/
structure Df (P : Program) (w : World) (K : PySem.W.Frag) (mg : Str → Option Value) (base : Heap) (k : Nat) (x : Str) (sp : Sp) : Prop where
  ex : ∃ (f : Addr) (fd : FuncData) (ps : List Str), FnOk P w K mg base CX0 k f fd ps sp ∧ mg x = some (.ref f) ∧ PySem.W.keepIn K (.ref f) = true ∧ Binds K fd ps []
/-- a method of the text's own, by its address -/
structure Mf (P : Program) (w : World) (K : PySem.W.Frag) (mg : Str → Option Value) (base : Heap) (k : Nat) (C : Addr) (m : Str) (sp : Sp) : Prop where
  ex : ∃ (f : Addr) (fd : FuncData) (ps : List Str), FnOk P w K mg base CX0 k f fd ps sp ∧ Meth K C m f ∧ Own K C m f ∧ PySem.W.fnIn K f = true ∧ Binds K fd ps []
section
variable {X : Cx} {k j : Nat} {C : Addr} {x m : Str} {sp : Sp} {p pos apos : Pos} {e o : Expr} {es : List Expr} {ta tb : TE} {t : TA}
theorem pe_c (c : Df X.prog X.w X.K X.mg X.base k x sp) (hr : Room j X.A) (hk : k ≤ j) (hg : Gl X x) (ha : PA X (e :: es) t)
    (hdb : (x == ("__debug__" : Str)) = false := by decide) (he : starEach (e :: es) X.env = (false, eval e X.env) :: starEach es X.env := by rfl) (hpl : (backTo pos (starEach es X.env)).any (·.1) = false := by rfl) :
    PE X (.Call (.Name x p) (e :: es) [] pos) (tCall sp [] E0 t) := by
  obtain ⟨f, fd, ps, F, hm, kp, b⟩ := c.ex
  exact pe_call F (hr.mono hk) hg hm kp b .nil pass0 ha hdb he hpl
theorem pe_ixO {a b : Expr} (c : Mf X.prog X.w X.K X.mg X.base k C "__getitem__" sp) (hr : Room j X.A) (hk : k + 1 ≤ j) (hA : PE X a ta) (hB : PE X b tb)
    (hsl : ∀ v u, subscripted b true v u = runValue (.builtin "lifetime.subscript" ⟨[v, u], []⟩) := by intro _ _; rfl) :
    PE X (.Subscript a b pos) (tOp (fun x y H Q => ∃ a dx fs, x = .ref a ∧ H a = some (.ins C dx fs) ∧ sp [.ref a, y] H Q E0) ta tb) := by
  obtain ⟨f, fd, ps, F, _, o, fi, b⟩ := c.ex
  exact pe_ixOwn F b pass0 o fi (hr.mono hk) hA hB hsl
end
end L2
set_option Elab.async false
set_option linter.all false
set_option maxRecDepth 100000
set_option maxHeartbeats 4000000
/-! The rules whose readings name X.K, with K said: for what stands in a comprehension's block. -/
namespace L2
open PySem PySem.Spec PyProof.Rows
section
variable {X : Cx} {K : PySem.W.Frag} {o e a b : Expr} {es : List Expr} {to ta tb : TE} {t : TA} {name f : Str} {apos cpos pos : Pos} {T id : String} {r : V → List V → Hp → VK → Prop}
theorem pe_bmK (hK : X.K = K) (pa : PlainAttrs T) (slot : Slot T name id) (hty : typeOf (.builtin id) = pure (.type "method_descriptor")) (hm : MtR X id r) (ho : PE X o to) (ha : PA X (e :: es) t) (hbase : attributeBase o name X.env (eval o X.env) = eval o X.env := by rfl) (hfew : ((backTo cpos (starEach (e :: es) X.env)).all (fun x => !x.1) && (backToKw cpos (keywordEach [] X.env)).all (fun x => x.1.isSome) && decide ((e :: es).length + ([] : List Keyword).length + (if ([] : List Keyword).isEmpty then 0 else 1) < 30)) = true := by rfl) (hline : (apos.endLine == cpos.line) = true := by rfl) (hs : starEach (e :: es) X.env = (false, eval e X.env) :: starEach es X.env := by rfl) (hplain : (backTo cpos (starEach es X.env)).any (·.1) = false := by rfl) :
    PE X (.Call (.Attribute o name apos) (e :: es) [] cpos) (tBM K T r to t) := by
  subst hK
  exact pe_bm pa slot hty hm ho ha hbase hfew hline hs hplain
theorem pe_fldK (hK : X.K = K) (he : PE X e ta) (hb : attributeBase e f X.env (eval e X.env) = eval e X.env) : PE X (.Attribute e f pos) (tFld K ta f) := by
  subst hK
  exact pe_fld he hb
def rLenSeq (K : PySem.W.Frag) : List V → Hp → VK → Prop := fun xs H Q => ∃ p ys, xs = [.ref p] ∧ (SqL K H p ys ∨ SqT K H p ys) ∧ Q (.int ys.length) H
theorem call_len_seqK (hK : X.K = K) : CallR X (.builtin "len") (rLenSeq K) := by
  subst hK
  exact call_len_seq
theorem ix_listK (hK : X.K = K) : IxR X (rIxL K) := by
  subst hK
  exact ix_list
theorem ix_tupK (hK : X.K = K) : IxR X (rIxT K) := by
  subst hK
  exact ix_tup
theorem sl_listK (hK : X.K = K) : SlR X (rSlL K) := by
  subst hK
  exact sl_list
theorem op_neDK (hK : X.K = K) (hu : X.A.units + 64 < cLine) : OpR X (compareOp .NotEq) (rNeD K) := by
  subst hK
  exact op_neD hu
theorem op_eqDK (hK : X.K = K) (hu : X.A.units + 64 < cLine) : OpR X (compareOp .Eq) (rEqD K) := by
  subst hK
  exact op_eqD hu
def rListOf (K : PySem.W.Frag) : List V → Hp → VK → Prop := fun xs H Q => ∃ p ys, xs = [.ref p] ∧ (SqL K H p ys ∨ SqT K H p ys) ∧ ∀ l, H l = none → Q (.ref l) (upd H l (.lst ys))
theorem call_list_ofK (hK : X.K = K) : CallR X (.type "list") (rListOf K) := by
  subst hK
  exact call_list_of
def rJoin (K : PySem.W.Frag) : V → List V → Hp → VK → Prop := fun x xs H Q => ∃ a p, ∃ ys : List Str, x = .str a ∧ xs = [.ref p] ∧ (SqL K H p (ys.map V.str) ∨ SqT K H p (ys.map V.str)) ∧ (ys.map (·.length)).sum + ys.length * a.length ≤ 16777216 ∧ Q (.str (Txt.join a ys)) H
theorem pe_joinK (hK : X.K = K) (ho : PE X o to) (he : PE X e ta) (hs : starEach [e] X.env = [(false, eval e X.env)] := by rfl) (hbase : attributeBase o "join" X.env (eval o X.env) = eval o X.env := by rfl) (hline : (apos.endLine == pos.line) = true := by rfl) : PE X (.Call (.Attribute o "join" apos) [e] [] pos) (tM1 (rJoin K) to ta) := by
  subst hK
  exact pe_join ho he hs hbase hline
theorem call_strS : CallR X (.type "str") (fun xs H Q => ∃ a, xs = [.str a] ∧ Q (.str a) H) := SkE.call_str_str
def rTupleOf (K : PySem.W.Frag) : List V → Hp → VK → Prop := fun xs H Q => ∃ p ys, xs = [.ref p] ∧ ((SqL K H p ys ∧ ∀ l, H l = none → Q (.ref l) (upd H l (.tup ys))) ∨ (SqT K H p ys ∧ Q (.ref p) H))
theorem call_tuple_ofK (hK : X.K = K) : CallR X (.type "tuple") (rTupleOf K) := by
  subst hK
  exact call_tuple_of
end
end L2
set_option Elab.async false
set_option linter.all false
set_option maxRecDepth 100000
set_option maxHeartbeats 4000000
namespace L2
open PySem PySem.Spec PyProof.Rows
/-- a name of the module holds a value -/
def GV (mg : Str → Option Value) (x : Str) (v : V) : Prop := ∃ u, mg x = some u ∧ RelV v u
theorem pe_gv {X : Cx} {x : Str} {v : V} {pos : Pos} (h : GV X.mg x v) (hg : Gl X x) (hd : (x == ("__debug__" : Str)) = false := by decide) : PE X (.Name x pos) (tC v) := by
  obtain ⟨u, h1, h2⟩ := h
  exact pe_glob hg h1 h2 hd
theorem pj_nil {X : Cx} : PJ X [] [] := .nil
theorem pj_cons {X : Cx} {e : Expr} {t : TE} {es : List Expr} {ts : List TE} (h : PE X e t) (r : PJ X es ts) : PJ X (e :: es) (t :: ts) := .cons h r
/-- a dict comprehension over what a Walk tells -/
theorem dc_it {J : It} {m : Nat} {G : Hp → Prop} {Y : Nat → Hp → V → Hp → Prop} (w : Walk J m G Y) {g : TG} {tt : TT} {tk tv : TE} {own : List Nat} {σ : St} {H1 : Hp} {D : Addr} {Qd : Hp → Prop} (Pv : Nat → Hp → Prop) (start : Pv 0 (upd H1 D (.dK []))) (keeps : ∀ i H, i ≤ m → Pv i H → G H)
    (turn : ∀ i x H H', i < m → Pv i H → Y i H x H' → g x (wipe σ own) H' fun σ2 H2 => wipe σ2 own = wipe σ own ∧ tt σ2 H2 fun b H3 =>
      if b = true then tk σ2 H3 fun y H4 => tv σ2 H4 fun z H5 => ∃ kvs k, y = kV k ∧ H5 D = some (.dK kvs) ∧ kvs.length < sizeLine ∧ Pv (i + 1) (upd H5 D (.dK (putK kvs k z))) else Pv (i + 1) H3) (done : ∀ H, Pv m H → Qd H) :
    ∃ W : Nat → Nat → Hp → Prop, (∃ j, W 0 j (upd H1 D (.dK []))) ∧ ∀ i j H, W i j H →
      (J.stop i H ∧ Qd H) ∨ (J.go i H ∧ ∃ Nx : Hp → Prop, (∀ H', Nx H' → ∃ j', j' < j ∧ W (i + 1) j' H') ∧ ∀ x H', J.yld i H x H' → g x (wipe σ own) H' fun σ2 H2 => wipe σ2 own = wipe σ own ∧ tt σ2 H2 fun b H3 =>
        if b = true then tk σ2 H3 fun y H4 => tv σ2 H4 fun z H5 => ∃ kvs k, y = kV k ∧ H5 D = some (.dK kvs) ∧ kvs.length < sizeLine ∧ Nx (upd H5 D (.dK (putK kvs k z))) else Nx H3) := by
  refine ⟨fun i j H => j = m - i ∧ i ≤ m ∧ Pv i H, ⟨m, by simp, Nat.zero_le _, start⟩, ?_⟩
  rintro i j H ⟨rfl, hi, pv⟩
  have kp := keeps i H hi pv
  rcases Nat.lt_or_ge i m with less | more
  · exact .inr ⟨w.goes i H less kp, Pv (i + 1), fun H' p' => ⟨m - (i + 1), by omega, rfl, less, p'⟩, fun x H' y => turn i x H H' less pv (w.yields i H x H' less kp y)⟩
  · obtain rfl : i = m := Nat.le_antisymm hi more
    exact .inl ⟨w.stops H kp, done H pv⟩
section
variable {X : Cx}
/-- y = {k: v for ..}: the name is stored within the comprehension's frame -/
theorem ps_setDc {j : Nat} {y : Str} {yp : Pos} {kx vx tg iter : Expr} {ifs : List Expr} {scope : Scope} {own : List (Str × Nat)} {cp sp : Pos} {wi : TI} {g : TG} {tt : TT} {tk tv : TE} (calm : X.calm = true) (nodup : X.N.Nodup) (atJ : X.N[j]? = some y) (isLoc : X.env.scope.names.lookup y = some .local)
    (swaps : swapsWith (.DictComp kx vx [⟨tg, iter, ifs, 0⟩] scope cp) (some (.Name y yp)) sp.line X.env = pure true) (walks : PI X tg iter wi) (blk : BlkOk X.N X.env.scope scope own)
    (target : ∀ (s : Shared) (H : Hp) (C : Addr) (cl : List (Str × Addr)) (fp : List Addr), PG (X.blk s H scope (compEnvC scope cl C X.env) fp) tg g) (tests : ∀ (s : Shared) (H : Hp) (C : Addr) (cl : List (Str × Addr)) (fp : List Addr), PTs (X.blk s H scope (compEnvC scope cl C X.env) fp) ifs tt)
    (keys : ∀ (s : Shared) (H : Hp) (C : Addr) (cl : List (Str × Addr)) (fp : List Addr), PE (X.blk s H scope (compEnvC scope cl C X.env) fp) kx tk)
    (vals : ∀ (s : Shared) (H : Hp) (C : Addr) (cl : List (Str × Addr)) (fp : List Addr), PE (X.blk s H scope (compEnvC scope cl C X.env) fp) vx tv) (plain : ∀ x, foldedSetIterable iter X.env x = pure x := by intro _; rfl) :
    PS X (.Assign [.Name y yp] (.DictComp kx vx [⟨tg, iter, ifs, 0⟩] scope cp) sp) (tAsg (tDc wi g tt tk tv (own.map (·.2))) (gName j)) := by
  refine ⟨fun pins s σ H D I want => ?_⟩
  rw [exec_Assign_Name_used _ _ _ _ swaps]
  refine wpAny_bind (wpAny_standAt (wpAny_bind ?_))
  show wpAny _ X.A (do let _ ← comprehension (.DictComp kx vx [⟨tg, iter, ifs, 0⟩] scope cp) scope X.env (firstIterPos [⟨tg, iter, ifs, 0⟩] cp) newDict false (eval iter X.env) (some (assign (.Name y yp) X.env))) _ _ s
  have want' : tDc wi g tt tk tv (own.map (·.2)) σ H (fun x H1 => gName j x σ H1 D.nx) := want
  refine wpAny_bind (thn (dc_core (Qf := fun _ s' => SP X pins D .next s') calm nodup I walks blk target tests keys vals plain want' fun made frame s' m H' J q hn young => ?_) fun _ s' z => wpAny_pure (wpAny_pure z))
  show wpAny _ _ (assign (.Name y yp) X.env (.ref made)) _ _ _
  refine wpAny_assign_Name (store_ok2 (v := V.ref made) J nodup atJ (.inl isLoc) rfl (fun s2 J2 ⟨a, but, isA⟩ => ?_) (.inr isLoc))
  obtain ⟨y0, y1, y2, y3, y4, y5⟩ := young
  have apart : frame ≠ a := by
    rcases isA with z | z
    · rw [z]
      exact y1
    · intro e
      exact y4 y a z e.symm
  refine ⟨m, hn.sameBut but apart, fun h3 but3 => ?_⟩
  exact ⟨_, H', J2.turned (t' := s2.toks) (fun b o hb e => (but3.2 b hb).trans e) y0 y1 y3 y4 y5, q⟩
theorem sw_trueD {kx vx : Expr} {gs : List Comprehension} {scope : Scope} {pos py : Pos} {y : Str} {l : Nat} {env : Env} (isFun : env.scope.kind = .function) (isLoc : env.scope.names.lookup y = some .local) (line : (py.line == pos.line) = true)
    (apart : (scope.names.any fun (n, k) => n == y && (k == .local || k == .cell)) = false) : swapsWith (.DictComp kx vx gs scope pos) (some (.Name y py)) l env = pure true := by
  have k1 : env.kindOf y = some .local := isLoc
  have k2 : env.blockKind = .function := by
    unfold Env.blockKind
    rw [isFun]
    rfl
  unfold swapsWith
  simp only [k2, k1, apart, Expr.pos, line]
  rfl
end
/-- not x, by truth, K said -/
theorem pe_notTK {X : Cx} {K : PySem.W.Frag} {a : Expr} {ta : TE} {pos : Pos} (hK : X.K = K) (ha : PE X a ta) : PE X (.UnaryOp .Not a pos) (tNotT K ta) := by
  subst hK
  exact pe_notT ha
end L2
set_option Elab.async false
set_option linter.all false
set_option maxRecDepth 100000
set_option maxHeartbeats 4000000
/-! Dicts of texts compared both ways; a staticmethod called by the class's name. -/
namespace L2
open PySem PySem.Spec PyProof.Rows
/-- C.m is a staticmethod: its record at p, its def at g -/
structure SMet (K : PySem.W.Frag) (C : Addr) (mc : Value) (m : Str) (p g : Addr) : Prop where
  at_ : PySem.W.findCls K (.ref C) mc m = some (.get (.builtin "staticmethod.__get__") (.ref p) .none (.ref C))
  rc : ∃ rest, PySem.W.recIn K p "staticmethod" = some (.ref g :: rest)
  kp : PySem.W.keepIn K (.ref g) = true
section
variable {X : Cx} {CX : CXT} {k : Nat} {C p g : Addr} {mc : Value} {sp : Sp} {E : XK} {o e : Expr} {es : List Expr} {m : Str} {pos apos : Pos} {ta : TE} {t : TA} {pl : Sem Bool} {fd : FuncData} {ps : List Str}
theorem getmethsm_ok {pins : List (Addr × Obj)} {σ : L2.St} {H : Hp} {s : Shared} {A : Around} {E : Value → Shared → Prop} {Q : Value × List Value → Shared → Prop} (I : Inv X pins σ H s) (r : ClX.CRead X.K C mc) (k : SMet X.K C mc m p g)
    (h : ∀ s', Inv X pins σ H s' → Q (.ref g, []) s') : wpAny (model X.prog X.w) A (getMethod (.ref C) m pl) Q E s := by
  obtain ⟨rest, hp⟩ := k.rc
  refine PySem.W.method_cls I.kIn r.ga ?_
  refine PySem.W.cls_bind I.kIn r.rd k.at_ ?_
  refine wpAny_call (PySem.W.sm_get (s := { s with toks := s.toks + 1 }) I.kIn hp (PySem.W.handed_on rfl ?_))
  exact h _ (I.tok _)
/-- e.m(..), e the class at C, m a staticmethod -/
def tSMeth (C : Addr) (sp : Sp) (E : XK) (ta : TE) (t : TA) : TE := fun σ H Q => ta σ H fun x H1 => x = .ref C ∧ t σ H1 fun vs H2 => sp vs H2 Q E
theorem pe_smeth (he : PE X o ta) (r : ClX.CRead X.K C mc) (c : SMet X.K C mc m p g) (F : FnOk X.prog X.w X.K X.mg X.base CX k g fd ps sp) (hr : Room k X.A) (hb : Binds X.K fd ps []) (hx : Passes CX X E) (ha : PA X (e :: es) t)
    (hst : starEach (e :: es) X.env = (false, eval e X.env) :: starEach es X.env := by rfl) (hpl : (backTo pos (starEach es X.env)).any (·.1) = false := by rfl)
    (ht : eval (.Call (.Attribute o m apos) (e :: es) [] pos) X.env = (do
      let ov ← eval o X.env
      standAt apos.atName
      let (f, first) ← holding [ov] (getMethod ov m pl)
      callWith pos f first (backTo pos (starEach (e :: es) X.env)) (backToKw pos (keywordEach [] X.env))) := by rfl) :
    PE X (.Call (.Attribute o m apos) (e :: es) [] pos) (tSMeth C sp E ta t) := by
  refine ⟨fun pins s σ H Q I h => ?_⟩
  refine PySem.W.methodCall_KW (pl := pl) (thn (he.run pins s σ H _ I h) fun u s1 ⟨x, H1, I1, rx, ex, q⟩ => ?_) ht
  subst ex
  obtain rfl : u = Value.ref C := rx
  refine getmethsm_ok I1 r c fun s2 I2 => ?_
  refine PySem.W.callWith_K (h₀ := X.base) I.ok.mod.kin c.kp (thn (ha.run pos pins s2 σ H1 _ I2 q) fun us s3 ⟨vs, H2, I3, rv, q2⟩ => ⟨I3.kIn, ?_⟩) hst hpl
  exact run_fn (us := us) (dvs := []) (ds := []) F hr hb .nil hx I3 rv (by rw [List.append_nil]; exact q2)
end
/-- f'..' of two parts or more, by a name -/
def tJo (ts : List TE) : TE := fun σ H Q => tJs ts Str.empty σ H fun out H1 => Q (.str out) H1
theorem pe_joinedT {X : Cx} {v1 v2 : Expr} {rest : List Expr} {ts : List TE} {pos : Pos} (h : PJ X (v1 :: v2 :: rest) ts) : PE X (.JoinedStr (v1 :: v2 :: rest) pos) (tJo ts) := pe_joined h
end L2
set_option Elab.async false
set_option linter.all false
set_option maxRecDepth 100000
set_option maxHeartbeats 4000000
/-! An own error's `__init__` that calls the base error's by the base's name, where the base has none of its own. -/
namespace L2
open PySem PySem.Spec PyProof.Rows
end L2
set_option Elab.async false
set_option linter.all false
set_option maxRecDepth 100000
set_option maxHeartbeats 4000000
/-! a | b, a >> b .. by an own method, both of the same class; a <= b by an own one (its answer a bool). -/
namespace L2
open PySem PySem.Spec PyProof.Rows
end L2
set_option Elab.async false
set_option linter.all false
set_option maxRecDepth 100000
set_option maxHeartbeats 4000000
/-! enumerate(text). -/
namespace L2
open PySem PySem.Spec PyProof.Rows
/-- the signs of a text, each in a new pair behind its number -/
def ItSe (z : Str) : It :=
  ⟨fun i _ => i < z.cps.size, fun i H v H' => ∃ T c, v = .ref T ∧ H T = none ∧ H' = upd H T (.tup [.int (i : Nat), .str ⟨#[c]⟩]) ∧ z.cps[i]? = some c, fun i _ => i = z.cps.size⟩
theorem turn_enumS {P : Program} {w : World} {K : PySem.W.Frag} {elts : List Expr} {kk : Nat} {tpos : Pos} (z : Str) (t : Tok) (e it : Addr) :
    Turn P w K (.Tuple elts kk tpos) (ItSe z) [e, it] e (fun i h => (∃ old, IsEnum h e it ((i : Nat) : Int) old) ∧ h.IsStrIter it (strIterType z) z t i ∧ e ≠ it) where
  mem := by simp
  obj := fun i h st b hb => by
    obtain ⟨⟨old, he⟩, ⟨o, ho, hc, hd⟩, _⟩ := st
    have e' : b = e ∨ b = it := by simpa using hb
    rcases e' with z | z
    · rw [z]; exact ⟨_, he, fun v q => nomatch q⟩
    · rw [z]; exact ⟨o, ho, fun v q => by rw [hd] at q; cases q⟩
  keep := fun i h h' st k => by
    obtain ⟨⟨old, he⟩, ⟨o, ho, r⟩, hne⟩ := st
    exact ⟨⟨old, k e (by simp) _ he⟩, ⟨o, k it (by simp) o ho, r⟩, hne⟩
  item := by
    intro X hP hw hK hc i pins s σ H E I hf st hg
    subst hP hw hK
    obtain ⟨⟨old, he⟩, hit, hne⟩ := st
    have hel : e < s.heap.objs.size := Heap.lt_size he
    have hil : it < s.heap.objs.size := by obtain ⟨_, q, _⟩ := hit; exact Heap.lt_size q
    refine wpAny_pyNext_enum_itemD (Draws.text (A := X.A.in1) (I.ok.hd hc) it z t) he hit hg hne (by simpa using hne) fun x h' tk hx ho hit' hT hsz hk => ?_
    obtain ⟨c, u, hcx, rfl⟩ := hx
    refine ⟨_, rfl, wpAny_letOwnedTupleGo_enum (s := { s with heap := h', toks := tk + 1 }) ho fun h'' he' sb => ?_⟩
    have hT2 : h''.get? s.heap.objs.size = some { cls := .type "tuple", data := .seq #[.int i tk, .str ⟨#[c]⟩ u] } := (sb.2 _ (Nat.ne_of_gt hel)).trans hT
    have new : ObjOk X.prog X.w (upd H s.heap.objs.size (.tup [.int (i : Nat), .str ⟨#[c]⟩])) h'' s.heap.objs.size (.tup [.int (i : Nat), .str ⟨#[c]⟩]) :=
      ⟨by show 2 ≤ sizeLine; decide, [.int i tk, .str ⟨#[c]⟩ u], .cons ⟨_, rfl⟩ (.cons ⟨_, rfl⟩ .nil), ⟨_, hT2, rfl, _, rfl⟩⟩
    have I1 : Inv X pins σ (upd H s.heap.objs.size (.tup [.int (i : Nat), .str ⟨#[c]⟩])) { s with heap := h'', toks := tk + 1 } :=
      I.turnedNew (ch := [e, it]) (fun b ob hb q => (sb.2 b (fun z => hb (by simp [z]))).trans (hk b ob (fun z => hb (by simp [z])) (fun z => hb (by simp [z])) q)) hf (Nat.le_refl _) new
    refine ⟨.ref s.heap.objs.size, _, I1, rfl, ⟨_, c, rfl, I.hok.fresh (Nat.le_refl _), rfl, hcx⟩, ⟨⟨.str ⟨#[c]⟩ u, ?_⟩, ?_, hne⟩, fun b hb => ?_⟩
    · have e1 : ((i + 1 : Nat) : Int) = (i : Int) + 1 := by omega
      rw [e1]; exact he'
    · obtain ⟨o, q, r⟩ := hit'
      exact ⟨o, (sb.2 it (Ne.symm hne)).trans q, r⟩
    · have hb' : b < s.heap.objs.size := by
        have e' : b = e ∨ b = it := by simpa using hb
        rcases e' with z | z
        · rw [z]; exact hel
        · rw [z]; exact hil
      rw [upd_ne (Nat.ne_of_lt hb')]
      exact (hf b hb).1
  done := by
    intro X hP hw hK hc i pins s σ H E I hf st hg
    subst hP hw hK
    obtain ⟨⟨old, he⟩, hit, hne⟩ := st
    have hi : i = z.cps.size := hg
    obtain ⟨f0, f1, f2, f3, f4, f5⟩ := hf it (by simp)
    subst hi
    exact wpAny_pyNext_enum_endD (Draws.text (A := X.A.in1) (I.ok.hd hc) it z t) he hit fun h' eb => ⟨rfl, I.turned (t' := s.toks) (fun b o hb q => eb b o hb q) f0 f1 f3 f4 f5⟩
  self := fun A i s Q E st h => let ⟨⟨_, he⟩, _⟩ := st; wpAny_pyIter_enum he h
def iEnumS (ta : TA) : TI := fun σ H R => ta σ H fun vs H1 => ∃ z, vs = [.str z] ∧ R (ItSe z) H1
theorem pi_enumS {X : Cx} {e : Expr} {ta : TA} {p pos tpos : Pos} {elts : List Expr} {kk : Nat} (hg : Gl X "enumerate") (hm : X.mg "enumerate" = none) (ha : PA X [e] ta) (hs : starEach [e] X.env = [(false, eval e X.env)] := by rfl) :
    PI X (.Tuple elts kk tpos) (.Call (.Name "enumerate" p) [e] [] pos) (iEnumS ta) := by
  refine ⟨fun pins s σ H R I h => ?_⟩
  refine Call_ (ld_blt I hg hm boot_enumerate (PyProof.Rows.callWith_type1 (thn (ha.run pos pins s σ H _ I h) fun us s1 ⟨vs, H1, I1, r1, q1⟩ => ?_) hs rfl))
  obtain ⟨z, ex, q⟩ := q1
  subst ex
  cases r1 with
  | cons r rr =>
    cases rr
    obtain ⟨t, rfl⟩ := r
    refine call_enumerate_str fun h' he hit hsz hk => wpAny_pyIter_enum he ?_
    have I2 : Inv X pins σ H1 { s1 with heap := h' } := I1.kept (t' := s1.toks) hk
    refine ⟨s1.heap.objs.size + 1, [s1.heap.objs.size + 1, s1.heap.objs.size], _, _, H1, rfl, I2, turn_enumS z t (s1.heap.objs.size + 1) s1.heap.objs.size, ⟨⟨.none, he⟩, hit, Nat.succ_ne_self _⟩, fun b hb => ?_, q⟩
    have e' : b = s1.heap.objs.size + 1 ∨ b = s1.heap.objs.size := by simpa using hb
    have hle : s1.heap.objs.size ≤ b := by
      rcases e' with z | z
      · rw [z]; exact Nat.le_add_right _ _
      · rw [z]; exact Nat.le_refl _
    exact I1.fpOk hle (I1.hok.fresh hle)
theorem walk_enumS {z : Str} : Walk (ItSe z) z.cps.size (fun _ => True) (fun i H v H' => ∃ T c, v = .ref T ∧ H T = none ∧ H' = upd H T (.tup [.int (i : Nat), .str ⟨#[c]⟩]) ∧ z.cps[i]? = some c) :=
  ⟨fun _ _ hi _ => hi, fun _ _ => rfl, fun _ _ _ _ _ _ y => y⟩
end L2
set_option Elab.async false
set_option linter.all false
set_option maxRecDepth 100000
set_option maxHeartbeats 4000000
/-! Signs of an own class by its own methods, by an address; a ** k. -/
namespace L2
open PySem PySem.Spec PyProof.Rows
/-- what the sign of the power asks of int -/
structure IntP (K : PySem.W.Frag) (C : Addr) : Prop where
  rp : PySem.W.findIn K (.ref C) "__rpow__" = some none
  h1 : ∃ fo, PySem.W.findIn K (.type "int") "__pow__" = some fo
  h2 : ∃ ro, PySem.W.findIn K (.type "int") "__rpow__" = some ro
  sub : PySem.W.subIn K (.type "int") (.ref C) = some false
section
variable {X : Cx} {k j : Nat} {C : Addr} {sp : Sp}
theorem pe_mt {pl : Sem Bool} {m : Str} {o e : Expr} {es : List Expr} {apos pos : Pos} {ta : TE} {t : TA} (c : Cls X.K C) (D : Mf X.prog X.w X.K X.mg X.base k C m sp) (hr : Room j X.A) (hk : k ≤ j) (he : PE X o ta) (ha : PA X (e :: es) t)
    (hst : starEach (e :: es) X.env = (false, eval e X.env) :: starEach es X.env := by rfl) (hpl : (backTo pos (starEach es X.env)).any (·.1) = false := by rfl)
    (ht : eval (.Call (.Attribute o m apos) (e :: es) [] pos) X.env = (do
      let ov ← eval o X.env
      standAt apos.atName
      let (f, first) ← holding [ov] (getMethod ov m pl)
      callWith pos f first (backTo pos (starEach (e :: es) X.env)) (backToKw pos (keywordEach [] X.env))) := by rfl) :
    PE X (.Call (.Attribute o m apos) (e :: es) [] pos) (tMeth C m sp [] E0 ta t) := by
  obtain ⟨f, fd, ps, F, hm, _, _, b⟩ := D.ex
  exact pe_meth (pl := pl) he c hm F (hr.mono hk) b .nil pass0 ha hst hpl ht
end
end L2
set_option Elab.async false
set_option linter.all false
set_option maxRecDepth 100000
set_option maxHeartbeats 4000000
/-! try: .. except E as n: k = n, where k is read later: the caught exception becomes a thing of the abstract heap. -/
namespace L2
open PySem PySem.Spec PyProof.Rows
end L2
set_option Elab.async false
set_option linter.all false
set_option maxRecDepth 100000
set_option maxHeartbeats 4000000
/-! A kept exception: isinstance, its fields. -/
namespace L2
open PySem PySem.Spec PyProof.Rows
end L2
set_option Elab.async false
set_option linter.all false
set_option maxRecDepth 100000
set_option maxHeartbeats 4000000
/-! A classmethod called by the class's name, with keywords. -/
namespace L2
open PySem PySem.Spec PyProof.Rows ClX
end L2
set_option Elab.async false
set_option linter.all false
set_option maxRecDepth 100000
set_option maxHeartbeats 4000000
/-! Lambdas as values: made, kept in lists, called later by a def that gets them. -/
namespace LamX
open PySem PySem.Spec PyProof.Rows L2
/-- the object at f is known -/
def FnO (f : Addr) (o : Obj) : HO := .ext fun h => h.get? f = some o
/-- the object that a lambda of X makes -/
abbrev lamObj (X : Cx) (params : Arguments) (body : Expr) (scope : Scope) (pm ctv : Value) (c' : Addr) : Obj :=
  PySem.W.kla_obj "<lambda>" (X.env.qual ++ "<lambda>") params body scope (cloFrom X.env.cells scope.names []) pm c' ctv
/-- at f stands a lambda of X -/
def LamO (X : Cx) (H : Hp) (f : Addr) (params : Arguments) (body : Expr) (scope : Scope) : Prop :=
  ∃ (c' : Addr) (pm ctv : Value), H f = some (FnO f (lamObj X params body scope pm ctv c')) ∧ H c' = some (CodeO c' (X.env.qual ++ "<lambda>"))
theorem fnO_ne {f : Addr} {o : Obj} (ps : Array Value) : FnO f o ≠ .tbl ps := fun z => by
  unfold FnO at z
  cases z
theorem LamO.ext {X : Cx} {H H' : Hp} {f : Addr} {params : Arguments} {body : Expr} {scope : Scope} (l : LamO X H f params body scope) (e : ExtN H H') : LamO X H' f params body scope := by
  obtain ⟨c', pm, ctv, h1, h2⟩ := l
  exact ⟨c', pm, ctv, e _ _ h1 fnO_ne, e _ _ h2 codeO_ne⟩
end LamX
set_option Elab.async false
set_option linter.all false
set_option maxRecDepth 100000
set_option maxHeartbeats 4000000
/-! A def that calls what it got, where what it got is a lambda kept before. -/
set_option Elab.async false
set_option linter.all false
set_option maxRecDepth 100000
set_option maxHeartbeats 4000000
/-! zip(text, text). -/
namespace L2
open PySem PySem.Spec PyProof.Rows
end L2
set_option Elab.async false
set_option linter.all false
set_option maxRecDepth 100000
set_option maxHeartbeats 4000000
/-! text * k. -/
namespace L2
open PySem PySem.Spec PyProof.Rows
end L2
set_option Elab.async false
set_option linter.all false
set_option maxRecDepth 100000
set_option maxHeartbeats 4000000
/-! Equal dicts, whose values are data of any depth; iter(a dict) and loops by it. -/
namespace L2
open PySem PySem.Spec PyProof.Rows ItX
end L2
set_option Elab.async false
set_option linter.all false
set_option maxRecDepth 100000
set_option maxHeartbeats 4000000
/-! enumerate(a tuple). -/
namespace PySem
/-- enumerate's cells over what begins as B tells -/
theorem enumNewB {v : Value} {o : Obj} {H : Heap → Prop} (B : Begins v o H) :
    Meets (Builtin.«enumerate.__new__» ⟨[.type "enumerate", v], []⟩) (fun _ R s => H s.heap ∧
      R (.ok (.ret (.ref (s.heap.push o).objs.size))) { s with heap := (s.heap.push o).push { cls := .type "enumerate", data := .fields #[.none, .bool false, .ref s.heap.objs.size, rawInt 0, .none, .none] } }) :=
  .of_wp fun prog w A R s h => by
    obtain ⟨hp, g, d, tk, os⟩ := s
    obtain ⟨h1, h⟩ := h
    have sb := sub_enumerate
    have bg : ∀ {A' : Around} {E : Value → Shared → Prop} {Q : Value → Shared → Prop}, Q (.ref hp.objs.size) ⟨hp.push o, g, d, tk, os⟩ → wpAny (model prog w) A' (pyIter v) Q E ⟨hp, g, d, tk, os⟩ :=
      fun q => B.iter prog w _ _ ⟨hp, g, d, tk, os⟩ _ h1 q
    wp_walk using bg
    refine wpAny_stack_any fun _ => wpAny_pure ?_
    split
    · rename_i c _ _ _ _ _
      by_cases hc : (c == Value.type "enumerate") = true
      all_goals
        simp only [hc]
        wp_walk using bg
        exact ⟨_, rfl, h⟩
    · wp_walk using bg
      exact ⟨_, rfl, h⟩
theorem enumCall {prog : Program} {w : World} {A : Around} {E : Value → Shared → Prop} {s : Shared} {v : Value} {o : Obj} {H : Heap → Prop} {Q : Value → Shared → Prop} (B : Begins v o H) (h1 : H s.heap)
    (h : ∀ h', IsEnum h' (s.heap.objs.size + 1) s.heap.objs.size 0 .none → h'.get? s.heap.objs.size = some o → (∀ b o, s.heap.get? b = some o → h'.get? b = some o) → Q (.ref (s.heap.objs.size + 1)) { s with heap := h' }) :
    wpAny (model prog w) A (call (.type "enumerate") [v]) Q E s := by
  have sz : (s.heap.push o).objs.size = s.heap.objs.size + 1 := Heap.size_push ..
  refine callType_new F.called_enumerate (by decide) (F.typeCall_enumerate_1 _) (F.newCall_enumerate_1 _) (fun obj => F.args_object_init_2 obj _) F.entry_enumerate_new (enumNewB B) ⟨h1, ?_⟩
  show _ ∧ _
  have e1 := Heap.get?_push_size (s.heap.push o) (o := { cls := .type "enumerate", data := .fields #[.none, .bool false, .ref s.heap.objs.size, rawInt 0, .none, .none] }) rfl
  rw [sz] at e1 ⊢
  exact ⟨⟨_, e1, rfl⟩, h _ e1 (Heap.get?_push_of_some _ (Heap.get?_push_size _ B.free)) fun b u e => Heap.get?_push_of_some _ (Heap.get?_push_of_some _ e)⟩
end PySem
namespace L2
open PySem PySem.Spec PyProof.Rows
/-- the items of the tuple at a, each in a new pair behind its number -/
def ItTe (K : PySem.W.Frag) (a : Addr) : It :=
  ⟨fun i H => ∃ (xs : List V) (x : V), SqT K H a xs ∧ xs[i]? = some x, fun i H v H' => ∃ T x, v = .ref T ∧ H T = none ∧ H' = upd H T (.tup [.int (i : Nat), x]) ∧ ∀ xs, SqT K H a xs → xs[i]? = some x, fun i H => ∃ xs : List V, SqT K H a xs ∧ xs.length = i⟩
theorem turn_enumT {P : Program} {w : World} {K : PySem.W.Frag} {elts : List Expr} {kk : Nat} {tpos : Pos} (a e it : Addr) :
    Turn P w K (.Tuple elts kk tpos) (ItTe K a) [e, it] e (fun i h => (∃ old, IsEnum h e it ((i : Nat) : Int) old) ∧ h.IsTupleIter it a i ∧ e ≠ it) where
  mem := by simp
  obj := fun i h st b hb => by
    obtain ⟨⟨old, he⟩, ⟨o, ho, hc, hd⟩, _⟩ := st
    rcases (show b = e ∨ b = it by simpa using hb) with z | z
    · rw [z]; exact ⟨_, he, fun v q => nomatch q⟩
    · rw [z]; exact ⟨o, ho, fun v q => by rw [hd] at q; cases q⟩
  keep := fun i h h' st k => by
    obtain ⟨⟨old, he⟩, ⟨o, ho, r⟩, hne⟩ := st
    exact ⟨⟨old, k e (by simp) _ he⟩, ⟨o, k it (by simp) o ho, r⟩, hne⟩
  item := by
    intro X hP hw hK hc i pins s σ H E I hf st hg
    subst hP hw hK
    obtain ⟨⟨old, he⟩, hit, hne⟩ := st
    obtain ⟨xs, x, hq, hx⟩ := hg
    obtain ⟨its, rv, p, hz⟩ := I.tuple hq
    obtain ⟨u, hu, ru⟩ := rv.get hx
    have hi : i < its.toArray.size := by
      obtain ⟨hh, _⟩ := List.getElem?_eq_some_iff.mp hu
      simpa using hh
    have hel : e < s.heap.objs.size := Heap.lt_size he
    have hil : it < s.heap.objs.size := by obtain ⟨_, q, _⟩ := hit; exact Heap.lt_size q
    have pt : s.heap.IsTuple a its.toArray := p
    have nat : a ≠ it := by
      intro z
      obtain ⟨o1, q1, c1, _⟩ := pt
      obtain ⟨o2, q2, c2, _⟩ := hit
      rw [z, q2] at q1
      cases q1
      rw [c1] at c2
      exact absurd (Value.type.inj c2) (by decide)
    have nae : e ≠ a := by
      intro z
      obtain ⟨o1, q1, c1, _⟩ := pt
      have he' : s.heap.get? e = some _ := he
      rw [z, q1] at he'
      have z2 := Option.some.inj he'
      rw [z2] at c1
      have c3 : Value.type "enumerate" = .type "tuple" := c1
      exact absurd (Value.type.inj c3) (by decide)
    refine wpAny_pyNext_enum_itemD (Draws.tuple (A := X.A.in1) (I.ok.hd hc) it a nat its.toArray) he ⟨hit, pt⟩ hi hne (by simp [hne, nae]) fun y h' tk hy ho hit' hT hsz hk => ?_
    have ey : y = u := by
      have hy' : its[i]? = some y := by simpa using hy
      rw [hu] at hy'
      exact (Option.some.inj hy').symm
    subst ey
    refine ⟨_, rfl, wpAny_letOwnedTupleGo_enum (s := { s with heap := h', toks := tk + 1 }) ho fun h'' he' sb => ?_⟩
    have hT2 : h''.get? s.heap.objs.size = some { cls := .type "tuple", data := .seq #[.int i tk, y] } := (sb.2 _ (Nat.ne_of_gt hel)).trans hT
    have new : ObjOk X.prog X.w (upd H s.heap.objs.size (.tup [.int (i : Nat), x])) h'' s.heap.objs.size (.tup [.int (i : Nat), x]) :=
      ⟨by show 2 ≤ sizeLine; decide, [.int i tk, y], .cons ⟨_, rfl⟩ (.cons ru .nil), ⟨_, hT2, rfl, _, rfl⟩⟩
    have I1 : Inv X pins σ (upd H s.heap.objs.size (.tup [.int (i : Nat), x])) { s with heap := h'', toks := tk + 1 } :=
      I.turnedNew (ch := [e, it]) (fun b ob hb q => (sb.2 b (fun z => hb (by simp [z]))).trans (hk b ob (fun z => hb (by simp [z])) (fun z => hb (by simp [z])) q)) hf (Nat.le_refl _) new
    refine ⟨.ref s.heap.objs.size, _, I1, rfl, ⟨_, x, rfl, I.hok.fresh (Nat.le_refl _), rfl, fun ys hy => by rw [I.tuple_inj hy hq]; exact hx⟩, ⟨⟨y, ?_⟩, ?_, hne⟩, fun b hb => ?_⟩
    · have e1 : ((i + 1 : Nat) : Int) = (i : Int) + 1 := by omega
      rw [e1]; exact he'
    · obtain ⟨o, q, r⟩ := hit'.1
      exact ⟨o, (sb.2 it (Ne.symm hne)).trans q, r⟩
    · have hb' : b < s.heap.objs.size := by
        rcases (show b = e ∨ b = it by simpa using hb) with z | z
        · rw [z]; exact hel
        · rw [z]; exact hil
      rw [upd_ne (Nat.ne_of_lt hb')]
      exact (hf b hb).1
  done := by
    intro X hP hw hK hc i pins s σ H E I hf st hg
    subst hP hw hK
    obtain ⟨⟨old, he⟩, hit, hne⟩ := st
    obtain ⟨xs, hq, hx⟩ := hg
    obtain ⟨its, rv, p, hz⟩ := I.tuple hq
    have hl := rv.length
    have pt : s.heap.IsTuple a its.toArray := p
    have nat : a ≠ it := by
      intro z
      obtain ⟨o1, q1, c1, _⟩ := pt
      obtain ⟨o2, q2, c2, _⟩ := hit
      rw [z, q2] at q1
      cases q1
      rw [c1] at c2
      exact absurd (Value.type.inj c2) (by decide)
    have hi : its.toArray.size = i := by
      rw [List.size_toArray]
      omega
    obtain ⟨f0, f1, f2, f3, f4, f5⟩ := hf it (by simp)
    exact wpAny_pyNext_enum_endD (Draws.tuple (A := X.A.in1) (I.ok.hd hc) it a nat its.toArray) he (by rw [hi]; exact ⟨hit, pt⟩) fun h' eb => ⟨rfl, I.turned (t' := s.toks) (fun b o hb q => eb b o hb q) f0 f1 f3 f4 f5⟩
  self := fun A i s Q E st h => let ⟨⟨_, he⟩, _⟩ := st; wpAny_pyIter_enum he h
def iEnumT (K : PySem.W.Frag) (ta : TA) : TI := fun σ H R => ta σ H fun vs H1 => ∃ a xs, vs = [.ref a] ∧ SqT K H1 a xs ∧ R (ItTe K a) H1
theorem pi_enumT {X : Cx} {e : Expr} {ta : TA} {p pos tpos : Pos} {elts : List Expr} {kk : Nat} (hg : Gl X "enumerate") (hm : X.mg "enumerate" = none) (ha : PA X [e] ta) (hs : starEach [e] X.env = [(false, eval e X.env)] := by rfl) :
    PI X (.Tuple elts kk tpos) (.Call (.Name "enumerate" p) [e] [] pos) (iEnumT X.K ta) := by
  refine ⟨fun pins s σ H R I h => ?_⟩
  refine Call_ (ld_blt I hg hm boot_enumerate (PyProof.Rows.callWith_type1 (thn (ha.run pos pins s σ H _ I h) fun us s1 ⟨vs, H1, I1, r1, q1⟩ => ?_) hs rfl))
  obtain ⟨a, xs, ex, hq, q⟩ := q1
  subst ex
  obtain rfl := Vals.ref1 r1
  obtain ⟨its, rv, p', hz⟩ := I1.tuple hq
  refine enumCall (begins_tuple a its.toArray) (show s1.heap.IsTuple a its.toArray from p') fun h' he hit hk => wpAny_pyIter_enum he ?_
  have I2 : Inv X pins σ H1 { s1 with heap := h' } := I1.kept (t' := s1.toks) hk
  refine ⟨s1.heap.objs.size + 1, [s1.heap.objs.size + 1, s1.heap.objs.size], _, _, H1, rfl, I2, turn_enumT a (s1.heap.objs.size + 1) s1.heap.objs.size, ⟨⟨.none, he⟩, ⟨_, hit, rfl, rfl⟩, Nat.succ_ne_self _⟩, fun b hb => ?_, q⟩
  have hle : s1.heap.objs.size ≤ b := by
    rcases (show b = s1.heap.objs.size + 1 ∨ b = s1.heap.objs.size by simpa using hb) with z | z
    · rw [z]; exact Nat.le_add_right _ _
    · rw [z]; exact Nat.le_refl _
  exact I1.fpOk hle (I1.hok.fresh hle)
theorem walk_enumT {K : PySem.W.Frag} {a : Addr} {xs : List V} : Walk (ItTe K a) xs.length (fun H => SqT K H a xs) (fun i H v H' => ∃ T x, v = .ref T ∧ H T = none ∧ H' = upd H T (.tup [.int (i : Nat), x]) ∧ xs[i]? = some x) :=
  ⟨fun i _ hi q => ⟨xs, xs[i], q, by simp [hi]⟩, fun _ q => ⟨xs, q, rfl⟩, fun _ _ _ _ _ q y => by
    obtain ⟨T, x, e1, e2, e3, e4⟩ := y
    exact ⟨T, x, e1, e2, e3, e4 xs q⟩⟩
end L2
set_option Elab.async false
set_option linter.all false
set_option maxRecDepth 100000
set_option maxHeartbeats 4000000
/-! repr of a text or an integer. -/
namespace L2
open PySem PySem.Spec PyProof.Rows
end L2
set_option Elab.async false
set_option linter.all false
set_option maxRecDepth 100000
set_option maxHeartbeats 4000000
/-! Signs of an own class: with a value of any other kind on the right; x >= y, where y's own <= answers; x |= y, where there is no __ior__. -/
namespace PySem.W
open PySem PySem.Spec PySem.Calls PyProof.Rows
end PySem.W
set_option Elab.async false
set_option linter.all false
set_option maxRecDepth 100000
set_option maxHeartbeats 4000000
/-! x op= y of one own class, which has no method for it in place. -/
namespace PySem.W
open PySem PySem.Spec PySem.Calls PyProof.Rows
end PySem.W
set_option Elab.async false
set_option linter.all false
set_option maxRecDepth 100000
set_option maxHeartbeats 4000000
/-! The rules for these signs. -/
namespace L2
open PySem PySem.Spec PyProof.Rows
end L2
set_option Elab.async false
set_option linter.all false
set_option maxRecDepth 100000
set_option maxHeartbeats 4000000
/-! repr of a bool. -/
namespace L2
open PySem PySem.Spec PyProof.Rows
end L2
set_option Elab.async false
set_option linter.all false
set_option maxRecDepth 100000
set_option maxHeartbeats 4000000
/-! Where no repr is under way: what defs promise there; repr of lists and tuples. -/
namespace L2
open PySem PySem.Spec PyProof.Rows
mutual
/-- x is laid in H as the datum d -/
inductive PyV (H : Hp) : V → PyData → Prop
  | non : PyV H .non .none
  | bl (b : Bool) : PyV H (.bl b) (.bool b)
  | int (i : Int) : PyV H (.int i) (.int i)
  | str (z : Str) : PyV H (.str z) (.str z)
  | tup {a : Addr} {xs : List V} {ds : List PyData} : H a = some (.tup xs) → PyVs H xs ds → PyV H (.ref a) (.tuple ds)
  | lst {a : Addr} {xs : List V} {ds : List PyData} : H a = some (.lst xs) → PyVs H xs ds → PyV H (.ref a) (.list ds)
inductive PyVs (H : Hp) : List V → List PyData → Prop
  | nil : PyVs H [] []
  | cons {x : V} {d : PyData} {xs : List V} {ds : List PyData} : PyV H x d → PyVs H xs ds → PyVs H (x :: xs) (d :: ds)
end
mutual
theorem PyV.same {H H2 : Hp} (s : ∀ b o, H b = some o → H2 b = some o) : ∀ {x : V} {d : PyData}, PyV H x d → PyV H2 x d
  | _, _, .non => .non
  | _, _, .bl b => .bl b
  | _, _, .int i => .int i
  | _, _, .str z => .str z
  | _, _, .tup h r => .tup (s _ _ h) (PyVs.same s r)
  | _, _, .lst h r => .lst (s _ _ h) (PyVs.same s r)
theorem PyVs.same {H H2 : Hp} (s : ∀ b o, H b = some o → H2 b = some o) : ∀ {xs : List V} {ds : List PyData}, PyVs H xs ds → PyVs H2 xs ds
  | _, _, .nil => .nil
  | _, _, .cons h r => .cons (PyV.same s h) (PyVs.same s r)
end
mutual
theorem PyV.keep {H H2 : Hp} (s : ∀ b o, H b = some o → ((∃ xs, o = .tup xs) ∨ ∃ xs, o = .lst xs) → H2 b = some o) : ∀ {x : V} {d : PyData}, PyV H x d → PyV H2 x d
  | _, _, .non => .non
  | _, _, .bl b => .bl b
  | _, _, .int i => .int i
  | _, _, .str z => .str z
  | _, _, .tup h r => .tup (s _ _ h (.inl ⟨_, rfl⟩)) (PyVs.keep s r)
  | _, _, .lst h r => .lst (s _ _ h (.inr ⟨_, rfl⟩)) (PyVs.keep s r)
theorem PyVs.keep {H H2 : Hp} (s : ∀ b o, H b = some o → ((∃ xs, o = .tup xs) ∨ ∃ xs, o = .lst xs) → H2 b = some o) : ∀ {xs : List V} {ds : List PyData}, PyVs H xs ds → PyVs H2 xs ds
  | _, _, .nil => .nil
  | _, _, .cons h r => .cons (PyV.keep s h) (PyVs.keep s r)
end
theorem PyV.but {H H2 : Hp} {a : Addr} {x : V} {d : PyData} {f : Heap → Prop} (p : PyV H x d) (s : ∀ b o, H b = some o → b ≠ a → H2 b = some o) (ha : H a = some (.ext f)) : PyV H2 x d :=
  p.keep fun b o e k => s b o e fun z => by
    rw [z, ha] at e
    cases e
    rcases k with ⟨xs, k⟩ | ⟨xs, k⟩ <;> cases k
/-- a datum that can be told: its text is not too long -/
structure Tells (d : PyData) : Prop where
  sh : d.showable = true
  dp : d.depth ≤ 4
  sz : d.shown.length ≤ 8000000
theorem Tells.size {d : PyData} (t : Tells d) : d.shown.length ≤ sizeLine := by
  have := t.sz
  rw [sizeLine_eq]
  omega
end L2
set_option Elab.async false
set_option linter.all false
set_option maxRecDepth 100000
set_option maxHeartbeats 4000000
/-! Where no repr is under way: calls of defs, own errors made, lambdas called. -/
namespace L2
open PySem PySem.Spec PyProof.Rows
/-- no repr is under way -/
abbrev Quiet (A : Around) : Prop := A.guards = some []
/-- what a def promises where no repr is under way -/
structure FnG (P : Program) (w : World) (K : PySem.W.Frag) (mg : Str → Option Value) (base : Heap) (C : CXT) (k : Nat) (f : Addr) (fd : FuncData) (ps : List Str) (sp : Sp) : Prop where
  count : ∀ (xs : List V) (H : Hp) (Q : VK) (E : XK), sp xs H Q E → xs.length = ps.length
  runs : ∀ (A : Around) (outer : List Env) (s : Shared) (H : Hp) (args : Args) (us : List Value) (xs : List V) (Q : VK) (E : XK), Quiet A → Room k A → Env0 P w K mg base A outer s H → BindsTo s fd args (ps.zip us) → Vals xs us → sp xs H Q E →
    codeAny (model P w) A (.call (.ref f) args) (CR C outer P w H s Q E) s
end L2
set_option Elab.async false
set_option linter.all false
set_option maxRecDepth 100000
set_option maxHeartbeats 4000000
/-! raise X(..) from Y(..), where nothing is being handled. -/
namespace L2
open PySem PySem.Spec PyProof.Rows
end L2
set_option Elab.async false
set_option linter.all false
set_option maxRecDepth 100000
set_option maxHeartbeats 4000000
/-! raise X(..) from Y(..): the rule. -/
namespace L2
open PySem PySem.Spec PyProof.Rows
section
variable {X : Cx} {pins : List (Addr × Obj)} {σ : St} {H : Hp} {s : Shared}
/-- the same, where only what is not the heap's has changed, and more is there -/
theorem Inv.grown {s2 : Shared} (I : Inv X pins σ H s) (k : ∀ b o, s.heap.get? b = some o → s2.heap.get? b = some o) (os : s2.os = s.os) (bare : AllBare s2.gens) : Inv X pins σ H s2 := by
  obtain ⟨h2, g2, d2, t2, o2⟩ := s2
  have J := I.kept (h' := h2) (t' := t2) k
  exact ⟨J.ok, by show o2 = _; exact Eq.trans os I.os, bare, J.base, J.loc, J.cell, J.free, J.freeC, J.pin, J.hok, J.len⟩
/-- without an object that is not tracked, nor a frame's nor a cell -/
theorem Inv.less {a : Addr} {o : Obj} {G : Heap} (I : Inv X ((a, o) :: pins) σ H s) (new : X.s_0.heap.get? a = none) (c : ∀ v, o.data ≠ .cell v) (away : ∀ p ∈ X.pn ++ pins, p.1 ≠ a) (gk : ∀ b, b ≠ a → G.get? b = s.heap.get? b) : Inv X pins σ H { s with heap := G } := by
  obtain ⟨ea, na, la, fa, _⟩ := I.pin (a, o) (List.mem_append_right _ (List.mem_cons_self ..))
  have old : ∀ {b : Addr} {u : Obj}, X.s_0.heap.get? b = some u → b ≠ a := fun {b u} e z => by
    rw [z, new] at e
    cases e
  have look : ∀ {b : Addr} {v : Option Value}, s.heap.IsCell b v → G.IsCell b v := fun {b v} ⟨u, hu, hd⟩ => by
    refine ⟨u, ?_, hd⟩
    rw [gk b fun z => ?_]
    · exact hu
    · rw [z, ea] at hu
      cases hu
      exact c _ hd
  refine ⟨I.ok, I.os, I.bare, ?_, ?_, fun x b e => ?_, I.free, I.freeC, fun p hp => ?_, ?_, I.len⟩
  · refine { keep := fun b u e n h1 h2 => ?_, slot := fun b u e n h1 h2 => ?_, free := I.base.free, there := fun b u e h => ?_, tups := I.base.tups, frzs := I.base.frzs, tbls := I.base.tbls }
    · show G.get? b = _
      rw [gk b (old e)]
      exact I.base.keep b u e n h1 h2
    · show ∃ sl, G.get? b = _
      rw [gk b (old e)]
      exact I.base.slot b u e n h1 h2
    · show ∃ q, G.get? b = some q
      rw [gk b (old e)]
      exact I.base.there b u e h
  · obtain ⟨m, ⟨u, es, ep, e, d, r⟩, q⟩ := I.loc
    refine ⟨m, ⟨u, es, ep, ?_, d, r⟩, fun i x v h1 h2 h3 => ?_⟩
    · show G.get? _ = _
      rw [gk _ (Ne.symm la)]
      exact e
    · obtain ⟨w, rv, lk⟩ := q i x v h1 h2 h3
      refine ⟨w, rv, ?_⟩
      rcases lk with lk | ⟨k1, b, k2, k3⟩
      · exact .inl lk
      · exact .inr ⟨k1, b, k2, look k3⟩
  · obtain ⟨v, hv⟩ := I.cell x b e
    exact ⟨v, look hv⟩
  · obtain ⟨e, r⟩ := I.pin p (by
      rcases List.mem_append.mp hp with h | h
      · exact List.mem_append_left _ h
      · exact List.mem_append_right _ (List.mem_cons_of_mem _ h))
    refine ⟨?_, r⟩
    show G.get? _ = _
    rw [gk _ (away p hp)]
    exact e
  · intro b u e
    have nb : b ≠ a := fun z => by
      rw [z, na] at e
      cases e
    refine (I.hok b u e).stay (fun d v hd q => ?_) (fun d q => q) fun d xs q => q
    rw [gk d ?_]
    · exact q
    · rcases hd with z | z
      · rw [z]
        exact nb
      · exact fun y => by
          rw [y, na] at z
          cases z
end
end L2
set_option Elab.async false
set_option linter.all false
set_option maxRecDepth 100000
set_option maxHeartbeats 4000000
/-! Values with dicts among them, told by repr. -/
namespace L2
open PySem PySem.Spec PyProof.Rows
/-- a key as a datum -/
def keyD : Key → PyData
  | .inl i => .int i
  | .inr s => .str s
def zipD (ks : List Key) (ds : List PyData) : List (PyData × PyData) := (ks.map keyD).zip ds
mutual
inductive PyW (H : Hp) : V → PyData → Prop
  | non : PyW H .non .none
  | bl (b : Bool) : PyW H (.bl b) (.bool b)
  | int (i : Int) : PyW H (.int i) (.int i)
  | str (z : Str) : PyW H (.str z) (.str z)
  | tup {a : Addr} {xs : List V} {ds : List PyData} : H a = some (.tup xs) → PyWs H xs ds → PyW H (.ref a) (.tuple ds)
  | lst {a : Addr} {xs : List V} {ds : List PyData} : H a = some (.lst xs) → PyWs H xs ds → PyW H (.ref a) (.list ds)
  | dic {a : Addr} {kvs : List (Key × V)} {ds : List PyData} : H a = some (.dK kvs) → PyWs H (kvs.map (·.2)) ds → PyW H (.ref a) (.dict (zipD (kvs.map (·.1)) ds))
inductive PyWs (H : Hp) : List V → List PyData → Prop
  | nil : PyWs H [] []
  | cons {x : V} {d : PyData} {xs : List V} {ds : List PyData} : PyW H x d → PyWs H xs ds → PyWs H (x :: xs) (d :: ds)
end
mutual
theorem PyW.keep {H H2 : Hp} (s : ∀ b o, H b = some o → ((∃ xs, o = .tup xs) ∨ (∃ xs, o = .lst xs) ∨ ∃ xs, o = .dK xs) → H2 b = some o) : ∀ {x : V} {d : PyData}, PyW H x d → PyW H2 x d
  | _, _, .non => .non
  | _, _, .bl b => .bl b
  | _, _, .int i => .int i
  | _, _, .str z => .str z
  | _, _, .tup h r => .tup (s _ _ h (.inl ⟨_, rfl⟩)) (PyWs.keep s r)
  | _, _, .lst h r => .lst (s _ _ h (.inr (.inl ⟨_, rfl⟩))) (PyWs.keep s r)
  | _, _, .dic h r => .dic (s _ _ h (.inr (.inr ⟨_, rfl⟩))) (PyWs.keep s r)
theorem PyWs.keep {H H2 : Hp} (s : ∀ b o, H b = some o → ((∃ xs, o = .tup xs) ∨ (∃ xs, o = .lst xs) ∨ ∃ xs, o = .dK xs) → H2 b = some o) : ∀ {xs : List V} {ds : List PyData}, PyWs H xs ds → PyWs H2 xs ds
  | _, _, .nil => .nil
  | _, _, .cons h r => .cons (PyW.keep s h) (PyWs.keep s r)
end
theorem PyW.same {H H2 : Hp} (s : ∀ b o, H b = some o → H2 b = some o) {x : V} {d : PyData} (p : PyW H x d) : PyW H2 x d := p.keep fun b o e _ => s b o e
theorem PyWs.same {H H2 : Hp} (s : ∀ b o, H b = some o → H2 b = some o) {xs : List V} {ds : List PyData} (p : PyWs H xs ds) : PyWs H2 xs ds := p.keep fun b o e _ => s b o e
theorem PyW.but {H H2 : Hp} {a : Addr} {x : V} {d : PyData} {f : Heap → Prop} (p : PyW H x d) (s : ∀ b o, H b = some o → b ≠ a → H2 b = some o) (ha : H a = some (.ext f)) : PyW H2 x d :=
  p.keep fun b o e k => s b o e fun z => by
    rw [z, ha] at e
    cases e
    rcases k with ⟨xs, k⟩ | ⟨xs, k⟩ | ⟨xs, k⟩ <;> cases k
theorem PyWs.length {H : Hp} : ∀ {xs : List V} {ds : List PyData}, PyWs H xs ds → xs.length = ds.length
  | _, _, .nil => rfl
  | _, _, .cons _ r => by rw [List.length_cons, List.length_cons, PyWs.length r]
theorem PyWs.append {H : Hp} : ∀ {xs ys : List V} {ds es : List PyData}, PyWs H xs ds → PyWs H ys es → PyWs H (xs ++ ys) (ds ++ es)
  | _, _, _, _, .nil, q => q
  | _, _, _, _, .cons h r, q => .cons h (PyWs.append r q)
/-- it is flat, or an object -/
theorem PyW.flat {H : Hp} {x : V} {d : PyData} (p : PyW H x d) : PyV H x d ∨ ∃ a, x = .ref a := by
  cases p with
  | non => exact .inl .non
  | bl b => exact .inl (.bl b)
  | int i => exact .inl (.int i)
  | str z => exact .inl (.str z)
  | tup h r => exact .inr ⟨_, rfl⟩
  | lst h r => exact .inr ⟨_, rfl⟩
  | dic h r => exact .inr ⟨_, rfl⟩
end L2
set_option Elab.async false
set_option linter.all false
set_option maxRecDepth 100000
set_option maxHeartbeats 4000000
/-! The drawing of the law: the pen, a draw, a pick. -/
namespace V8
open PySem PySem.Spec PyProof.Rows L2
def topS (i : Nat) : Stmt := PySem.Challenge.pw_blindrepair_k55_whole_lists_of_misreadin.main.body.getD i (.Pass ⟨0, 0, 0, 0⟩)
abbrev s_pen : Stmt := topS 103
theorem sc_pen : FnScope ["_law_script"] ["_law_script"] (defScope s_pen) := ⟨rfl, rfl, rfl, by decide +kernel, rfl, by decide +kernel, by decide +kernel⟩
abbrev s_draw : Stmt := topS 104
theorem sc_draw : FnScope ["_law_pen_here", "_law_many", "_law_digit", "_law_spot", "_law_cell", "_law_great", "_law_stirred"] ["_law_pen_here", "_law_many"] (defScope s_draw) := ⟨rfl, rfl, rfl, by decide +kernel, rfl, by decide +kernel, by decide +kernel⟩
abbrev s_pick : Stmt := topS 105
theorem sc_pick : FnScope ["_law_pen_here", "_law_some"] ["_law_pen_here", "_law_some"] (defScope s_pick) := ⟨rfl, rfl, rfl, by decide +kernel, rfl, by decide +kernel, by decide +kernel⟩
/-- all but the object at p stands as it stood -/
def Fr (p : Addr) (H H' : Hp) : Prop := ∀ b o, H b = some o → b ≠ p → H' b = some o
theorem Fr.refl {p : Addr} {H : Hp} : Fr p H H := fun _ _ h _ => h
theorem Fr.trans {p : Addr} {H H1 H2 : Hp} (a : Fr p H H1) (b : Fr p H1 H2) : Fr p H H2 := fun c o h n => b c o (a c o h n) n
theorem Fr.new {p q : Addr} {o : HO} {H : Hp} (h : H q = none) : Fr p H (upd H q o) := fun b u e _ => by
  rw [upd_ne (ne_of_none e h)]; exact e
theorem Fr.at {p : Addr} {o : HO} {H : Hp} : Fr p H (upd H p o) := fun b u e n => by
  rw [upd_ne n]; exact e
/-- the pen at p, the script's ints at l, n draws are let -/
structure PenAt (H : Hp) (p l : Addr) (ns : List Int) (n : Nat) : Prop where
  here : ∃ (spot great : Int), H p = some (.lst [.ref l, .int spot, .int great]) ∧ 0 ≤ spot ∧ spot + n ≤ 1000000 ∧ 0 ≤ great
  nums : H l = some (.lst (ns.map V.int))
  ne : l ≠ p
  short : ns.length ≤ 63
theorem PenAt.less {H : Hp} {p l : Addr} {ns : List Int} {n m : Nat} (P : PenAt H p l ns n) (h : m ≤ n) : PenAt H p l ns m := by
  obtain ⟨⟨s, g, h1, h2, h3, h4⟩, i, e, sh⟩ := P
  exact ⟨⟨s, g, h1, h2, by omega, h4⟩, i, e, sh⟩
theorem PenAt.some' {H : Hp} {p l : Addr} {ns : List Int} {n : Nat} (P : PenAt H p l ns n) : H p ≠ none := by
  obtain ⟨⟨s, g, h1, _⟩, _⟩ := P
  rw [h1]; exact fun z => nomatch z
theorem PenAt.new {H : Hp} {p l q : Addr} {o : HO} {ns : List Int} {n : Nat} (P : PenAt H p l ns n) (h : H q = none) : PenAt (upd H q o) p l ns n := by
  obtain ⟨⟨s, g, h1, h2, h3, h4⟩, i, e, sh⟩ := P
  exact ⟨⟨s, g, by rw [upd_ne (ne_of_none h1 h)]; exact h1, h2, h3, h4⟩, by rw [upd_ne (ne_of_none i h)]; exact i, e, sh⟩
/-- another object is written -/
theorem PenAt.other {H : Hp} {p l q : Addr} {o : HO} {ns : List Int} {n : Nat} (P : PenAt H p l ns n) (h : q ≠ p) (h' : q ≠ l) : PenAt (upd H q o) p l ns n := by
  obtain ⟨⟨s, g, h1, h2, h3, h4⟩, i, e, sh⟩ := P
  exact ⟨⟨s, g, by rw [upd_ne (Ne.symm h)]; exact h1, h2, h3, h4⟩, by rw [upd_ne (Ne.symm h')]; exact i, e, sh⟩
def spDraw : Sp := fun vs H Q _ => ∃ (p l : Addr) (ns : List Int) (n : Nat) (many : Int), vs = [.ref p, .int many] ∧ PenAt H p l ns (n + 1) ∧ 0 < many ∧ many < 1000 ∧
  ∀ (v : Int) (H' : Hp), 0 ≤ v → v < many → PenAt H' p l ns n → Fr p H H' → Q (.int v) H'
section
variable {P : Program} {w : World} {K : PySem.W.Frag} {mg : Str → Option Value} {base : Heap}
theorem ints_at {ns : List Int} {i : Int} (h0 : 0 ≤ i) (h : i < ns.length) : ∃ z : Int, atI (ns.map V.int) i = some (.int z) := by
  obtain ⟨j, rfl⟩ : ∃ j : Nat, i = j := ⟨i.toNat, by omega⟩
  have hj : j < ns.length := by omega
  exact ⟨ns[j], atI_nat (by rw [List.getElem?_map, List.getElem?_eq_getElem hj]; rfl)⟩
def dInts (ns : List Int) : List PyData := ns.map PyData.int
theorem dp_ints {H : Hp} : ∀ ns : List Int, DpAll K H (ns.map V.int) (dInts ns)
  | [] => .nil
  | n :: ns => .cons (.int n) (dp_ints ns)
theorem lay_ints : ∀ ns : List Int, PyData.canLayAll0 (dInts ns) = true
  | [] => by simp [dInts, PyData.canLayAll0]
  | n :: ns => by
    have h := lay_ints ns
    simp only [dInts, List.map_cons, PyData.canLayAll0, PyData.canLay0, Bool.true_and]
    exact h
theorem depth_ints : ∀ ns : List Int, PyData.depthAll (dInts ns) = 0
  | [] => by simp [dInts, PyData.depthAll]
  | n :: ns => by
    have h := depth_ints ns
    simp only [dInts, List.map_cons, PyData.depthAll, PyData.depth]
    unfold dInts at h
    omega
theorem shaped_ints (ns : List Int) : SeqAt.shaped (.list (dInts ns)) = true := by
  have h2 : PyData.depth (.list (dInts ns)) ≤ 64 := by
    simp only [PyData.depth, depth_ints]
    omega
  show (PyData.canLay0 (.list (dInts ns)) && decide (PyData.depth (.list (dInts ns)) ≤ 64)) = true
  rw [Bool.and_eq_true]
  exact ⟨by simp only [PyData.canLay0]; exact lay_ints ns, decide_eq_true h2⟩
structure Blt (mg : Str → Option Value) : Prop where
  list : mg "list" = none
  int : mg "int" = none
  len : mg "len" = none
  abs : mg "abs" = none
  range : mg "range" = none
  dict : mg "dict" = none
  str : mg "str" = none
  sorted : mg "sorted" = none
  tuple : mg "tuple" = none
theorem pw2 {st spot : Int} (s0 : 0 ≤ st) (s1 : st < 2147469491) (h0 : 0 ≤ spot) (h1 : spot ≤ 1000000) : (st * (2 * spot + 147) + 60229 * spot * spot + 143).natAbs < 2 ^ 64 := by
  have a1 : st * (2 * spot + 147) ≤ 2147483647 * 2000999 := Int.mul_le_mul (by omega) (by omega) (by omega) (by omega)
  have a0 : 0 ≤ st * (2 * spot + 147) := Int.mul_nonneg s0 (by omega)
  have c1 : 60229 * spot * spot ≤ 99999000000 * 1000000 := Int.mul_le_mul (by omega) h1 h0 (by omega)
  have c0 : 0 ≤ 60229 * spot * spot := Int.mul_nonneg (by omega) h0
  omega
theorem ok_draw {f : Addr} {fd : FuncData} {k : Nat} (F : Fun K "_law_draw" "_law_draw" s_draw f fd) (T : Blt mg) : FnOk P w K mg base CX0 (k + 1) f fd ["_law_pen_here", "_law_many"] spDraw := by
  refine F.ok sc_draw (fun vs H Q E h => ?_) (fun cdv A outer s H vs Q E hr h => ?_)
  · obtain ⟨p, l, ns, n, many, rfl, _⟩ := h
    rfl
  · obtain ⟨p, l, ns, n, many, rfl, PA, m0, m1, q⟩ := h
    obtain ⟨⟨spot, great, hp, hs0, hsn, hg⟩, hl, hne, hsh⟩ := id PA
    refine ⟨_, (pss_cons (ps_if (pt_cmpR op_gt (pe_ix (ix_listK (K := K) rfl) (pv 0) pe_int (fun _ _ => rfl)) pe_int (nomark _))
        (pss_cons (ps_set (i := 2) sc_draw.nd rfl (.inl rfl) (pe_op op_mod (pe_callTy call_int1 (by rfl) T.int (by decide +kernel) (pa_cons (pe_ix (ix_listK (K := K) rfl) (pv 0) pe_int (fun _ _ => rfl)) pa_nil)) (pv 1)))
        (pss_cons (ps_asg (pe_op op_fdiv (pe_callTy call_int1 (by rfl) T.int (by decide +kernel) (pa_cons (pe_ix (ix_listK (K := K) rfl) (pv 0) pe_int (fun _ _ => rfl)) pa_nil)) (pv 1)) (pg_sub (pv 0) pe_int set_list))
        (pss_one (ps_ret (pv 2)))))
        pss_nil)
      (pss_cons (ps_set (i := 3) sc_draw.nd rfl (.inl rfl) (pe_ix (ix_listK (K := K) rfl) (pv 0) pe_int (fun _ _ => rfl)))
      (pss_cons (ps_asg (pe_op op_add (pv 3) pe_int) (pg_sub (pv 0) pe_int set_list))
      (pss_cons (ps_set (i := 4) sc_draw.nd rfl (.inl rfl) (pe_op op_add (pe_op op_mul pe_int (pv 3)) pe_int))
      (pss_cons (ps_if (pt_cmpR (op_neDK (K := K) rfl hr.units) (pe_ix (ix_listK (K := K) rfl) (pv 0) pe_int (fun _ _ => rfl)) (pe_lst pa_nil) (nomark _))
        (pss_one (ps_set (i := 4) sc_draw.nd rfl (.inl rfl) (pe_ix (ix_listK (K := K) rfl) (pe_ix (ix_listK (K := K) rfl) (pv 0) pe_int (fun _ _ => rfl)) (pe_op op_mod (pe_callTy call_int1 (by rfl) T.int (by decide +kernel) (pa_cons (pv 3) pa_nil)) (pe_callB (call_len_seqK (K := K) rfl) (by rfl) T.len (by decide +kernel) (pa_cons (pe_ix (ix_listK (K := K) rfl) (pv 0) pe_int (fun _ _ => rfl)) pa_nil))) (fun _ _ => rfl))))
        pss_nil)
      (pss_cons (ps_if (PW.pt (pw_and (pt_cmpR op_lt (pv 3) (pe_callB (call_len_seqK (K := K) rfl) (by rfl) T.len (by decide +kernel) (pa_cons (pe_ix (ix_listK (K := K) rfl) (pv 0) pe_int (fun _ _ => rfl)) pa_nil)) (nomark _)) (pw_and1 (pt_cmpR op_ge (pe_callB call_abs (by rfl) T.abs (by decide +kernel) (pa_cons (pv 4) pa_nil)) (pe_op op_pow pe_int pe_int) (nomark _)))))
        (pss_cons (ps_set (i := 5) sc_draw.nd rfl (.inl rfl) (pe_op op_add (pe_op op_mul pe_int (pe_op op_sub (pe_callB call_abs (by rfl) T.abs (by decide +kernel) (pa_cons (pv 4) pa_nil)) (pe_op op_pow pe_int pe_int))) (pe_callTy call_int1 (by rfl) T.int (by decide +kernel) (pa_cons (pe_cmpR op_lt (pv 4) pe_int (nomark _)) pa_nil))))
        (pss_cons (ps_asg (pe_op op_fdiv (pe_callTy call_int1 (by rfl) T.int (by decide +kernel) (pa_cons (pv 5) pa_nil)) (pv 1)) (pg_sub (pv 0) pe_int set_list))
        (pss_one (ps_ret (pe_op op_mod (pe_callTy call_int1 (by rfl) T.int (by decide +kernel) (pa_cons (pv 5) pa_nil)) (pv 1))))))
        pss_nil)
      (pss_cons (ps_set (i := 6) sc_draw.nd rfl (.inl rfl) (pe_op op_mod (pe_callTy call_int1 (by rfl) T.int (by decide +kernel) (pa_cons (pe_op op_pow (pe_op op_add (pe_op op_add (pe_op op_mod (pe_callTy call_int1 (by rfl) T.int (by decide +kernel) (pa_cons (pv 4) pa_nil)) pe_int) (pe_op op_mul pe_int (pv 3))) pe_int) pe_int) pa_nil)) pe_int))
      (pss_cons (ps_set (i := 6) sc_draw.nd rfl (.inl rfl) (pe_op op_mod (pe_callTy call_int1 (by rfl) T.int (by decide +kernel) (pa_cons (pe_op op_pow (pe_op op_add (pe_op op_add (pe_op op_mul (pv 6) (pe_op op_add (pe_op op_mul pe_int (pv 3)) pe_int)) (pe_op op_mul (pe_op op_mul pe_int (pv 3)) (pv 3))) pe_int) pe_int) pa_nil)) pe_int))
      (pss_one (ps_ret (pe_op op_mod (pe_callTy call_int1 (by rfl) T.int (by decide +kernel) (pa_cons (pe_op op_fdiv (pv 6) pe_int) pa_nil)) (pv 1)))))))))))), ?_⟩
    -- pen[2] > 0
    refine ⟨_, rfl, p, _, 2, _, rfl, rfl, SqL.of hp, rfl, great, 0, rfl, rfl, _, rfl, ?_⟩
    refine ite2 (fun e => ?_) (fun e => ?_)
    · refine ⟨_, rfl, p, _, 2, _, rfl, rfl, SqL.of hp, rfl, .inl ⟨_, rfl, _, rfl, _, _, rfl, rfl, m0, ?_⟩⟩
      refine ⟨_, rfl, p, _, 2, _, rfl, rfl, SqL.of hp, rfl, .inl ⟨_, rfl, _, rfl, _, _, rfl, rfl, ⟨m0, by omega⟩, _, rfl, p, _, 2, 2, rfl, rfl, hp, rfl, ?_⟩⟩
      refine ⟨_, rfl, q _ _ (Int.emod_nonneg _ (by omega)) (Int.emod_lt_of_pos _ m0) ⟨⟨spot, great / many, upd_same, hs0, by omega, Int.ediv_nonneg hg (by omega)⟩, by rw [upd_ne hne]; exact hl, hne, hsh⟩ Fr.at⟩
    -- spot = pen[1]; pen[1] = spot + 1; cell = ..
    refine ⟨_, rfl, p, _, 1, _, rfl, rfl, SqL.of hp, rfl, ?_⟩
    refine ⟨_, rfl, _, _, rfl, rfl, _, rfl, p, _, 1, 1, rfl, rfl, hp, rfl, ?_⟩
    refine ⟨_, rfl, _, _, rfl, rfl, .inl ⟨by decide, by decide⟩, _, _, rfl, rfl, ?_⟩
    have hp1 : upd H p (.lst [.ref l, .int (spot + 1), .int great]) p = some (.lst [.ref l, .int (spot + 1), .int great]) := upd_same
    have hl1 : upd H p (.lst [.ref l, .int (spot + 1), .int great]) l = some (.lst (ns.map V.int)) := by rw [upd_ne hne]; exact hl
    dsimp only [List.set_cons_succ, List.set_cons_zero]
    -- pen[0] != []
    refine ⟨_, rfl, p, _, 0, _, rfl, rfl, SqL.of hp1, rfl, Nat.zero_le _, fun o no => ?_⟩
    have hpo : p ≠ o := ne_of_none hp1 no
    have hlo : l ≠ o := ne_of_none hl1 no
    have hp2 : upd (upd H p (.lst [.ref l, .int (spot + 1), .int great])) o (.lst []) p = some (.lst [.ref l, .int (spot + 1), .int great]) := by rw [upd_ne hpo]; exact hp1
    have hl2 : upd (upd H p (.lst [.ref l, .int (spot + 1), .int great])) o (.lst []) l = some (.lst (ns.map V.int)) := by rw [upd_ne hlo]; exact hl1
    have fr2 : Fr p H (upd (upd H p (.lst [.ref l, .int (spot + 1), .int great])) o (.lst [])) := Fr.at.trans (Fr.new no)
    refine ⟨_, _, .lst (SqL.of hl2) (dp_ints ns), .lst (SqL.of upd_same) .nil, shaped_ints ns, by decide, _, rfl, ?_⟩
    generalize upd (upd H p (.lst [.ref l, .int (spot + 1), .int great])) o (.lst []) = H2 at hp2 hl2 fr2 ⊢
    refine ite2 (fun e => ?g1) (fun e => ?g2)
    case' g1 =>
      have hns : 0 < ns.length := by
        cases ns with
        | nil => simp [dInts, PyData.eqv, PyData.eqvAll] at e
        | cons a r => simp
      have hpos : (0 : Int) < ((ns.map V.int).length : Int) := by rw [List.length_map]; omega
      obtain ⟨z, hz⟩ := ints_at (ns := ns) (i := spot % ((ns.map V.int).length : Int)) (Int.emod_nonneg _ (by omega)) (by
        have := Int.emod_lt_of_pos spot hpos
        rw [List.length_map] at this ⊢
        exact this)
      refine ⟨_, rfl, p, _, 0, _, rfl, rfl, SqL.of hp2, rfl, _, rfl, .inl ⟨_, rfl, _, rfl, p, _, 0, _, rfl, rfl, SqL.of hp2, rfl, l, _, rfl, .inl (SqL.of hl2), _, _, rfl, rfl, hpos, l, _, _, _, rfl, rfl, SqL.of hl2, hz, ?_⟩⟩
      generalize z = c
      refine ⟨_, rfl, _, rfl, p, _, 0, _, rfl, rfl, SqL.of hp2, rfl, l, _, rfl, .inl (SqL.of hl2), _, _, rfl, rfl, _, rfl, ?_⟩
      refine ite2 (fun e1 => ?a3) (fun e1 => ?a4)
      case' a3 =>
        refine ⟨_, rfl, _, rfl, _, _, rfl, rfl, ⟨by decide, by decide, by decide⟩, _, _, rfl, rfl, _, rfl, ?_⟩
        refine ite2 (fun e2 => ?a5) (fun e2 => ?a6)
        case' a5 =>
          have hge := of_decide_eq_true e2
          refine ⟨_, rfl, _, rfl, _, _, rfl, rfl, ⟨by decide, by decide, by decide⟩, _, _, rfl, rfl, _, _, rfl, rfl, .inl ⟨by decide, by decide⟩, _, rfl, _, _, rfl, rfl, .inr ⟨_, rfl, _, _, rfl, rfl, ?_⟩⟩
          have hG : 0 ≤ 2 * ((if c < 0 then -c else c) - 10 ^ (18 : Int).toNat) + (if decide (c < 0) = true then 1 else 0) := by
            have h1 : (10 : Int) ^ (18 : Int).toNat ≤ (if c < 0 then -c else c) := hge
            have h2 : (0 : Int) ≤ (if decide (c < 0) = true then 1 else 0) := by split <;> decide
            omega
          refine ⟨_, rfl, .inl ⟨_, rfl, _, rfl, _, _, rfl, rfl, ⟨m0, by omega⟩, _, rfl, p, _, 2, 2, rfl, rfl, hp2, rfl, ?_⟩⟩
          refine ⟨_, rfl, .inl ⟨_, rfl, _, rfl, _, _, rfl, rfl, m0, ?_⟩⟩
          exact q _ _ (Int.emod_nonneg _ (by omega)) (Int.emod_lt_of_pos _ m0) ⟨⟨spot + 1, _, upd_same, by omega, by omega, Int.ediv_nonneg hG (by omega)⟩, by rw [upd_ne hne]; exact hl2, hne, hsh⟩ (fr2.trans Fr.at)
      case' a4 => refine iteF ?_
    case' g2 =>
      generalize 80273 * spot + 809 = c
      refine ⟨_, rfl, _, rfl, p, _, 0, _, rfl, rfl, SqL.of hp2, rfl, l, _, rfl, .inl (SqL.of hl2), _, _, rfl, rfl, _, rfl, ?_⟩
      refine ite2 (fun e1 => ?b3) (fun e1 => ?b4)
      case' b3 =>
        refine ⟨_, rfl, _, rfl, _, _, rfl, rfl, ⟨by decide, by decide, by decide⟩, _, _, rfl, rfl, _, rfl, ?_⟩
        refine ite2 (fun e2 => ?b5) (fun e2 => ?b6)
        case' b5 =>
          have hge := of_decide_eq_true e2
          refine ⟨_, rfl, _, rfl, _, _, rfl, rfl, ⟨by decide, by decide, by decide⟩, _, _, rfl, rfl, _, _, rfl, rfl, .inl ⟨by decide, by decide⟩, _, rfl, _, _, rfl, rfl, .inr ⟨_, rfl, _, _, rfl, rfl, ?_⟩⟩
          have hG : 0 ≤ 2 * ((if c < 0 then -c else c) - 10 ^ (18 : Int).toNat) + (if decide (c < 0) = true then 1 else 0) := by
            have h1 : (10 : Int) ^ (18 : Int).toNat ≤ (if c < 0 then -c else c) := hge
            have h2 : (0 : Int) ≤ (if decide (c < 0) = true then 1 else 0) := by split <;> decide
            omega
          refine ⟨_, rfl, .inl ⟨_, rfl, _, rfl, _, _, rfl, rfl, ⟨m0, by omega⟩, _, rfl, p, _, 2, 2, rfl, rfl, hp2, rfl, ?_⟩⟩
          refine ⟨_, rfl, .inl ⟨_, rfl, _, rfl, _, _, rfl, rfl, m0, ?_⟩⟩
          exact q _ _ (Int.emod_nonneg _ (by omega)) (Int.emod_lt_of_pos _ m0) ⟨⟨spot + 1, _, upd_same, by omega, by omega, Int.ediv_nonneg hG (by omega)⟩, by rw [upd_ne hne]; exact hl2, hne, hsh⟩ (fr2.trans Fr.at)
      case' b4 => refine iteF ?_
    all_goals
      have b0 := Int.emod_nonneg c (show (2147479601 : Int) ≠ 0 by decide)
      have b1 := Int.emod_lt_of_pos c (show (0 : Int) < 2147479601 by decide)
      refine ⟨_, rfl, .inl ⟨_, rfl, _, _, rfl, rfl, (show (0 : Int) < 2147479601 by decide), _, rfl, _, _, rfl, rfl, .inl ⟨by decide, by decide⟩, _, _, rfl, rfl, _, _, rfl, rfl, _, _, rfl, rfl, ⟨by decide, by decide, by omega⟩, .inl ⟨_, rfl, _, _, rfl, rfl, (show (0 : Int) < 2147469491 by decide), ?_⟩⟩⟩
      have s0 : 0 ≤ ((c % 2147479601 + 71407 * spot + 415) ^ (5 : Int).toNat) % 2147469491 := Int.emod_nonneg _ (by decide)
      have s1 : ((c % 2147479601 + 71407 * spot + 415) ^ (5 : Int).toNat) % 2147469491 < 2147469491 := Int.emod_lt_of_pos _ (by decide)
      have hsp : spot ≤ 1000000 := by omega
      refine ⟨_, rfl, _, rfl, _, _, rfl, rfl, .inl ⟨by decide, by decide⟩, _, _, rfl, rfl, _, _, rfl, rfl, .inl ⟨by omega, by omega⟩, _, rfl, _, _, rfl, rfl, .inl ⟨by decide, by decide⟩, _, rfl, _, _, rfl, rfl, .inl ⟨by omega, by omega⟩, _, _, rfl, rfl, _, _, rfl, rfl, _, _, rfl, rfl, ⟨by decide, by decide, pw2 s0 s1 hs0 hsp⟩, .inl ⟨_, rfl, _, _, rfl, rfl, (show (0 : Int) < 2147459617 by decide), ?_⟩⟩
      refine ⟨_, rfl, _, _, rfl, rfl, ⟨by decide, by decide⟩, .inl ⟨_, rfl, _, rfl, _, _, rfl, rfl, m0, ?_⟩⟩
      exact q _ _ (Int.emod_nonneg _ (by omega)) (Int.emod_lt_of_pos _ m0) ⟨⟨spot + 1, great, hp2, by omega, by omega, hg⟩, hl2, hne, hsh⟩ fr2
end
end V8
set_option Elab.async false
set_option linter.all false
set_option maxRecDepth 100000
set_option maxHeartbeats 4000000
/-! What the law draws: a pick, letters, images, tables. -/
namespace V8
open PySem PySem.Spec PyProof.Rows L2
/-- the text of one sign; of several -/
def L1 (c : Nat) : Str := ⟨#[c]⟩
def Sx (cs : List Nat) : Str := ⟨cs.toArray⟩
theorem L1_Sx (c : Nat) : L1 c = Sx [c] := rfl
theorem L1_inj {a b : Nat} (h : L1 a = L1 b) : a = b := by
  have h1 : (#[a] : Array Nat) = #[b] := congrArg Str.cps h
  simpa using h1
theorem Sx_inj {a b : List Nat} (h : Sx a = Sx b) : a = b := by
  have h1 : a.toArray = b.toArray := congrArg Str.cps h
  simpa using h1
def isLt (c : Nat) : Prop := 97 ≤ c ∧ c ≤ 122
instance (c : Nat) : Decidable (isLt c) := inferInstanceAs (Decidable (97 ≤ c ∧ c ≤ 122))
def lets (cs : List Nat) : List V := cs.map fun c => V.str (L1 c)
theorem lets_len (cs : List Nat) : (lets cs).length = cs.length := List.length_map ..
theorem lets_erase (cs : List Nat) (k : Nat) : (lets cs).eraseIdx k = lets (cs.eraseIdx k) := by
  unfold lets
  rw [List.eraseIdx_eq_take_drop_succ, List.eraseIdx_eq_take_drop_succ, List.map_append, List.map_take, List.map_drop]
theorem lets_snoc (cs : List Nat) (c : Nat) : lets (cs ++ [c]) = lets cs ++ [V.str (L1 c)] := by
  unfold lets
  rw [List.map_append]
  rfl
/-- a thing that is new, as seen from the start, is written -/
theorem Fr.put {p a : Addr} {o : HO} {H H1 : Hp} (f : Fr p H H1) (hn : H a = none) : Fr p H (upd H1 a o) := fun b u e n => by
  rw [upd_ne (ne_of_none e hn)]
  exact f b u e n
theorem lets_mem {cs : List Nat} {v : V} (h : v ∈ lets cs) : ∃ c ∈ cs, v = .str (L1 c) := by
  obtain ⟨c, hc, e⟩ := List.mem_map.mp h
  exact ⟨c, hc, e.symm⟩
/-- a to z -/
def abc : List Nat := (List.range 26).map (· + 97)
theorem abc_len : abc.length = 26 := by decide
theorem abc_nd : abc.Nodup := by decide
theorem abc_mem {c : Nat} : c ∈ abc ↔ isLt c := by
  unfold abc isLt
  rw [List.mem_map]
  constructor
  · rintro ⟨a, ha, rfl⟩
    have := List.mem_range.mp ha
    omega
  · rintro ⟨h1, h2⟩
    exact ⟨c - 97, List.mem_range.mpr (by omega), by omega⟩
def abcS : Str := "abcdefghijklmnopqrstuvwxyz"
theorem abcS_cps : abcS.cps.toList = abc := by decide +kernel
abbrev s_some_letters : Stmt := topS 106
abbrev n_some_letters : List Str := ["_law_pen_here", "_law_many", "_law_pool", "_law_k"]
theorem sc_some_letters : FnScope ["_law_pen_here", "_law_many", "_law_pool", "_law_k"] ["_law_pen_here", "_law_many"] (defScope s_some_letters) := ⟨rfl, rfl, rfl, by decide +kernel, rfl, by decide +kernel, by decide +kernel⟩
def spPick (K : PySem.W.Frag) : Sp := fun vs H Q _ => ∃ (p l a : Addr) (ns : List Int) (n : Nat) (xs : List V), vs = [.ref p, .ref a] ∧ PenAt H p l ns (n + 1) ∧ SqL K H a xs ∧ 0 < xs.length ∧ xs.length < 1000 ∧
  (∀ H', Fr p H H' → SqL K H' a xs) ∧ ∀ (v : V) (H' : Hp), v ∈ xs → PenAt H' p l ns n → Fr p H H' → Q v H'
theorem SqL.fr {K : PySem.W.Frag} {H H' : Hp} {p a : Addr} {xs : List V} (h : SqL K H a xs) (f : Fr p H H') (ne : a ≠ p) : SqL K H' a xs :=
  h.elim (fun h => .inl (h.elim (fun h => .inl (f _ _ h ne)) fun ⟨o, h⟩ => .inr ⟨o, f _ _ h ne⟩)) fun h => .inr h
def spLetters : Sp := fun vs H Q _ => ∃ (p l : Addr) (ns : List Int) (n : Nat) (many : Nat), vs = [.ref p, .int many] ∧ PenAt H p l ns (n + many) ∧ many ≤ 26 ∧
  ∀ (D : Addr) (cs : List Nat) (H' : Hp), cs.length = many → cs.Nodup → (∀ c ∈ cs, isLt c) → PenAt H' p l ns n → Fr p H H' → H D = none → H' D = some (.lst (lets cs)) → Q (.ref D) H'
section
variable {P : Program} {w : World} {K : PySem.W.Frag} {mg : Str → Option Value} {base : Heap}
theorem ok_pick {f : Addr} {fd : FuncData} (F : Fun K "_law_pick" "_law_pick" s_pick f fd) (T : Blt mg) (D_draw : Df P w K mg base 1 "_law_draw" spDraw) : FnOk P w K mg base CX0 2 f fd ["_law_pen_here", "_law_some"] (spPick K) := by
  refine F.ok sc_pick (fun vs H Q E h => ?_) (fun cdv A outer s H vs Q E hr h => ?_)
  · obtain ⟨p, l, a, ns, n, xs, rfl, _⟩ := h
    rfl
  · obtain ⟨p, l, a, ns, n, xs, rfl, PA, hS, h0, h1, st, q⟩ := h
    refine ⟨_, (pss_one (ps_ret (pe_ix (ix_listK (K := K) rfl) (pv 1) (pe_c D_draw hr (by decide) (by rfl) (pa_cons (pv 0) (pa_cons (pe_callB (call_len_seqK (K := K) rfl) (by rfl) T.len (by decide +kernel) (pa_cons (pv 1) pa_nil)) pa_nil))) (fun _ _ => rfl)))), ?_⟩
    refine ⟨.ref a, rfl, .ref p, rfl, .ref a, rfl, a, xs, rfl, .inl hS, p, l, ns, n, _, rfl, PA, by omega, by omega, fun v H' v0 v1 PA' fr => ?_⟩
    obtain ⟨j, rfl⟩ : ∃ j : Nat, v = j := ⟨v.toNat, by omega⟩
    have hj : j < xs.length := by omega
    exact ⟨a, xs, j, xs[j], rfl, rfl, st H' fr, atI_nat (List.getElem?_eq_getElem hj), q _ _ (List.getElem_mem hj) PA' fr⟩
theorem perm_erase {got rest : List Nat} {k : Nat} {y : Nat} (hp : (got ++ rest).Perm abc) (hy : rest[k]? = some y) : ((got ++ [y]) ++ rest.eraseIdx k).Perm abc := by
  refine List.Perm.trans ?_ hp
  rw [List.append_assoc]
  refine List.Perm.append_left got ?_
  show (y :: rest.eraseIdx k).Perm rest
  obtain ⟨hk, e⟩ := List.getElem?_eq_some_iff.mp hy
  rw [List.eraseIdx_eq_take_drop_succ]
  have h2 : rest = rest.take k ++ (y :: rest.drop (k + 1)) := by
    rw [← e, ← List.drop_eq_getElem_cons hk, List.take_append_drop]
  exact (List.perm_middle.symm).trans (List.Perm.of_eq h2.symm)
theorem ok_some_letters {f : Addr} {fd : FuncData} (F : Fun K "_law_some_letters" "_law_some_letters" s_some_letters f fd) (T : Blt mg) (D_draw : Df P w K mg base 1 "_law_draw" spDraw) : FnOk P w K mg base CX0 2 f fd ["_law_pen_here", "_law_many"] spLetters := by
  refine F.ok sc_some_letters (fun vs H Q E h => ?_) (fun cdv A outer s H vs Q E hr h => ?_)
  · obtain ⟨p, l, ns, n, many, rfl, _⟩ := h
    rfl
  · obtain ⟨p, l, ns, n, many, rfl, PA, hm, q⟩ := h
    refine ⟨_, (pss_cons (ps_set (i := 2) sc_some_letters.nd rfl (.inr rfl) (pe_callTy (call_listS rfl) (by rfl) T.list (by decide +kernel) (pa_cons pe_str pa_nil)))
      (pss_one (ps_ret (pe_lc (own := [("_law_k", 3)]) (g := gName 3) (by rfl) sc_some_letters.nd (pi_range1 (by rfl) T.range (pa_cons (pv 1) pa_nil)) (blkOk_by (own := [("_law_k", 3)]) (N := n_some_letters) (sc := defScope s_some_letters) (by decide +kernel)) (fun _ _ _ _ _ => (pg_name (i := 3) sc_some_letters.nd rfl (.inl rfl))) (fun _ _ _ _ _ => pts_nil) (fun _ _ _ _ _ => (pe_bmK (K := K) rfl PySem.F.plainAttrs_list PySem.F.slot_list_pop PySem.F.type_list_pop mt_popAt (pv 2) (pa_cons (pe_c D_draw hr (by decide) (by rfl) (pa_cons (pv 0) (pa_cons (pe_callB (call_len_seqK (K := K) rfl) (by rfl) T.len (by decide +kernel) (pa_cons (pv 2) pa_nil)) pa_nil))) pa_nil))))))), ?_⟩
    refine ⟨_, rfl, by decide, fun a na => ?_⟩
    have ePool : (List.map (fun c => V.str ⟨#[c]⟩) (Str.ofString "abcdefghijklmnopqrstuvwxyz").cps.toList) = lets abc := by
      show List.map (fun c => V.str (L1 c)) abcS.cps.toList = lets abc
      rw [abcS_cps]
      rfl
    rw [ePool]
    have PA1 := PA.new (o := .lst (lets abc)) na
    have hap : p ≠ a := by
      obtain ⟨⟨sp, g, h1, _⟩, _⟩ := PA
      exact ne_of_none h1 na
    have hla : l ≠ a := ne_of_none PA.nums na
    refine ⟨_, rfl, many, rfl, by omega, by omega, fun D nD => lc_range (lo := 0) (n := many) (fun i H2 => ∃ got rest : List Nat, (got ++ rest).Perm abc ∧ got.length = i ∧ H2 D = some (.lst (lets got)) ∧ H2 a = some (.lst (lets rest)) ∧ PenAt H2 p l ns (n + (many - i)) ∧ Fr p H H2) ?_ ?_ ?_⟩
    · have hDa : a ≠ D := ne_of_none upd_same nD
      refine ⟨[], abc, List.Perm.refl _, rfl, upd_same, by rw [upd_ne hDa, upd_same], (PA1.new nD).less (by omega), (Fr.new na).trans (Fr.new nD)⟩
    · rintro i H2 hi ⟨got, rest, pm, hg, hD, ha, PA2, fr⟩
      have hlen : got.length + rest.length = 26 := by
        have := pm.length_eq
        rw [List.length_append, abc_len] at this
        exact this
      have hDa : D ≠ a := by
        intro e
        subst e
        rw [upd_same] at nD
        cases nD
      have nDH : H D = none := by
        cases e : H D with
        | none => rfl
        | some o =>
          rw [upd_ne (ne_of_none e na), e] at nD
          cases nD
      have hDp : D ≠ p := by
        intro e
        subst e
        obtain ⟨⟨sp, g, h1, _⟩, _⟩ := PA1
        rw [h1] at nD
        cases nD
      have hDl : D ≠ l := by
        intro e
        subst e
        rw [PA1.nums] at nD
        cases nD
      have hr0 : 0 < (lets rest).length := by rw [lets_len]; omega
      refine ⟨rfl, ⟨_, rfl, .inl ⟨rfl, _, SqL.of ha⟩, _, rfl, _, rfl, a, _, rfl, .inl (SqL.of ha), p, l, ns, n + (many - (i + 1)), _, rfl, PA2.less (by omega), by omega, by rw [lets_len]; omega, fun v H3 v0 v1 PA3 fr3 => ?_⟩⟩
      obtain ⟨j, rfl⟩ : ∃ j : Nat, v = j := ⟨v.toNat, by omega⟩
      have hj : j < rest.length := by rw [lets_len] at v1; omega
      have hx : (lets rest)[j]? = some (.str (L1 rest[j])) := by
        unfold lets
        rw [List.getElem?_map, List.getElem?_eq_getElem hj]
        rfl
      have ha3 : H3 a = some (.lst (lets rest)) := fr3 _ _ ha (Ne.symm hap)
      have hD3 : H3 D = some (.lst (lets got)) := fr3 _ _ hD hDp
      have hk : seqIndex? (j : Int) (lets rest).length = some j := by
        unfold seqIndex?
        rw [lets_len]
        simp
        omega
      refine ⟨a, _, _, j, _, rfl, rfl, ha3, by omega, by omega, hk, hx, lets got, by rw [upd_ne hDa]; exact hD3, by rw [lets_len]; exact small1000 (by omega), got ++ [rest[j]], rest.eraseIdx j, perm_erase pm (List.getElem?_eq_getElem hj), by simp [hg], ?_, ?_, ?_, ?_⟩
      · rw [upd_same]
        unfold lets
        rw [List.map_append]
        rfl
      · rw [upd_ne (Ne.symm hDa), upd_same]
        rw [lets_erase]
      · exact (PA3.other (Ne.symm hap) (Ne.symm hla)).other hDp hDl
      · exact ((fr.trans fr3).put na).put nDH
    · rintro H2 ⟨got, rest, pm, hg, hD, ha, PA2, fr⟩
      have hnd : (got ++ rest).Nodup := pm.nodup_iff.mpr abc_nd
      have nD' : H D = none := by
        cases e : H D with
        | none => rfl
        | some o =>
          rw [upd_ne (ne_of_none e na), e] at nD
          cases nD
      refine q D got H2 hg (List.nodup_append.mp hnd).1 (fun c hc => abc_mem.mp (pm.mem_iff.mp (List.mem_append_left _ hc))) (PA2.less (by omega)) fr nD' hD
end
end V8
set_option Elab.async false
set_option linter.all false
set_option maxRecDepth 100000
set_option maxHeartbeats 4000000
/-! Tables of letters and images, as the law draws them. -/
namespace V8
open PySem PySem.Spec PyProof.Rows L2
abbrev Tab := List (Nat × List Nat)
def encT (t : Tab) : List (Key × V) := t.map fun q => (Sum.inr (L1 q.1), V.str (Sx q.2))
def lookT (t : Tab) (c : Nat) : Option (List Nat) := (t.find? fun q => decide (q.1 = c)).map (·.2)
def putT (t : Tab) (c : Nat) (s : List Nat) : Tab := if (t.any fun q => decide (q.1 = c)) = true then t.map (fun q => if q.1 = c then (q.1, s) else q) else t ++ [(c, s)]
theorem encT_len (t : Tab) : (encT t).length = t.length := List.length_map ..
theorem key_dec (a c : Nat) : decide ((Sum.inr (L1 a) : Key) = Sum.inr (L1 c)) = decide (a = c) := by
  by_cases h : a = c
  · subst h
    simp
  · rw [decide_eq_false h, decide_eq_false]
    intro e
    exact h (L1_inj (Sum.inr.inj e))
theorem key_iff (a c : Nat) : ((Sum.inr (L1 a) : Key) = Sum.inr (L1 c)) ↔ a = c := by
  have := key_dec a c
  constructor
  · intro e
    exact L1_inj (Sum.inr.inj e)
  · intro e
    rw [e]
theorem valV_enc (c : Nat) : ∀ t : Tab, valV (encT t) (Sum.inr (L1 c)) = (lookT t c).map fun s => V.str (Sx s)
  | [] => rfl
  | q :: t => by
    have ih := valV_enc c t
    by_cases h : q.1 = c
    · subst h
      show valV ((Sum.inr (L1 q.1), V.str (Sx q.2)) :: encT t) _ = _
      rw [valV_pos rfl]
      simp [lookT]
    · show valV ((Sum.inr (L1 q.1), V.str (Sx q.2)) :: encT t) _ = _
      rw [valV_neg (fun e => h ((key_iff _ _).mp e)), ih]
      simp [lookT, List.find?_cons, h]
theorem any_enc (c : Nat) : ∀ t : Tab, ((encT t).any fun kv => decide (kv.1 = (Sum.inr (L1 c) : Key))) = t.any fun q => decide (q.1 = c)
  | [] => rfl
  | q :: t => by
    show (decide ((Sum.inr (L1 q.1) : Key) = Sum.inr (L1 c)) || (encT t).any _) = _
    rw [any_enc c t, key_dec]
    rfl
theorem putK_enc (t : Tab) (c : Nat) (s : List Nat) : putK (encT t) (Sum.inr (L1 c)) (V.str (Sx s)) = encT (putT t c s) := by
  unfold putK putT
  rw [any_enc]
  split
  · unfold encT
    rw [List.map_map, List.map_map]
    refine List.map_congr_left fun q _ => ?_
    show (if (Sum.inr (L1 q.1) : Key) = Sum.inr (L1 c) then _ else _) = _
    by_cases h : q.1 = c
    · rw [if_pos ((key_iff _ _).mpr h)]
      simp [h]
    · rw [if_neg (fun e => h ((key_iff _ _).mp e))]
      simp [h]
  · unfold encT
    rw [List.map_append]
    rfl
theorem keys_put {t : Tab} {c : Nat} {s : List Nat} : ∀ x ∈ putT t c s, (x ∈ t ∨ x = (c, s)) := by
  intro x hx
  unfold putT at hx
  split at hx
  · obtain ⟨q, hq, e⟩ := List.mem_map.mp hx
    by_cases h : q.1 = c
    · rw [if_pos h] at e
      rw [← e, h]
      exact .inr rfl
    · rw [if_neg h] at e
      rw [← e]
      exact .inl hq
  · rcases List.mem_append.mp hx with h | h
    · exact .inl h
    · exact .inr (List.mem_singleton.mp h)
theorem put_nd {t : Tab} {c : Nat} {s : List Nat} (h : (t.map (·.1)).Nodup) : ((putT t c s).map (·.1)).Nodup := by
  unfold putT
  split
  · rw [List.map_map]
    have e : t.map ((·.1) ∘ fun q : Nat × List Nat => if q.1 = c then (q.1, s) else q) = t.map (·.1) := List.map_congr_left fun q _ => by
      show (if q.1 = c then (q.1, s) else q).1 = q.1
      split <;> rfl
    rw [e]
    exact h
  · rename_i hn
    rw [List.map_append]
    refine List.nodup_append.mpr ⟨h, by simp, fun x hx y hy e => ?_⟩
    have ey : y = c := by simpa using hy
    obtain ⟨q, hq, eq⟩ := List.mem_map.mp hx
    refine hn (List.any_eq_true.mpr ⟨q, hq, decide_eq_true ?_⟩)
    rw [eq, e, ey]
theorem put_len (t : Tab) (c : Nat) (s : List Nat) : (putT t c s).length ≤ t.length + 1 := by
  unfold putT
  split
  · rw [List.length_map]
    omega
  · rw [List.length_append]
    exact Nat.le_refl _
/-- an image that may be told -/
def GoodI (cs s : List Nat) : Prop := 1 ≤ s.length ∧ s.length ≤ 4 ∧ ∀ d ∈ s, d ∈ cs
structure GoodT (cs : List Nat) (t : Tab) : Prop where
  nd : (t.map (·.1)).Nodup
  key : ∀ q ∈ t, q.1 ∈ cs
  img : ∀ q ∈ t, GoodI cs q.2
theorem GoodT.nil {cs : List Nat} : GoodT cs [] := by
  refine ⟨List.nodup_nil, fun q h => ?_, fun q h => ?_⟩
  · cases h
  · cases h
theorem GoodT.put {cs : List Nat} {t : Tab} {c : Nat} {s : List Nat} (g : GoodT cs t) (hc : c ∈ cs) (hs : GoodI cs s) : GoodT cs (putT t c s) := by
  refine ⟨put_nd g.nd, fun q hq => ?_, fun q hq => ?_⟩
  · rcases keys_put q hq with h | rfl
    · exact g.key q h
    · exact hc
  · rcases keys_put q hq with h | rfl
    · exact g.img q h
    · exact hs
/-- joined signs -/
theorem join_L1 : ∀ cs : List Nat, Txt.join Str.empty (cs.map L1) = Sx cs := by
  intro cs
  rw [TL.join_eq]
  have h : TL.tl (Str.join Str.empty (cs.map L1)) = cs := by
    rw [TL.tl_join]
    have : ∀ l : List Nat, TL.joinL (TL.tl Str.empty) ((l.map L1).map TL.tl) = l := by
      intro l
      induction l with
      | nil => rfl
      | cons c r ih =>
        cases r with
        | nil => rfl
        | cons d r =>
          show TL.tl (L1 c) ++ (TL.tl Str.empty ++ TL.joinL (TL.tl Str.empty) ((((d :: r).map L1).map TL.tl))) = _
          rw [ih]
          rfl
    exact this cs
  have e2 : (Str.join Str.empty (cs.map L1)).cps.toList = cs := h
  show Str.join Str.empty (cs.map L1) = Sx cs
  unfold Sx
  cases hx : Str.join Str.empty (cs.map L1) with
  | mk a =>
    rw [hx] at e2
    have : a.toList = cs := e2
    rw [← this]
theorem sum_ones : ∀ l : List Nat, (l.map fun _ => 1).sum = l.length
  | [] => rfl
  | a :: r => by
    rw [List.map_cons, List.sum_cons, sum_ones r, List.length_cons]
    omega
theorem Sx_len (cs : List Nat) : (Sx cs).length = cs.length := by
  show cs.toArray.size = cs.length
  simp
abbrev s_any_image : Stmt := topS 108
abbrev n_any_image : List Str := ["_law_pen_here", "_law_some", "_law_many", "_law_k"]
theorem sc_any_image : FnScope ["_law_pen_here", "_law_some", "_law_many", "_law_k"] ["_law_pen_here", "_law_some"] (defScope s_any_image) := ⟨rfl, rfl, rfl, by decide +kernel, rfl, by decide +kernel, by decide +kernel⟩
abbrev s_escaped : Stmt := topS 107
theorem sc_escaped : FnScope ["_law_pen_here", "_law_some", "_law_tails", "_law_found", "_law_letter", "_law_stays"] ["_law_pen_here", "_law_some"] (defScope s_escaped) := ⟨rfl, rfl, rfl, by decide +kernel, rfl, by decide +kernel, by decide +kernel⟩
abbrev s_table : Stmt := topS 109
abbrev n_table : List Str := ["_law_pen_here", "_law_some", "_law_way", "_law_left", "_law_found", "_law_letter"]
theorem sc_table : FnScope ["_law_pen_here", "_law_some", "_law_way", "_law_left", "_law_found", "_law_letter"] ["_law_pen_here", "_law_some"] (defScope s_table) := ⟨rfl, rfl, rfl, by decide +kernel, rfl, by decide +kernel, by decide +kernel⟩
def spImage : Sp := fun vs H Q _ => ∃ (p l a : Addr) (ns : List Int) (n : Nat) (cs : List Nat), vs = [.ref p, .ref a] ∧ PenAt H p l ns (n + 5) ∧ H a = some (.lst (lets cs)) ∧ a ≠ p ∧ cs ≠ [] ∧ cs.length ≤ 26 ∧ (∀ c ∈ cs, isLt c) ∧
  ∀ (s : List Nat) (H' : Hp), GoodI cs s → PenAt H' p l ns n → Fr p H H' → Q (.str (Sx s)) H'
def spTab (cost : Nat) : Sp := fun vs H Q _ => ∃ (p l a : Addr) (ns : List Int) (n : Nat) (cs : List Nat), vs = [.ref p, .ref a] ∧ PenAt H p l ns (n + cost) ∧ H a = some (.lst (lets cs)) ∧ a ≠ p ∧ cs ≠ [] ∧ cs.Nodup ∧ cs.length ≤ 26 ∧ (∀ c ∈ cs, isLt c) ∧
  ∀ (d : Addr) (t : Tab) (H' : Hp), GoodT cs t → PenAt H' p l ns n → Fr p H H' → H d = none → H' d = some (.dK (encT t)) → Q (.ref d) H'
theorem Fr.back {p q : Addr} {H H1 : Hp} (f : Fr p H H1) (hn : H1 q = none) (hp : q ≠ p) : H q = none := by
  cases e : H q with
  | none => rfl
  | some o =>
    rw [f _ _ e hp] at hn
    cases hn
theorem PenAt.nep {H : Hp} {p l q : Addr} {ns : List Int} {n : Nat} (P : PenAt H p l ns n) (h : H q = none) : q ≠ p := by
  intro e
  subst e
  exact P.some' h
theorem PenAt.nel {H : Hp} {p l q : Addr} {ns : List Int} {n : Nat} (P : PenAt H p l ns n) (h : H q = none) : q ≠ l := by
  intro e
  subst e
  rw [P.nums] at h
  cases h
section
variable {P : Program} {w : World} {K : PySem.W.Frag} {mg : Str → Option Value} {base : Heap}
theorem ok_any_image {f : Addr} {fd : FuncData} (F : Fun K "_law_any_image" "_law_any_image" s_any_image f fd) (T : Blt mg) (D_pick : Df P w K mg base 2 "_law_pick" (spPick K)) : FnOk P w K mg base CX0 3 f fd ["_law_pen_here", "_law_some"] spImage := by
  refine F.ok sc_any_image (fun vs H Q E h => ?_) (fun cdv A outer s H vs Q E hr h => ?_)
  · obtain ⟨p, l, a, ns, n, cs, rfl, _⟩ := h
    rfl
  · obtain ⟨p, l, a, ns, n, cs, rfl, PA, ha, hap, hne, h26, hlt, q⟩ := h
    refine ⟨_, (pss_cons (ps_set (i := 2) sc_any_image.nd rfl (.inl rfl) (pe_c D_pick hr (by decide) (by rfl) (pa_cons (pv 0) (pa_cons (pe_lst (pa_cons pe_int (pa_cons pe_int (pa_cons pe_int (pa_cons pe_int (pa_cons pe_int (pa_cons pe_int pa_nil))))))) pa_nil))))
      (pss_one (ps_ret (pe_joinK (K := K) rfl pe_str (pe_lc (own := [("_law_k", 3)]) (g := gName 3) (by rfl) sc_any_image.nd (pi_range1 (by rfl) T.range (pa_cons (pv 2) pa_nil)) (blkOk_by (own := [("_law_k", 3)]) (N := n_any_image) (sc := defScope s_any_image) (by decide +kernel)) (fun _ _ _ _ _ => (pg_name (i := 3) sc_any_image.nd rfl (.inl rfl))) (fun _ _ _ _ _ => pts_nil) (fun _ _ _ _ _ => (pe_c D_pick hr (by decide) (by rfl) (pa_cons (pv 0) (pa_cons (pv 1) pa_nil))))))))), ?_⟩
    have hcs : 0 < cs.length := List.length_pos_iff.mpr hne
    -- pick(pen, [1, 1, 2, 2, 3, 4])
    refine ⟨.ref p, rfl, by decide, fun b nb => ?_⟩
    have hbp := PA.nep nb
    refine ⟨p, l, b, ns, n + 4, [.int 1, .int 1, .int 2, .int 2, .int 3, .int 4], rfl, PA.new nb, SqL.of upd_same, by decide, by decide, fun H' fr => SqL.of (fr _ _ upd_same hbp), fun v H1 hv PA1 fr1 => ?_⟩
    obtain ⟨k, rfl, k1, k4⟩ : ∃ k : Nat, v = .int k ∧ 1 ≤ k ∧ k ≤ 4 := by
      simp at hv
      rcases hv with rfl | rfl | rfl | rfl
      · exact ⟨1, rfl, by omega, by omega⟩
      · exact ⟨2, rfl, by omega, by omega⟩
      · exact ⟨3, rfl, by omega, by omega⟩
      · exact ⟨4, rfl, by omega, by omega⟩
    have fr01 : Fr p H H1 := (Fr.new nb).trans fr1
    -- ''.join([..])
    refine ⟨⟨_, rfl⟩, _, rfl, k, rfl, by omega, by omega, fun D nD => lc_range (lo := 0) (n := k) (fun i H2 => ∃ got : List Nat, got.length = i ∧ (∀ d ∈ got, d ∈ cs) ∧ H2 D = some (.lst (lets got)) ∧ PenAt H2 p l ns (n + (4 - i)) ∧ Fr p H H2) ?_ ?_ ?_⟩
    · exact ⟨[], rfl, fun d h => (by cases h), upd_same, (PA1.new nD).less (by omega), fr01.trans (Fr.new nD)⟩
    · rintro i H2 hi ⟨got, hg, hin, hD, PA2, fr2⟩
      have hDp := PA1.nep nD
      have ha2 := fr2 _ _ ha hap
      refine ⟨rfl, ⟨_, rfl, _, rfl, p, l, a, ns, n + (4 - (i + 1)), lets cs, rfl, PA2.less (by omega), SqL.of ha2, by rw [lets_len]; omega, by rw [lets_len]; omega, fun H' fr => SqL.of (fr _ _ ha2 hap), fun v H3 hv PA3 fr3 => ?_⟩⟩
      obtain ⟨c, hc, rfl⟩ := lets_mem hv
      have hD3 := fr3 _ _ hD hDp
      refine ⟨lets got, hD3, by rw [lets_len]; exact small1000 (by omega), got ++ [c], by simp [hg], ?_, by rw [upd_same, lets_snoc], PA3.other hDp (PA1.nel nD), (fr2.trans fr3).put (fr01.back nD hDp)⟩
      intro d hd
      rcases List.mem_append.mp hd with h | h
      · exact hin d h
      · rw [List.mem_singleton.mp h]
        exact hc
    · rintro H2 ⟨got, hg, hin, hD, PA2, fr2⟩
      refine ⟨Str.empty, D, got.map L1, rfl, rfl, .inl (by rw [List.map_map]; exact SqL.of hD), ?_, ?_⟩
      · have e : (got.map L1).map (·.length) = got.map fun _ => 1 := by
          rw [List.map_map]
          rfl
        rw [e, List.length_map]
        rw [sum_ones]
        show got.length + got.length * 0 ≤ _
        omega
      · rw [join_L1]
        exact q got H2 ⟨by omega, by omega, hin⟩ (PA2.less (by omega)) fr2
end
end V8
set_option Elab.async false
set_option linter.all false
set_option maxRecDepth 100000
set_option maxHeartbeats 4000000
namespace V8
open PySem PySem.Spec PyProof.Rows L2
section
variable {P : Program} {w : World} {K : PySem.W.Frag} {mg : Str → Option Value} {base : Heap}
theorem lets_get {cs : List Nat} {i : Nat} {x : V} (h : (lets cs)[i]? = some x) : ∃ hi : i < cs.length, x = .str (L1 cs[i]) := by
  unfold lets at h
  rw [List.getElem?_map] at h
  cases e : cs[i]? with
  | none =>
    rw [e] at h
    cases h
  | some c =>
    obtain ⟨hi, ec⟩ := List.getElem?_eq_some_iff.mp e
    rw [e] at h
    exact ⟨hi, by rw [ec]; exact (Option.some.inj h).symm⟩
theorem lets_at {cs : List Nat} {j : Nat} (hj : j < cs.length) : (lets cs)[j]? = some (.str (L1 cs[j])) := by
  unfold lets
  rw [List.getElem?_map, List.getElem?_eq_getElem hj]
  rfl
theorem seq_ix {j n : Nat} (h : j < n) : seqIndex? (j : Int) n = some j := by
  unfold seqIndex?
  simp
  omega
theorem erase_len {xs : List Nat} {k : Nat} (h : k < xs.length) : (xs.eraseIdx k).length = xs.length - 1 := List.length_eraseIdx_of_lt h
theorem goodI1 {cs : List Nat} {a : Nat} (h : a ∈ cs) : GoodI cs [a] := ⟨Nat.le_refl _, by show 1 ≤ 4; decide, fun x hx => by rw [List.mem_singleton.mp hx]; exact h⟩
theorem goodI2 {cs : List Nat} {a b : Nat} (h : a ∈ cs) (h' : b ∈ cs) : GoodI cs [a, b] := by
  refine ⟨by show 1 ≤ 2; decide, by show 2 ≤ 4; decide, fun x hx => ?_⟩
  rcases List.mem_cons.mp hx with e | hx
  · rw [e]
    exact h
  · rw [List.mem_singleton.mp hx]
    exact h'
theorem ok_escaped {f : Addr} {fd : FuncData} (F : Fun K "_law_escaped" "_law_escaped" s_escaped f fd) (T : Blt mg) (D_draw : Df P w K mg base 1 "_law_draw" spDraw) : FnOk P w K mg base CX0 2 f fd ["_law_pen_here", "_law_some"] (spTab 52) := by
  refine F.ok sc_escaped (fun vs H Q E h => ?_) (fun cdv A outer s H vs Q E hr h => ?_)
  · obtain ⟨p, l, a, ns, n, cs, rfl, _⟩ := h
    rfl
  · obtain ⟨p, l, a, ns, n, cs, rfl, PA, ha, hap, hne, hnd, h26, hlt, q⟩ := h
    refine ⟨_, (pss_cons (ps_par (i := 2) (j := 3) (by rfl) sc_escaped.nd rfl rfl (by decide) rfl rfl (pa_cons (pe_callTy (call_list_ofK (K := K) rfl) (by rfl) T.list (by decide +kernel) (pa_cons (pv 1) pa_nil)) (pa_cons pe_dnewK pa_nil)) (by rfl))
      (pss_cons (ps_for PassesOwn.never rfl (pi_list (pv 1)) (pg_name (i := 4) sc_escaped.nd rfl (.inl rfl))
        (pss_cons (ps_set (i := 5) sc_escaped.nd rfl (.inl rfl) (pe_and (pe_cmpR op_ne (pv 4) (pe_ix (ix_listK (K := K) rfl) (pv 1) pe_int (fun _ _ => rfl)) (nomark _)) (pe_one (pe_cmpR op_eq (pe_c D_draw hr (by decide) (by rfl) (pa_cons (pv 0) (pa_cons pe_int pa_nil))) pe_int (nomark _)))))
        (pss_one (ps_dput (hu_of hr) (pv 3) (pv 4) (pe_ifExp (pt_val (pv 5)) (pv 4) (pe_op op_add_str (pe_ix (ix_listK (K := K) rfl) (pv 1) pe_int (fun _ _ => rfl)) (pe_bmK (K := K) rfl PySem.F.plainAttrs_list PySem.F.slot_list_pop PySem.F.type_list_pop mt_popAt (pv 2) (pa_cons (pe_c D_draw hr (by decide) (by rfl) (pa_cons (pv 0) (pa_cons (pe_callB (call_len_seqK (K := K) rfl) (by rfl) T.len (by decide +kernel) (pa_cons (pv 2) pa_nil)) pa_nil))) pa_nil)))) rfl))))
      (pss_one (ps_ret (pv 3))))), ?_⟩
    have hcs : 0 < cs.length := List.length_pos_iff.mpr hne
    -- tails, found = list(some), {}
    refine ⟨.ref a, rfl, a, _, rfl, .inl (SqL.of ha), fun b nb d nd => ⟨_, _, rfl, ?_⟩⟩
    have hbp := PA.nep nb
    have hbl := PA.nel nb
    have PA1 := (PA.new (o := .lst (lets cs)) nb).new (o := .dK []) nd
    have hdp := (PA.new (o := .lst (lets cs)) nb).nep nd
    have hdl := (PA.new (o := .lst (lets cs)) nb).nel nd
    have hbd : b ≠ d := ne_of_none upd_same nd
    have hab : a ≠ b := ne_of_none ha nb
    have ndH : H d = none := (Fr.new (p := p) nb).back nd hdp
    have had : a ≠ d := ne_of_none ha ndH
    refine ⟨_, rfl, a, rfl, ⟨_, SqL.of (by rw [upd_ne had, upd_ne hab]; exact ha)⟩, for_list (K := K) (a := a) (xs := lets cs) (fun i σ H2 => ∃ (tails : List Nat) (t : Tab) (v4 v5 : Option V), σ = [some (.ref p), some (.ref a), some (.ref b), some (.ref d), v4, v5] ∧
        H2 a = some (.lst (lets cs)) ∧ H2 b = some (.lst (lets tails)) ∧ cs.length ≤ tails.length + i ∧ tails.length ≤ 26 ∧ (∀ x ∈ tails, x ∈ cs) ∧ H2 d = some (.dK (encT t)) ∧ t.length ≤ i ∧ GoodT cs t ∧ PenAt H2 p l ns (n + 2 * (26 - i)) ∧ Fr p H H2) ?_ ?_ ?_ ?_⟩
    · exact ⟨cs, [], none, none, rfl, by rw [upd_ne had, upd_ne hab]; exact ha, by rw [upd_ne hbd, upd_same], by omega, h26, fun x h => h, upd_same, Nat.le_refl _, GoodT.nil, PA1.less (by omega), (Fr.new nb).trans (Fr.new nd)⟩
    · rintro i σ H2 hi ⟨tails, t, v4, v5, rfl, ha2, _⟩
      exact SqL.of ha2
    · rintro i x σ H2 hx ⟨tails, t, v4, v5, rfl, ha2, hb2, htl, ht6, hts, hd2, htn, G, PA2, fr2⟩
      obtain ⟨hi, rfl⟩ := lets_get hx
      -- stays = letter != some[0] and draw(pen, 2) == 0
      refine ⟨_, rfl, _, rfl, a, _, 0, _, rfl, rfl, SqL.of ha2, atI_nat (j := 0) (lets_at hcs), rfl, _, rfl, ?_⟩
      refine ite2 (fun e => ?g1) (fun e => ?g2)
      case' g1 =>
        refine ⟨_, rfl, p, l, ns, n + 2 * (26 - (i + 1)) + 1, 2, rfl, PA2.less (by omega), by decide, by decide, fun v H3 v0 v1 PA3 fr3 => ?_⟩
        refine ⟨rfl, ?_⟩
        generalize decide (V.int v = V.int 0) = bb
      case' g2 =>
        have PA3 : PenAt H2 p l ns (n + 2 * (26 - (i + 1)) + 1) := PA2.less (by omega)
        have fr3 : Fr p H2 H2 := Fr.refl
        generalize false = bb
      all_goals
        have ha3 := fr3 _ _ ha2 hap
        have hb3 := fr3 _ _ hb2 hbp
        have hd3 := fr3 _ _ hd2 hdp
        refine ⟨_, rfl, _, rfl, ?_⟩
        refine ite2 (fun e5 => ?_) (fun e5 => ?_)
        · refine ⟨_, rfl, _, rfl, _, rfl, d, _, rfl, DPut.k (k := Sum.inr (L1 cs[i])) hd3 (by rw [encT_len]; exact small1000 (by omega)), ?_⟩
          have ep : putK (encT t) (Sum.inr (L1 cs[i])) (V.str (L1 cs[i])) = encT (putT t cs[i] [cs[i]]) := putK_enc t cs[i] [cs[i]]
          rw [ep]
          have hmem : cs[i] ∈ cs := List.getElem_mem hi
          refine ⟨tails, putT t cs[i] [cs[i]], _, _, rfl, by rw [upd_ne had]; exact ha3, by rw [upd_ne hbd]; exact hb3, by omega, ht6, hts, upd_same, Nat.le_trans (put_len t _ _) (by omega), G.put hmem (goodI1 hmem), (PA3.other hdp hdl).less (by omega), (fr2.trans fr3).put ndH⟩
        · have htp : 0 < tails.length := by omega
          refine ⟨_, rfl, a, _, 0, _, rfl, rfl, SqL.of ha3, atI_nat (j := 0) (lets_at hcs), ?_⟩
          refine ⟨_, rfl, .inl ⟨rfl, _, SqL.of hb3⟩, _, rfl, _, rfl, b, _, rfl, .inl (SqL.of hb3), p, l, ns, n + 2 * (26 - (i + 1)), _, rfl, PA3, by rw [lets_len]; omega, by rw [lets_len]; omega, fun v4 H4 w0 w1 PA4 fr4 => ?_⟩
          obtain ⟨j, rfl⟩ : ∃ j : Nat, v4 = j := ⟨v4.toNat, by omega⟩
          have hj : j < tails.length := by rw [lets_len] at w1; omega
          have hb4 := fr4 _ _ hb3 hbp
          have hd4 := fr4 _ _ hd3 hdp
          have ha4 := fr4 _ _ ha3 hap
          refine ⟨b, _, _, j, _, rfl, rfl, hb4, by omega, by omega, by rw [lets_len]; exact seq_ix hj, lets_at hj, _, _, rfl, rfl, by show 1 + 1 ≤ sizeLine; decide, ?_⟩
          refine ⟨_, rfl, _, rfl, d, _, rfl, DPut.k (k := Sum.inr (L1 cs[i])) (by rw [upd_ne (Ne.symm hbd)]; exact hd4) (by rw [encT_len]; exact small1000 (by omega)), ?_⟩
          have ep : putK (encT t) (Sum.inr (L1 cs[i])) (V.str (L1 cs[0] ++ L1 tails[j])) = encT (putT t cs[i] [cs[0], tails[j]]) := by
            rw [← putK_enc]
            rfl
          rw [ep]
          have hmem : cs[i] ∈ cs := List.getElem_mem hi
          have htm : tails[j] ∈ cs := hts _ (List.getElem_mem hj)
          refine ⟨tails.eraseIdx j, putT t cs[i] [cs[0], tails[j]], _, _, rfl, by rw [upd_ne had, upd_ne hab]; exact ha4, by rw [upd_ne hbd, upd_same, lets_erase], by rw [erase_len hj]; omega, by rw [erase_len hj]; omega, fun x hx => hts x (List.mem_of_mem_eraseIdx hx), upd_same,
            Nat.le_trans (put_len t _ _) (by omega), G.put hmem (goodI2 (List.getElem_mem hcs) htm), ((PA4.other hbp hbl).other hdp hdl).less (by omega), (((fr2.trans fr3).trans fr4).put nb).put ndH⟩
    · rintro σ H2 ⟨tails, t, v4, v5, rfl, ha2, hb2, htl, ht6, hts, hd2, htn, G, PA2, fr2⟩
      exact ⟨_, rfl, q d t H2 G (PA2.less (by omega)) fr2 ndH hd2⟩
end
end V8
set_option Elab.async false
set_option linter.all false
set_option maxRecDepth 100000
set_option maxHeartbeats 8000000
namespace V8
open PySem PySem.Spec PyProof.Rows L2
theorem nd_len : ∀ {a b : List Nat}, a.Nodup → (∀ x ∈ a, x ∈ b) → a.length ≤ b.length
  | [], _, _, _ => Nat.zero_le _
  | x :: a, b, h, hs => by
    have hx : x ∈ b := hs x (List.mem_cons_self ..)
    have h1 := List.nodup_cons.mp h
    have ih := nd_len (a := a) (b := b.erase x) h1.2 fun y hy => by
      have hne : y ≠ x := fun e => h1.1 (e ▸ hy)
      exact (List.mem_erase_of_ne hne).mpr (hs y (List.mem_cons_of_mem _ hy))
    rw [List.length_erase_of_mem hx] at ih
    have : 0 < b.length := List.length_pos_of_mem hx
    rw [List.length_cons]
    omega
theorem GoodT.len {cs : List Nat} {t : Tab} (g : GoodT cs t) : t.length ≤ cs.length := by
  have := nd_len g.nd fun x hx => by
    obtain ⟨q, hq, rfl⟩ := List.mem_map.mp hx
    exact g.key q hq
  rw [List.length_map] at this
  exact this
def mergeT (a b : Tab) : Tab := b.foldl (fun acc q => putT acc q.1 q.2) a
theorem mergeK_enc : ∀ (b a : Tab), mergeK (encT a) (encT b) = encT (mergeT a b)
  | [], _ => rfl
  | q :: b, a => by
    show mergeK (putK (encT a) (Sum.inr (L1 q.1)) (V.str (Sx q.2))) (encT b) = _
    rw [putK_enc, mergeK_enc b]
    rfl
theorem GoodT.merge {cs : List Nat} : ∀ {b a : Tab}, GoodT cs a → (∀ q ∈ b, q.1 ∈ cs ∧ GoodI cs q.2) → GoodT cs (mergeT a b)
  | [], _, g, _ => g
  | q :: b, a, g, h => by
    have h1 := h q (List.mem_cons_self ..)
    exact GoodT.merge (b := b) (a := putT a q.1 q.2) (g.put h1.1 h1.2) fun x hx => h x (List.mem_cons_of_mem _ hx)
/-- tuples of a letter and its image stand at ps -/
def PairsAt (H : Hp) (ps : List Addr) (t : Tab) : Prop := Paired (fun b (q : Nat × List Nat) => H b = some (.tup [V.str (L1 q.1), V.str (Sx q.2)])) ps t
theorem PairsAt.mono {H H' : Hp} {ps : List Addr} {t : Tab} (h : PairsAt H ps t) (k : ∀ b xs, H b = some (.tup xs) → H' b = some (.tup xs)) : PairsAt H' ps t := Paired.mapP h fun _ _ e => k _ _ e
theorem PairsAt.snoc {H : Hp} : ∀ {ps : List Addr} {t : Tab} {b : Addr} {q : Nat × List Nat}, PairsAt H ps t → H b = some (.tup [V.str (L1 q.1), V.str (Sx q.2)]) → PairsAt H (ps ++ [b]) (t ++ [q])
  | _, _, _, _, .nil, e => .cons e .nil
  | _, _, _, _, .cons h r, e => .cons h (PairsAt.snoc r e)
theorem PairsAt.sq {K : PySem.W.Frag} {H : Hp} : ∀ {ps : List Addr} {t : Tab}, PairsAt H ps t → Paired (fun p (kv : Key × V) => SqT K H p [kV kv.1, kv.2]) ps (encT t)
  | _, _, .nil => .nil
  | _, _, .cons h r => .cons (.inl (.inl h)) (PairsAt.sq r)
theorem PairsAt.len {H : Hp} {ps : List Addr} {t : Tab} (h : PairsAt H ps t) : ps.length = t.length := Paired.length h
theorem tup_fr {p : Addr} {xs : List V} {H H' : Hp} (f : Fr p H H') (hp : H p = some (.lst xs)) : ∀ b ys, H b = some (.tup ys) → H' b = some (.tup ys) := fun b ys e => f b _ e (ne_of e hp (fun z => nomatch z))
theorem tup_upd {D : Addr} {xs : List V} {o : HO} {H : Hp} (hp : H D = some (.lst xs)) : ∀ b ys, H b = some (.tup ys) → upd H D o b = some (.tup ys) := fun b ys e => by
  rw [upd_ne (ne_of e hp (fun z => nomatch z))]
  exact e
theorem tup_new {q : Addr} {o : HO} {H : Hp} (hp : H q = none) : ∀ b ys, H b = some (.tup ys) → upd H q o b = some (.tup ys) := fun b ys e => by
  rw [upd_ne (ne_of_none e hp)]
  exact e
theorem PenAt.pen {H : Hp} {p l : Addr} {ns : List Int} {n : Nat} (P : PenAt H p l ns n) : ∃ xs, H p = some (.lst xs) := by
  obtain ⟨⟨s, g, h1, _⟩, _⟩ := P
  exact ⟨_, h1⟩
theorem enc_at {t : Tab} {i : Nat} {k : Key} {v : V} (h : (encT t)[i]? = some (k, v)) : ∃ hi : i < t.length, k = Sum.inr (L1 t[i].1) ∧ v = V.str (Sx t[i].2) := by
  unfold encT at h
  rw [List.getElem?_map] at h
  cases e : t[i]? with
  | none =>
    rw [e] at h
    cases h
  | some c =>
    obtain ⟨hi, ec⟩ := List.getElem?_eq_some_iff.mp e
    rw [e] at h
    have h' := Option.some.inj h
    refine ⟨hi, ?_, ?_⟩
    · rw [ec]
      exact (congrArg Prod.fst h').symm
    · rw [ec]
      exact (congrArg Prod.snd h').symm
theorem look_at : ∀ {t : Tab} {i : Nat}, (t.map (·.1)).Nodup → ∀ hi : i < t.length, lookT t t[i].1 = some t[i].2
  | [], i, _, hi => absurd hi (Nat.not_lt_zero _)
  | q :: t, 0, _, _ => by
    unfold lookT
    simp
  | q :: t, i + 1, h, hi => by
    have hi' : i < t.length := by simpa using hi
    have h1 := List.nodup_cons.mp (by simpa using h : (q.1 :: t.map (·.1)).Nodup)
    have hne : ¬ q.1 = t[i].1 := fun e => h1.1 (e ▸ List.mem_map_of_mem (List.getElem_mem hi'))
    have ih := look_at (t := t) (i := i) h1.2 hi'
    show lookT (q :: t) t[i].1 = some t[i].2
    unfold lookT at ih ⊢
    rw [List.find?_cons_of_neg (by simpa using hne)]
    exact ih
section
variable {P : Program} {w : World} {K : PySem.W.Frag} {mg : Str → Option Value} {base : Heap}
theorem ok_table {f : Addr} {fd : FuncData} (F : Fun K "_law_table" "_law_table" s_table f fd) (T : Blt mg) (D_draw : Df P w K mg base 1 "_law_draw" spDraw) (D_escaped : Df P w K mg base 2 "_law_escaped" (spTab 52)) (D_any_image : Df P w K mg base 3 "_law_any_image" spImage) : FnOk P w K mg base CX0 4 f fd ["_law_pen_here", "_law_some"] (spTab 260) := by
  refine F.ok sc_table (fun vs H Q E h => ?_) (fun cdv A outer s H vs Q E hr h => ?_)
  · obtain ⟨p, l, a, ns, n, cs, rfl, _⟩ := h
    rfl
  · obtain ⟨p, l, a, ns, n, cs, rfl, PA, ha, hap, hne, hnd, h26, hlt, q⟩ := h
    refine ⟨_, (pss_cons (ps_asg (pe_tup (pa_cons (pe_c D_draw hr (by decide) (by rfl) (pa_cons (pv 0) (pa_cons pe_int pa_nil))) (pa_cons (pe_callTy (call_list_ofK (K := K) rfl) (by rfl) T.list (by decide +kernel) (pa_cons (pv 1) pa_nil)) (pa_cons pe_dnewK pa_nil)))) (pg_tup (by rfl) (pgs_cons (pg_name (i := 2) sc_table.nd rfl (.inl rfl)) (pgs_cons (pg_name (i := 3) sc_table.nd rfl (.inl rfl)) (pgs_cons (pg_name (i := 4) sc_table.nd rfl (.inr rfl)) pgs_nil)))))
      (pss_cons (ps_if (pt_cmpR op_lt (pv 2) pe_int (nomark _))
        (pss_one (ps_set (i := 4) sc_table.nd rfl (.inr rfl) (pe_c D_escaped hr (by decide) (by rfl) (pa_cons (pv 0) (pa_cons (pv 1) pa_nil)))))
        pss_nil)
      (pss_cons (ps_for PassesOwn.never rfl (pi_list (pv 1)) (pg_name (i := 5) sc_table.nd rfl (.inl rfl))
        (pss_one (ps_if (pt_cmpR op_eq (pv 2) pe_int (nomark _))
          (pss_one (ps_dput (hu_of hr) (pv 4) (pv 5) (pe_bmK (K := K) rfl PySem.F.plainAttrs_list PySem.F.slot_list_pop PySem.F.type_list_pop mt_popAt (pv 3) (pa_cons (pe_c D_draw hr (by decide) (by rfl) (pa_cons (pv 0) (pa_cons (pe_callB (call_len_seqK (K := K) rfl) (by rfl) T.len (by decide +kernel) (pa_cons (pv 3) pa_nil)) pa_nil))) pa_nil)) rfl))
          (pss_one (ps_if (pt_cmpR op_gt (pv 2) pe_int (nomark _))
            (pss_one (ps_dput (hu_of hr) (pv 4) (pv 5) (pe_ifExp (pt_cmpR op_eq (pe_c D_draw hr (by decide) (by rfl) (pa_cons (pv 0) (pa_cons pe_int pa_nil))) pe_int (nomark _)) (pv 5) (pe_c D_any_image hr (by decide) (by rfl) (pa_cons (pv 0) (pa_cons (pv 1) pa_nil)))) rfl))
            pss_nil)))))
      (pss_cons (ps_if (pt_cmpR op_gt (pe_c D_draw hr (by decide) (by rfl) (pa_cons (pv 0) (pa_cons pe_int pa_nil))) pe_int (nomark _))
        (pss_one (ps_ret (pv 4)))
        pss_nil)
      (pss_one (ps_ret (pe_callTy (call_dictP rfl) (by rfl) T.dict (by decide +kernel) (pa_cons (pe_lock (pe_lc (own := [("_law_letter", 5)]) (g := gName 5) (by rfl) sc_table.nd (pi_keys (pv 4)) (blkOk_by (own := [("_law_letter", 5)]) (N := n_table) (sc := defScope s_table) (by decide +kernel)) (fun _ _ _ _ _ => (pg_name (i := 5) sc_table.nd rfl (.inl rfl))) (fun _ _ _ _ _ => (pts_one (pt_cmpR op_gt (pe_c D_draw hr (by decide) (by rfl) (pa_cons (pv 0) (pa_cons pe_int pa_nil))) pe_int (nomark _)))) (fun _ _ _ _ _ => (pe_tup (pa_cons (pv 5) (pa_cons (pe_dget (hu_of hr) (pv 4) (pv 5) (fun _ _ => rfl)) pa_nil)))))) pa_nil)))))))), ?_⟩
    have hcs : 0 < cs.length := List.length_pos_iff.mpr hne
    -- way, left, found = draw(pen, 6), list(some), {}
    refine ⟨_, rfl, p, l, ns, n + 259, 6, rfl, PA.less (by omega), by decide, by decide, fun way H1 y0 y1 PA1 fr1 => ?_⟩
    have ha1 := fr1 _ _ ha hap
    refine ⟨.ref a, rfl, a, _, rfl, .inl (SqL.of ha1), fun b nb d nd => ⟨by show 3 ≤ sizeLine; decide, fun tp ntp => ?_⟩⟩
    refine ⟨tp, [.int way, .ref b, .ref d], rfl, .inl (.inl upd_same), rfl, _, _, rfl, _, _, rfl, _, _, rfl, rfl, ?_⟩
    have hbp := PA1.nep nb
    have hbl := PA1.nel nb
    have PAb := PA1.new (o := .lst (lets cs)) nb
    have hdp := PAb.nep nd
    have hdl := PAb.nel nd
    have PAd := PAb.new (o := .dK []) nd
    have hbd : b ≠ d := ne_of_none upd_same nd
    have hab : a ≠ b := ne_of_none ha1 nb
    have had : a ≠ d := by
      refine ne_of_none (o := .lst (lets cs)) ?_ nd
      rw [upd_ne hab]
      exact ha1
    have htd : d ≠ tp := ne_of_none upd_same ntp
    have htb : b ≠ tp := ne_of_none (o := .lst (lets cs)) (by rw [upd_ne hbd]; exact upd_same) ntp
    have hta : a ≠ tp := ne_of_none (o := .lst (lets cs)) (by rw [upd_ne had, upd_ne hab]; exact ha1) ntp
    have nbH : H b = none := fr1.back nb hbp
    have ndH : H d = none := (fr1.trans (Fr.new nb)).back nd hdp
    have PAx := (PAd.new (o := .tup [.int way, .ref b, .ref d]) ntp).less (m := n + 259) (by omega)
    have frx : Fr p H (upd (upd (upd H1 b (.lst (lets cs))) d (.dK [])) tp (.tup [.int way, .ref b, .ref d])) := ((fr1.trans (Fr.new nb)).trans (Fr.new nd)).trans (Fr.new ntp)
    have hax : upd (upd (upd H1 b (.lst (lets cs))) d (.dK [])) tp (.tup [.int way, .ref b, .ref d]) a = some (.lst (lets cs)) := by rw [upd_ne hta, upd_ne had, upd_ne hab]; exact ha1
    have hbx : upd (upd (upd H1 b (.lst (lets cs))) d (.dK [])) tp (.tup [.int way, .ref b, .ref d]) b = some (.lst (lets cs)) := by rw [upd_ne htb, upd_ne hbd, upd_same]
    have hdx : upd (upd (upd H1 b (.lst (lets cs))) d (.dK [])) tp (.tup [.int way, .ref b, .ref d]) d = some (.dK (encT [])) := by rw [upd_ne htd, upd_same]; rfl
    generalize upd (upd (upd H1 b (.lst (lets cs))) d (.dK [])) tp (.tup [.int way, .ref b, .ref d]) = Hx at PAx frx hax hbx hdx ⊢
    clear PAd PAb nd ntp nb
    -- if way < 2: found = escaped(pen, some)
    refine ⟨_, rfl, way, 2, rfl, rfl, _, rfl, ?_⟩
    refine ite2 (fun e => ?g1) (fun e => ?g2)
    case' g1 =>
      refine ⟨_, rfl, _, rfl, p, l, a, ns, n + 207, cs, rfl, PAx.less (by omega), hax, hap, hne, hnd, h26, hlt, fun d2 t2 H3 G2 PA3 fr3 nd2 hd2 => ?_⟩
      have ha3 := fr3 _ _ hax hap
      have hb3 := fr3 _ _ hbx hbp
      have hbd2 : b ≠ d2 := ne_of_none hbx nd2
      have had2 : a ≠ d2 := ne_of_none hax nd2
      have hd2p := PAx.nep nd2
      have hd2l := PAx.nel nd2
      have nd2H : H d2 = none := frx.back nd2 hd2p
      have fr03 := frx.trans fr3
    case' g2 =>
      obtain ⟨d2, rfl⟩ : ∃ d2, d2 = d := ⟨d, rfl⟩
      have G2 : GoodT cs [] := GoodT.nil
      have PA3 : PenAt Hx p l ns (n + 207) := PAx.less (by omega)
      have ha3 := hax
      have hb3 := hbx
      have hd2 := hdx
      have hbd2 := hbd
      have had2 := had
      have hd2p := hdp
      have hd2l := hdl
      have nd2H := ndH
      have fr03 := frx
    all_goals
      refine ⟨_, rfl, a, rfl, ⟨_, SqL.of ha3⟩, for_list (K := K) (a := a) (xs := lets cs) (fun i σ H2 => ∃ (left : List Nat) (t : Tab) (v5 : Option V), σ = [some (.ref p), some (.ref a), some (.int way), some (.ref b), some (.ref d2), v5] ∧
        H2 a = some (.lst (lets cs)) ∧ H2 b = some (.lst (lets left)) ∧ (way = 2 → cs.length ≤ left.length + i) ∧ left.length ≤ 26 ∧ (∀ x ∈ left, x ∈ cs) ∧ H2 d2 = some (.dK (encT t)) ∧ GoodT cs t ∧ PenAt H2 p l ns (n + 30 + 6 * (26 - i)) ∧ Fr p H H2) ?_ ?_ ?_ ?_⟩
      · exact ⟨cs, _, none, rfl, ha3, hb3, fun _ => by omega, h26, fun x h => h, hd2, G2, PA3.less (by omega), fr03⟩
      · rintro i σ H2 hi ⟨left, t, v5, rfl, ha2, _⟩
        exact SqL.of ha2
      · rintro i x σ H2 hx ⟨left, t, v5, rfl, ha2, hb2, hl2, hl6, hls, hd4, G, PA2, fr2⟩
        obtain ⟨hi, rfl⟩ := lets_get hx
        have hmem : cs[i] ∈ cs := List.getElem_mem hi
        have tl26 := G.len
        have small : (encT t).length < sizeLine := by rw [encT_len]; exact small1000 (by omega)
        refine ⟨_, rfl, rfl, _, rfl, ?_⟩
        refine ite2 (fun e2 => ?_) (fun e2 => ?_)
        · have ew : way = 2 := V.int.inj (of_decide_eq_true e2)
          have hlp := hl2 ew
          refine ⟨_, rfl, .inl ⟨rfl, _, SqL.of hb2⟩, _, rfl, _, rfl, b, _, rfl, .inl (SqL.of hb2), p, l, ns, n + 30 + 6 * (26 - (i + 1)), _, rfl, PA2.less (by omega), by rw [lets_len]; omega, by rw [lets_len]; omega, fun v4 H4 w0 w1 PA4 fr4 => ?_⟩
          obtain ⟨j, rfl⟩ : ∃ j : Nat, v4 = j := ⟨v4.toNat, by omega⟩
          have hj : j < left.length := by rw [lets_len] at w1; omega
          have hb4 := fr4 _ _ hb2 hbp
          have hd5 := fr4 _ _ hd4 hd2p
          have ha4 := fr4 _ _ ha2 hap
          refine ⟨b, _, _, j, _, rfl, rfl, hb4, by omega, by omega, by rw [lets_len]; exact seq_ix hj, lets_at hj, ?_⟩
          refine ⟨_, rfl, _, rfl, d2, _, rfl, DPut.k (k := Sum.inr (L1 cs[i])) (by rw [upd_ne (Ne.symm hbd2)]; exact hd5) small, ?_⟩
          have ep : putK (encT t) (Sum.inr (L1 cs[i])) (V.str (L1 left[j])) = encT (putT t cs[i] [left[j]]) := putK_enc t cs[i] [left[j]]
          rw [ep]
          have htm : left[j] ∈ cs := hls _ (List.getElem_mem hj)
          exact ⟨left.eraseIdx j, putT t cs[i] [left[j]], _, rfl, by rw [upd_ne had2, upd_ne hab]; exact ha4, by rw [upd_ne hbd2, upd_same, lets_erase], fun _ => by rw [erase_len hj]; omega, by rw [erase_len hj]; omega, fun x hx => hls x (List.mem_of_mem_eraseIdx hx), upd_same,
            G.put hmem (goodI1 htm), (PA4.other hbp hbl).other hd2p hd2l, ((fr2.trans fr4).put nbH).put nd2H⟩
        · have ew : way ≠ 2 := fun z => e2 (by rw [z]; decide)
          refine ⟨_, rfl, _, _, rfl, rfl, _, rfl, ?_⟩
          refine ite2 (fun e3 => ?_) (fun e3 => ?_)
          · refine ⟨_, rfl, p, l, ns, n + 35 + 6 * (26 - (i + 1)), 3, rfl, PA2.less (by omega), by decide, by decide, fun v4 H4 w0 w1 PA4 fr4 => ⟨rfl, _, rfl, ?_⟩⟩
            have hb4 := fr4 _ _ hb2 hbp
            have hd5 := fr4 _ _ hd4 hd2p
            have ha4 := fr4 _ _ ha2 hap
            refine ite2 (fun e4 => ?_) (fun e4 => ?_)
            · refine ⟨_, rfl, _, rfl, _, rfl, d2, _, rfl, DPut.k (k := Sum.inr (L1 cs[i])) hd5 small, ?_⟩
              have ep : putK (encT t) (Sum.inr (L1 cs[i])) (V.str (L1 cs[i])) = encT (putT t cs[i] [cs[i]]) := putK_enc t cs[i] [cs[i]]
              rw [ep]
              exact ⟨left, putT t cs[i] [cs[i]], _, rfl, by rw [upd_ne had2]; exact ha4, by rw [upd_ne hbd2]; exact hb4, fun z => absurd z ew, hl6, hls, upd_same, G.put hmem (goodI1 hmem), (PA4.other hd2p hd2l).less (by omega), (fr2.trans fr4).put nd2H⟩
            · refine ⟨_, rfl, _, rfl, p, l, a, ns, n + 30 + 6 * (26 - (i + 1)), cs, rfl, PA4.less (by omega), ha4, hap, hne, h26, hlt, fun s H5 gs PA5 fr5 => ?_⟩
              have hb6 := fr5 _ _ hb4 hbp
              have hd6 := fr5 _ _ hd5 hd2p
              have ha6 := fr5 _ _ ha4 hap
              refine ⟨_, rfl, _, rfl, d2, _, rfl, DPut.k (k := Sum.inr (L1 cs[i])) hd6 small, ?_⟩
              rw [putK_enc]
              exact ⟨left, putT t cs[i] s, _, rfl, by rw [upd_ne had2]; exact ha6, by rw [upd_ne hbd2]; exact hb6, fun z => absurd z ew, hl6, hls, upd_same, G.put hmem gs, (PA5.other hd2p hd2l).less (by omega), ((fr2.trans fr4).trans fr5).put nd2H⟩
          · exact ⟨left, t, _, rfl, ha2, hb2, fun z => absurd z ew, hl6, hls, hd4, G, PA2.less (by omega), fr2⟩
      · rintro σ H2 ⟨left, t, v5, rfl, ha2, hb2, hl2, hl6, hls, hd4, G, PA2, fr2⟩
        have tl26 := G.len
        refine ⟨_, rfl, p, l, ns, n + 29, 3, rfl, PA2.less (by omega), by decide, by decide, fun v4 H4 w0 w1 PA4 fr4 => ⟨_, _, rfl, rfl, _, rfl, ?_⟩⟩
        have hd5 := fr4 _ _ hd4 hd2p
        refine ite2 (fun e4 => ?_) (fun e4 => ?_)
        · exact ⟨_, rfl, q d2 t H4 G (PA4.less (by omega)) (fr2.trans fr4) nd2H hd5⟩
        · refine ⟨d2, _, hd5, True.intro, fun od => ⟨_, rfl, d2, od, rfl, .inl ⟨_, upd_same, fun D nD => lc_it walk_keys (fun i H2 => ∃ (ps : List Addr) (t2 : Tab), (∀ x ∈ t2, x.1 ∈ cs ∧ GoodI cs x.2) ∧ ps.length ≤ i ∧ H2 D = some (.lst (ps.map V.ref)) ∧ PairsAt H2 ps t2 ∧
            H2 d2 = some (.frz od (.dK (encT t))) ∧ PenAt H2 p l ns (n + (29 - i)) ∧ Fr p H H2) ?_ ?_ ?_ ?_⟩⟩⟩
          · have hDd : d2 ≠ D := ne_of_none upd_same nD
            refine ⟨[], [], fun x h => (by cases h), Nat.le_refl _, upd_same, .nil, by rw [upd_ne hDd, upd_same], ((PA4.other hd2p hd2l).new nD).less (by omega), ((fr2.trans fr4).put nd2H).trans (Fr.new nD)⟩
          · rintro i H2 hi ⟨ps, t2, _, _, _, _, h, _⟩
            exact h
          · rintro i x H2 H2' hi ⟨ps, t2, ht2, hps, hD, hpa, hfz, PA5, fr5⟩ ⟨rfl, k, v, hk, rfl⟩
            obtain ⟨hit, rfl, rfl⟩ := enc_at hk
            have hDp : D ≠ p := (PA4.other (o := .frz od (.dK (encT t))) hd2p hd2l).nep nD
            have hDl : D ≠ l := (PA4.other (o := .frz od (.dK (encT t))) hd2p hd2l).nel nD
            have nDH : H D = none := ((fr2.trans fr4).put (a := d2) nd2H).back nD hDp
            refine ⟨rfl, _, rfl, p, l, ns, n + (29 - (i + 1)), 3, rfl, PA5.less (by omega), by decide, by decide, fun v6 H6 u0 u1 PA6 fr6 => ⟨_, _, rfl, rfl, _, rfl, ?_⟩⟩
            obtain ⟨pl, hpl⟩ := PA5.pen
            have hpa6 := hpa.mono (tup_fr fr6 hpl)
            have hD6 := fr6 _ _ hD hDp
            have hfz6 := fr6 _ _ hfz hd2p
            refine ite2 (fun e6 => ?_) (fun e6 => ?_)
            · refine ⟨_, rfl, _, rfl, _, rfl, d2, V.str (Sx t[i].2), rfl, .inl ⟨_, Sum.inr (L1 t[i].1), .inr ⟨od, hfz6⟩, rfl, ?_⟩, by show 2 ≤ sizeLine; decide, fun tq ntq => ?_⟩
              · rw [valV_enc, look_at G.nd hit]
                rfl
              · have htD : D ≠ tq := ne_of_none hD6 ntq
                refine ⟨ps.map V.ref, by rw [upd_ne htD]; exact hD6, by rw [List.length_map]; exact small1000 (by omega), ps ++ [tq], t2 ++ [t[i]], ?_, by rw [List.length_append]; exact Nat.succ_le_succ hps, ?_, ?_, ?_, ?_, ?_⟩
                · intro x hx
                  rcases List.mem_append.mp hx with h | h
                  · exact ht2 x h
                  · rw [List.mem_singleton.mp h]
                    exact ⟨G.key _ (List.getElem_mem hit), G.img _ (List.getElem_mem hit)⟩
                · rw [upd_same, List.map_append]
                  rfl
                · refine PairsAt.snoc ((hpa6.mono (tup_new ntq)).mono (tup_upd (by rw [upd_ne htD]; exact hD6))) ?_
                  exact (upd_ne (Ne.symm htD)).trans upd_same
                · rw [upd_ne (ne_of hfz6 hD6 (fun z => nomatch z)), upd_ne (ne_of_none hfz6 ntq)]
                  exact hfz6
                · exact ((PA6.new ntq).other hDp hDl)
                · exact ((fr5.trans fr6).trans (Fr.new ntq)).put nDH
            · exact ⟨ps, t2, ht2, by omega, hD6, hpa6, hfz6, PA6, fr5.trans fr6⟩
          · rintro H2 ⟨ps, t2, ht2, hps, hD, hpa, hfz, PA5, fr5⟩
            have hDd : D ≠ d2 := ne_of hD hfz (fun z => nomatch z)
            refine ⟨hfz, D, ps, encT t2, rfl, SqL.of (by rw [upd_ne hDd]; exact hD), (PairsAt.sq (hpa.mono fun b ys e => by rw [upd_ne (ne_of e hfz (fun z => nomatch z))]; exact e)), fun r nr => ?_⟩
            have em : mergeK [] (encT t2) = encT (mergeT [] t2) := mergeK_enc t2 []
            rw [em]
            have PA7 := (PA5.other (o := .dK (encT t)) hd2p hd2l)
            have fr7 := fr5.put (a := d2) (o := .dK (encT t)) nd2H
            exact q r (mergeT [] t2) _ (GoodT.merge GoodT.nil ht2) ((PA7.new nr).less (by omega)) (fr7.trans (Fr.new nr)) (fr7.back nr (PA7.nep nr)) upd_same
end
end V8
set_option Elab.async false
set_option linter.all false
set_option maxRecDepth 100000
set_option maxHeartbeats 8000000
/-! Letters, texts, images: the program's own tests. -/
namespace V8
open PySem PySem.Spec PyProof.Rows L2
abbrev s_is_letter : Stmt := topS 21
theorem sc_is_letter : FnScope ["value"] ["value"] (defScope s_is_letter) := ⟨rfl, rfl, rfl, by decide +kernel, rfl, by decide +kernel, by decide +kernel⟩
abbrev s_is_text : Stmt := topS 22
theorem sc_is_text : FnScope ["value"] ["value"] (defScope s_is_text) := ⟨rfl, rfl, rfl, by decide +kernel, rfl, by decide +kernel, by decide +kernel⟩
abbrev s_all_letters : Stmt := topS 23
theorem sc_all_letters : FnScope ["string"] ["string"] (defScope s_all_letters) := ⟨rfl, rfl, rfl, by decide +kernel, rfl, by decide +kernel, by decide +kernel⟩
abbrev s_is_image : Stmt := topS 35
theorem sc_is_image : FnScope ["value"] ["value"] (defScope s_is_image) := ⟨rfl, rfl, rfl, by decide +kernel, rfl, by decide +kernel, by decide +kernel⟩
abbrev s_told_images : Stmt := topS 37
abbrev n_told_images : List Str := ["images", "keeps", "key", "letter", "kept"]
theorem sc_told_images : FnScope ["images", "keeps", "key", "letter", "kept"] ["images", "keeps"] (defScope s_told_images) := ⟨rfl, rfl, rfl, by decide +kernel, rfl, by decide +kernel, by decide +kernel⟩
/-- what the top has left, of the names and of the two classes -/
structure Tx (K : PySem.W.Frag) (mg : Str → Option Value) (CM CJ : Addr) : Prop extends Blt mg where
  isinstance : mg "isinstance" = none
  iter : mg "iter" = none
  gLETTERS : GV mg "LETTERS" (.str abcS)
  gLONGEST : GV mg "LONGEST" (.int 2000)
  gLONGEST_TOLD : GV mg "LONGEST_TOLD" (.int 4)
  gMOST_LETTERS : GV mg "MOST_LETTERS" (.int 12)
  gMisreading : GV mg "Misreading" (.ref CM)
  gJoined : GV mg "Joined" (.ref CJ)
  dJ : PySem.W.kitOne K (.type "dict") (.ref CJ) = some false
  dM : PySem.W.kitOne K (.type "dict") (.ref CM) = some false
  sM : PySem.W.kitOne K (.type "str") (.ref CM) = some false
  iM : PySem.W.kitOne K (.type "int") (.ref CM) = some false
  cl : Cls K CM
  nL : NoAttr K CM "_letters"
  nI : NoAttr K CM "_images"
  nC : NoAttr K CM "changed"
  tA : PySem.W.findIn K (.ref CM) "__class__" = some (some (.builtin "object.__class__"))
  tB : PySem.W.specialIn K (.builtin "object.__class__") "__get__" = some (some (.builtin "getset_descriptor.__get__"))
  tC : PySem.W.takesIn K (.builtin "object.__class__") = some true
  tD : PySem.W.mroIn K CM (.type "object") = some true
  ne : PySem.W.findIn K (.ref CM) "__ne__" = some (some (.builtin "object.__ne__"))
  fd : PySem.W.notFirst K CM (.type "dict") = true
  fs : PySem.W.notFirst K CM (.type "str") = true
  fi : PySem.W.notFirst K CM (.type "int") = true
def spIsLetter (K : PySem.W.Frag) : Sp := fun vs H Q _ => ∃ x, vs = [x] ∧ ((∃ c, x = .str (L1 c) ∧ Q (.bl (decide (c ∈ abc))) H) ∨ (∃ z, x = .str z ∧ z.length ≤ sizeLine ∧ z.length ≠ 1 ∧ Q (.bl false) H) ∨ (∃ t, TyX K H x t ∧ PySem.W.kitOne K t (.type "str") = some false ∧ Q (.bl false) H))
def spAllLetters : Sp := fun vs H Q _ => ∃ cs : List Nat, vs = [.str (Sx cs)] ∧ (∀ c ∈ cs, isLt c) ∧ cs.length ≤ 2000 ∧ Q (.bl true) H
def spIsText : Sp := spAllLetters
def spIsImage : Sp := fun vs H Q _ => ∃ s : List Nat, vs = [.str (Sx s)] ∧ (1 ≤ s.length ∧ s.length ≤ 4 ∧ ∀ d ∈ s, isLt d) ∧ Q (.bl true) H
theorem tw_all {p : Nat → Bool} : ∀ {l : List Nat}, (∀ c ∈ l, p c = true) → l.takeWhile p = l
  | [], _ => rfl
  | a :: r, h => by
    rw [List.takeWhile_cons, if_pos (h a (List.mem_cons_self ..)), tw_all fun c hc => h c (List.mem_cons_of_mem _ hc)]
theorem strip_all {cs : List Nat} (h : ∀ c ∈ cs, isLt c) : (Txt.stripChars (Sx cs) abcS).length = 0 := by
  have ha : ∀ c ∈ cs, abcS.cps.contains c = true := fun c hc => by
    have h1 : c ∈ abcS.cps.toList := by
      rw [abcS_cps]
      exact abc_mem.mpr (h c hc)
    exact Array.contains_iff_mem.mpr (Array.mem_toList_iff.mp h1)
  have hl : stripLo abcS.cps.contains true (Sx cs) = cs.length := by
    unfold stripLo
    rw [if_pos rfl]
    show (List.takeWhile abcS.cps.contains cs).length = cs.length
    rw [tw_all ha]
  unfold Txt.stripChars
  rw [stripBy_eq, hl]
  have e := TL.tl_strSub (Sx cs) cs.length (stripHi abcS.cps.contains true (Sx cs) cs.length)
  have e2 : TL.tl (Sx cs) = cs := rfl
  rw [e2, List.drop_length, List.take_nil] at e
  have e3 := congrArg List.length e
  exact e3
theorem dec_t {p : Prop} [Decidable p] (h : p) : V.bl (decide p) = V.bl true := by rw [decide_eq_true h]
theorem ty_str {K : PySem.W.Frag} {H : Hp} (z : Str) : TyX K H (.str z) (.type "str") := .base (.str z)
section
variable {P : Program} {w : World} {K : PySem.W.Frag} {mg : Str → Option Value} {base : Heap} {CM CJ : Addr}
theorem ok_is_letter {f : Addr} {fd : FuncData} (F : Fun K "is_letter" "is_letter" s_is_letter f fd) (T : Tx K mg CM CJ) : FnOk P w K mg base CX0 1 f fd ["value"] (spIsLetter K) := by
  refine F.ok sc_is_letter (fun vs H Q E h => ?_) (fun cdv A outer s H vs Q E hr h => ?_)
  · obtain ⟨x, rfl, _⟩ := h
    rfl
  · obtain ⟨x, rfl, h⟩ := h
    refine ⟨_, (pss_one (ps_ret (pe_and (pe_callB call_isi (by rfl) T.isinstance (by decide +kernel) (pa_cons (pv 0) (pa_cons (pe_bltn (v := .ty "str") (by rfl) T.str (by decide +kernel) rfl) pa_nil))) (pe_and (pe_cmpR op_eq (pe_callB call_len_str (by rfl) T.len (by decide +kernel) (pa_cons (pv 0) pa_nil)) pe_int (nomark _)) (pe_one (pe_cmpR op_in_sign (pv 0) (pe_gv T.gLETTERS (by rfl)) rfl)))))), ?_⟩
    rcases h with ⟨c, rfl, q⟩ | ⟨z, rfl, hz, h1, q⟩ | ⟨t, ty, e, q⟩
    · refine ⟨_, rfl, _, .ty "str", .type "str", .type "str", true, rfl, .ty _, ty_str _, kit_ty (by decide +kernel), true, rfl, ?_⟩
      refine ⟨_, rfl, _, rfl, by show 1 ≤ sizeLine; decide, rfl, true, rfl, ?_⟩
      refine ⟨_, rfl, c, abcS, rfl, rfl, ?_⟩
      rw [abcS_cps]
      exact q
    · refine ⟨_, rfl, _, .ty "str", .type "str", .type "str", true, rfl, .ty _, ty_str _, kit_ty (by decide +kernel), true, rfl, ?_⟩
      refine ⟨_, rfl, _, rfl, hz, rfl, false, ?_, ?_⟩
      · rw [decide_eq_false]
        intro e
        have e' := V.int.inj e
        omega
      · exact q
    · exact ⟨_, rfl, _, .ty "str", t, .type "str", false, rfl, .ty _, ty, e, false, rfl, q⟩
theorem ok_all_letters {f : Addr} {fd : FuncData} (F : Fun K "all_letters" "all_letters" s_all_letters f fd) (T : Tx K mg CM CJ) : FnOk P w K mg base CX0 1 f fd ["string"] spAllLetters := by
  refine F.ok sc_all_letters (fun vs H Q E h => ?_) (fun cdv A outer s H vs Q E hr h => ?_)
  · obtain ⟨cs, rfl, _⟩ := h
    rfl
  · obtain ⟨cs, rfl, hl, hn, q⟩ := h
    refine ⟨_, (pss_one (ps_ret (pe_notTK (K := K) rfl (pe_bmK (K := K) rfl PySem.F.plainAttrs_str PySem.F.slot_str_strip PySem.F.type_str_strip mt_stripChars (pv 0) (pa_cons (pe_gv T.gLETTERS (by rfl)) pa_nil))))), ?_⟩
    have hz : (Sx cs).length ≤ sizeLine := by rw [Sx_len, sizeLine_eq]; omega
    refine ⟨_, rfl, rfl, _, abcS, rfl, rfl, hz, false, ⟨?_, ?_⟩, q⟩
    · exact Nat.le_trans (len_stripChars _ _) hz
    · rw [strip_all hl]
      rfl
theorem ok_is_text {f : Addr} {fd : FuncData} (F : Fun K "is_text" "is_text" s_is_text f fd) (T : Tx K mg CM CJ) (D_all_letters : Df P w K mg base 1 "all_letters" spAllLetters) : FnOk P w K mg base CX0 2 f fd ["value"] spIsText := by
  refine F.ok sc_is_text (fun vs H Q E h => ?_) (fun cdv A outer s H vs Q E hr h => ?_)
  · obtain ⟨cs, rfl, _⟩ := h
    rfl
  · obtain ⟨cs, rfl, hl, hn, q⟩ := h
    refine ⟨_, (pss_one (ps_ret (pe_and (pe_callB call_isi (by rfl) T.isinstance (by decide +kernel) (pa_cons (pv 0) (pa_cons (pe_bltn (v := .ty "str") (by rfl) T.str (by decide +kernel) rfl) pa_nil))) (pe_and (pe_cmpR op_le (pe_callB call_len_str (by rfl) T.len (by decide +kernel) (pa_cons (pv 0) pa_nil)) (pe_gv T.gLONGEST (by rfl)) (nomark _)) (pe_one (pe_c D_all_letters hr (by decide) (by rfl) (pa_cons (pv 0) pa_nil))))))), ?_⟩
    have hz : (Sx cs).length ≤ sizeLine := by rw [Sx_len, sizeLine_eq]; omega
    refine ⟨_, rfl, _, .ty "str", .type "str", .type "str", true, rfl, .ty _, ty_str _, kit_ty (by decide +kernel), true, rfl, ?_⟩
    refine ⟨_, rfl, _, rfl, hz, _, _, rfl, rfl, true, ?_, ?_⟩
    · rw [Sx_len]
      exact dec_t (show (cs.length : Int) ≤ 2000 by omega)
    · exact ⟨_, rfl, cs, rfl, hl, hn, q⟩
theorem ok_is_image {f : Addr} {fd : FuncData} (F : Fun K "is_image" "is_image" s_is_image f fd) (T : Tx K mg CM CJ) (D_is_text : Df P w K mg base 2 "is_text" spIsText) : FnOk P w K mg base CX0 3 f fd ["value"] spIsImage := by
  refine F.ok sc_is_image (fun vs H Q E h => ?_) (fun cdv A outer s H vs Q E hr h => ?_)
  · obtain ⟨cs, rfl, _⟩ := h
    rfl
  · obtain ⟨cs, rfl, ⟨g1, g4, gl⟩, q⟩ := h
    refine ⟨_, (pss_one (ps_ret (pe_and (pe_c D_is_text hr (by decide) (by rfl) (pa_cons (pv 0) pa_nil)) (pe_one (pe_chain op_le op_le pe_int (pe_callB call_len_str (by rfl) T.len (by decide +kernel) (pa_cons (pv 0) pa_nil)) (pe_gv T.gLONGEST_TOLD (by rfl))))))), ?_⟩
    have hz : (Sx cs).length ≤ sizeLine := by rw [Sx_len, sizeLine_eq]; omega
    refine ⟨_, rfl, cs, rfl, gl, by omega, true, rfl, ?_⟩
    refine ⟨_, rfl, _, rfl, hz, _, _, rfl, rfl, true, ?_, ?_⟩
    · rw [Sx_len]
      exact dec_t (show (1 : Int) ≤ (cs.length : Int) by omega)
    · refine ⟨_, _, rfl, rfl, ?_⟩
      rw [Sx_len]
      have e := dec_t (show (cs.length : Int) ≤ 4 by omega)
      show Q (V.bl (decide ((cs.length : Int) ≤ 4))) H
      rw [e]
      exact q
/-- the letters that stay, as a table -/
def keepT (st : List Nat) : Tab := mergeT [] (st.map fun c => (c, [c]))
theorem keepT_good {cs st : List Nat} (hs : ∀ c ∈ st, c ∈ cs) (hl : ∀ c ∈ cs, isLt c) : GoodT cs (keepT st) := GoodT.merge GoodT.nil fun q hq => by
  obtain ⟨c, hc, rfl⟩ := List.mem_map.mp hq
  exact ⟨hs c hc, goodI1 (hs c hc)⟩
def toldT (st : List Nat) (t : Tab) : Tab := mergeT (mergeT [] (keepT st)) t
theorem toldT_good {cs st : List Nat} {t : Tab} (hs : ∀ c ∈ st, c ∈ cs) (hl : ∀ c ∈ cs, isLt c) (g : GoodT cs t) : GoodT cs (toldT st t) := by
  have g1 := keepT_good hs hl
  exact GoodT.merge (GoodT.merge GoodT.nil fun q hq => ⟨g1.key q hq, g1.img q hq⟩) fun q hq => ⟨g.key q hq, g.img q hq⟩
def spTold : Sp := fun vs H Q _ => ∃ (d : Addr) (cs st : List Nat) (t : Tab), vs = [.ref d, .str (Sx st)] ∧ H d = some (.dK (encT t)) ∧ GoodT cs t ∧ cs.length ≤ 26 ∧ (∀ c ∈ cs, isLt c) ∧ (∀ c ∈ st, c ∈ cs) ∧ st.length ≤ 500 ∧
  ∀ (r : Addr) (H' : Hp), Same H H' → H r = none → H' r = some (.dK (encT (toldT st t))) → Q (.ref r) H'
theorem Same.upd_back {H : Hp} {d : Addr} {o u : HO} (h : H d = some u) : upd (upd H d o) d u = H := by
  rw [upd_upd]
  funext b
  by_cases hb : b = d
  · rw [hb, upd_same, h]
  · rw [upd_ne hb]
theorem sx_at {st : List Nat} {i : Nat} {c : Nat} (h : (Sx st).cps[i]? = some c) : st[i]? = some c := by
  have : (Sx st).cps = st.toArray := rfl
  rw [this] at h
  simpa using h
theorem sx_size (st : List Nat) : (Sx st).cps.size = st.length := by
  show st.toArray.size = _
  simp
theorem look_in : ∀ {t : Tab} {c : Nat} {s : List Nat}, lookT t c = some s → (c, s) ∈ t := by
  intro t c s h
  unfold lookT at h
  cases e : t.find? (fun q => decide (q.1 = c)) with
  | none =>
    rw [e] at h
    cases h
  | some q =>
    rw [e] at h
    have h1 := List.find?_some e
    have h2 := List.mem_of_find?_eq_some e
    have h3 : q.1 = c := by simpa using h1
    have h4 : q.2 = s := by simpa using h
    rw [← h3, ← h4]
    exact h2
theorem keep_take {cs st : List Nat} (hs : ∀ c ∈ st, c ∈ cs) (hl : ∀ c ∈ cs, isLt c) (i : Nat) : GoodT cs (mergeT [] ((st.take i).map fun c => (c, [c]))) := keepT_good (st := st.take i) (fun c hc => hs c (List.mem_of_mem_take hc)) hl
theorem keep_succ {st : List Nat} {i c : Nat} (h : st[i]? = some c) : mergeT [] ((st.take (i + 1)).map fun c => (c, [c])) = putT (mergeT [] ((st.take i).map fun c => (c, [c]))) c [c] := by
  rw [List.take_add_one, h, List.map_append]
  unfold mergeT
  rw [List.foldl_append]
  rfl
theorem ok_told_images {f : Addr} {fd : FuncData} (F : Fun K "told_images" "told_images" s_told_images f fd) (T : Tx K mg CM CJ) (D_is_letter : Df P w K mg base 1 "is_letter" (spIsLetter K)) (D_is_text : Df P w K mg base 2 "is_text" spIsText)
    (D_is_image : Df P w K mg base 3 "is_image" spIsImage) : FnOk P w K mg base CX0 4 f fd ["images", "keeps"] spTold := by
  refine F.ok sc_told_images (fun vs H Q E h => ?_) (fun cdv A outer s H vs Q E hr h => ?_)
  · obtain ⟨d, cs, st, t, rfl, _⟩ := h
    rfl
  · obtain ⟨d, cs, st, t, rfl, hd, G, h26, hlt, hst, hs5, q⟩ := h
    refine ⟨_, (pss_cons (ps_if (pt_not (pt_val (pe_callB call_isi (by rfl) T.isinstance (by decide +kernel) (pa_cons (pv 0) (pa_cons (pe_bltn (v := .ty "dict") (by rfl) T.dict (by decide +kernel) rfl) pa_nil)))))
        (pss_one ps_never)
        pss_nil)
      (pss_cons (ps_lock (ps_for PassesOwn.never rfl (pi_keys (pv 0)) (pg_name (i := 2) sc_told_images.nd rfl (.inl rfl))
        (pss_one (ps_if (pt_not (pt_val (pe_c D_is_letter hr (by decide) (by rfl) (pa_cons (pv 2) pa_nil))))
          (pss_one ps_never)
          pss_nil))))
      (pss_cons (ps_for PassesOwn.never rfl (pi_str (pe_gv T.gLETTERS (by rfl))) (pg_name (i := 3) sc_told_images.nd rfl (.inl rfl))
        (pss_one (ps_if (PW.pt (pw_and (pt_cmp (pc_din (hu_of hr) (pv 3) (pv 0))) (pw_and1 (pt_not (pt_val (pe_c D_is_image hr (by decide) (by rfl) (pa_cons (pe_dget (hu_of hr) (pv 0) (pv 3) (fun _ _ => rfl)) pa_nil)))))))
          (pss_one ps_never)
          pss_nil)))
      (pss_cons (ps_if (pt_not (pt_val (pe_c D_is_text hr (by decide) (by rfl) (pa_cons (pv 1) pa_nil))))
        (pss_one ps_never)
        pss_nil)
      (pss_cons (ps_setDc (j := 4) (own := [("letter", 3)]) (g := gName 3) (by rfl) sc_told_images.nd rfl rfl (sw_trueD rfl rfl rfl (by decide +kernel)) (pi_str (pv 1)) (blkOk_by (own := [("letter", 3)]) (N := n_told_images) (sc := defScope s_told_images) (by decide +kernel)) (fun _ _ _ _ _ => (pg_name (i := 3) sc_told_images.nd rfl (.inl rfl))) (fun _ _ _ _ _ => pts_nil) (fun _ _ _ _ _ => (pv 3)) (fun _ _ _ _ _ => (pv 3)))
      (pss_one (ps_ret (pe_merge2 (pv 4) (pv 0))))))))), ?_⟩
    have tl := G.len
    -- isinstance(images, dict)
    refine ⟨_, rfl, _, .ty "dict", .type "dict", .type "dict", true, rfl, .ty _, .base (.dK hd), kit_ty (by decide +kernel), true, rfl, ?_⟩
    refine iteF ?_
    -- for key in images
    refine ⟨d, _, hd, True.intro, fun od => ⟨_, rfl, d, od, rfl, .inl ⟨_, upd_same, for_it walk_keys (fun i σ H2 => ∃ v2, σ = [some (.ref d), some (.str (Sx st)), v2, none, none] ∧ H2 = upd H d (.frz od (.dK (encT t)))) ⟨none, rfl, rfl⟩ ?_ ?_ ?_⟩⟩⟩
    · rintro i σ H2 hi ⟨v2, rfl, rfl⟩
      exact upd_same
    · rintro i x σ H2 H2' hi ⟨v2, rfl, rfl⟩ ⟨rfl, k, v, hk, rfl⟩
      obtain ⟨hit, rfl, rfl⟩ := enc_at hk
      have hc : t[i].1 ∈ abc := abc_mem.mpr (hlt _ (G.key _ (List.getElem_mem hit)))
      refine ⟨_, rfl, _, rfl, .inl ⟨t[i].1, rfl, ?_⟩⟩
      rw [decide_eq_true hc]
      exact ⟨true, rfl, iteF ⟨_, rfl, rfl⟩⟩
    · rintro σ H2 ⟨v2, rfl, rfl⟩
      refine ⟨upd_same, ?_⟩
      rw [Same.upd_back hd]
      -- for letter in LETTERS
      refine ⟨abcS, rfl, for_it walk_str (fun i σ H2 => ∃ v3, σ = [some (.ref d), some (.str (Sx st)), v2, v3, none] ∧ H = H2) ⟨none, rfl, rfl⟩ ?_ ?_ ?_⟩
      · rintro i σ H2 hi _
        trivial
      · rintro i x σ H2 H2' hi ⟨v3, rfl, rfl⟩ ⟨rfl, c, hc, rfl⟩
        refine ⟨_, rfl, _, rfl, d, _, rfl, DGet.k (k := Sum.inr (L1 c)) hd, _, rfl, ?_⟩
        rw [valV_enc]
        cases e : lookT t c with
        | none =>
          refine iteF ?_
          exact ⟨_, rfl, rfl⟩
        | some s =>
          refine iteT ?_
          refine ⟨_, rfl, _, rfl, d, V.str (Sx s), rfl, .inl ⟨_, Sum.inr (L1 c), .inl hd, rfl, by rw [valV_enc, e]; rfl⟩, s, rfl, ⟨(G.img _ (look_in e)).1, (G.img _ (look_in e)).2.1, fun z hz => hlt z ((G.img _ (look_in e)).2.2 z hz)⟩, true, rfl, ?_⟩
          exact ⟨_, rfl, rfl⟩
      · rintro σ H2 ⟨v3, rfl, rfl⟩
        -- is_text(keeps)
        refine ⟨_, rfl, st, rfl, fun c hc => hlt c (hst c hc), by omega, true, rfl, iteF ?_⟩
        -- kept
        refine ⟨_, rfl, Sx st, rfl, fun D nD => dc_it walk_str (fun i H3 => H3 = upd H D (.dK (encT (mergeT [] ((st.take i).map fun c => (c, [c])))))) ?_ ?_ ?_ ?_⟩
        · rfl
        · rintro i H3 hi _
          trivial
        · rintro i x H3 H3' hi rfl ⟨rfl, c, hc, rfl⟩
          have hc' := sx_at hc
          rw [sx_size] at hi
          have gk := keep_take (cs := cs) hst hlt i
          refine ⟨rfl, _, rfl, _, rfl, _, Sum.inr (L1 c), rfl, upd_same, by rw [encT_len]; have := gk.len; exact small1000 (by omega), ?_⟩
          rw [upd_upd]
          have ep : putK (encT (mergeT [] ((st.take i).map fun c => (c, [c])))) (Sum.inr (L1 c)) (V.str ⟨#[c]⟩) = encT (mergeT [] ((st.take (i + 1)).map fun c => (c, [c]))) := by
            rw [keep_succ hc']
            exact putK_enc _ c [c]
          rw [ep]
        · rintro H3 rfl
          rw [sx_size, List.take_length]
          have gk := keepT_good hst hlt
          have lk := gk.len
          have hdD : d ≠ D := ne_of_none hd nD
          -- {**kept, **images}
          have em : mergeK [] (encT (keepT st)) = encT (mergeT [] (keepT st)) := mergeK_enc (keepT st) []
          have gm : GoodT cs (mergeT [] (keepT st)) := GoodT.merge GoodT.nil fun x hx => ⟨gk.key x hx, gk.img x hx⟩
          have lm := gm.len
          refine fun r nr => ?_
          have hDr : D ≠ r := ne_of_none (H := upd H D (.dK (encT (keepT st)))) upd_same nr
          have hdr : d ≠ r := by
            refine ne_of_none (H := upd H D (.dK (encT (keepT st)))) (o := .dK (encT t)) ?_ nr
            rw [upd_ne hdD]
            exact hd
          refine ⟨_, rfl, D, encT (keepT st), rfl, hDr, upd_same, .inl ?_, by rw [encT_len]; omega, ?_⟩
          · rw [upd_ne hDr, upd_same]
            rfl
          · rw [em]
            refine ⟨_, rfl, d, encT (mergeT [] (keepT st)), encT t, rfl, hdr, upd_same, by rw [encT_len]; omega, .inl ?_, by rw [encT_len]; omega, ?_⟩
            · rw [upd_ne hdr, upd_ne hdr, upd_ne hdD]
              exact hd
            · rw [mergeK_enc]
              have s1 : Same H (upd H D (.dK (encT (keepT st)))) := fun b o e => by
                rw [upd_ne (ne_of_none e nD)]
                exact e
              have nrH : H r = none := s1.free nr
              refine q r _ (fun b o e => ?_) nrH upd_same
              have hb := ne_of_none e nrH
              rw [upd_ne hb, upd_ne hb, upd_ne hb]
              exact s1 b o e
end
end V8
set_option Elab.async false
set_option linter.all false
set_option maxRecDepth 100000
set_option maxHeartbeats 8000000
/-! The class Misreading, as far as the law asks it. -/
namespace V8
open PySem PySem.Spec PyProof.Rows L2
abbrev s_Misreading_init : Stmt := inClass (topS 34) 0
abbrev n_Misreading_init : List Str := ["self", "images", "keeps", "told", "letter"]
theorem sc_Misreading_init : FnScope ["self", "images", "keeps", "told", "letter"] ["self", "images", "keeps"] (defScope s_Misreading_init) := ⟨rfl, rfl, rfl, by decide +kernel, rfl, by decide +kernel, by decide +kernel⟩
abbrev s_Misreading_iter : Stmt := inClass (topS 34) 3
theorem sc_Misreading_iter : FnScope ["self"] ["self"] (defScope s_Misreading_iter) := ⟨rfl, rfl, rfl, by decide +kernel, rfl, by decide +kernel, by decide +kernel⟩
abbrev s_Misreading_getitem : Stmt := inClass (topS 34) 4
theorem sc_Misreading_getitem : FnScope ["self", "at"] ["self", "at"] (defScope s_Misreading_getitem) := ⟨rfl, rfl, rfl, by decide +kernel, rfl, by decide +kernel, by decide +kernel⟩
abbrev s_Misreading_same : Stmt := inClass (topS 34) 15
theorem sc_Misreading_same : FnScope ["letters"] ["letters"] (defScope s_Misreading_same) := ⟨rfl, rfl, rfl, by decide +kernel, rfl, by decide +kernel, by decide +kernel⟩
abbrev s_Misreading_str : Stmt := inClass (topS 34) 16
abbrev n_Misreading_str : List Str := ["self", "letter"]
theorem sc_Misreading_str : FnScope ["self", "letter"] ["self"] (defScope s_Misreading_str) := ⟨rfl, rfl, rfl, by decide +kernel, rfl, by decide +kernel, by decide +kernel⟩
def keysOf (u : Tab) : List Nat := abc.filter fun c => (lookT u c).isSome
def ims (u : Tab) : Tab := (keysOf u).map fun c => (c, (lookT u c).getD [])
def chg (u : Tab) : List Nat := (keysOf u).filter fun c => decide (lookT u c ≠ some [c])
theorem kLI : ¬ (("_letters" : Str) = "_images") := by decide +kernel
theorem kLC : ¬ (("_letters" : Str) = "changed") := by decide +kernel
theorem kIC : ¬ (("_images" : Str) = "changed") := by decide +kernel
def f1 (a : Addr) : List (Str × V) := putF "_letters" (.ref a) []
def f2 (a b : Addr) : List (Str × V) := putF "_images" (.ref b) (f1 a)
def f3 (a b c : Addr) : List (Str × V) := putF "changed" (.ref c) (f2 a b)
theorem f1_L (a : Addr) : (f1 a).lookup ("_letters" : Str) = some (.ref a) := by
  unfold f1
  rw [lookup_putF, if_pos rfl]
theorem f2_L (a b : Addr) : (f2 a b).lookup ("_letters" : Str) = some (.ref a) := by
  unfold f2
  rw [lookup_putF, if_neg kLI]
  exact f1_L a
theorem f3_L (a b c : Addr) : (f3 a b c).lookup ("_letters" : Str) = some (.ref a) := by
  unfold f3
  rw [lookup_putF, if_neg kLC]
  exact f2_L a b
theorem f3_I (a b c : Addr) : (f3 a b c).lookup ("_images" : Str) = some (.ref b) := by
  unfold f3 f2
  rw [lookup_putF, if_neg kIC, lookup_putF, if_pos rfl]
theorem f3_C (a b c : Addr) : (f3 a b c).lookup ("changed" : Str) = some (.ref c) := by
  unfold f3
  rw [lookup_putF, if_pos rfl]
theorem f1_len (a : Addr) : (f1 a).length < 1000 := by
  show 1 < 1000
  decide
theorem f2_len (a b : Addr) : (f2 a b).length < 1000 := by
  have e : f2 a b = [(("_letters" : Str), V.ref a), ("_images", V.ref b)] := by
    show (if ("_letters" : Str) = "_images" then [(("_letters" : Str), V.ref b)] else (("_letters" : Str), V.ref a) :: [(("_images" : Str), V.ref b)]) = _
    rw [if_neg kLI]
  rw [e]
  show 2 < 1000
  decide
/-- a Misreading stands at x: its images are those of the table u, letters ascending -/
structure MisAt (C : Addr) (H : Hp) (x : Addr) (u : Tab) : Prop where
  at_ : ∃ dx a b c, H x = some (.ins C dx (f3 a b c)) ∧ H a = some (.tup (lets (keysOf u))) ∧ H b = some (.dK (encT (ims u))) ∧ H c = some (.tup (lets (chg u)))
theorem MisAt.mono {C : Addr} {H H' : Hp} {x : Addr} {u : Tab} (m : MisAt C H x u) (k : ∀ b o, H b = some o → (∀ xs, o ≠ .lst xs) → H' b = some o) : MisAt C H' x u := by
  obtain ⟨dx, a, b, c, h1, h2, h3, h4⟩ := m.at_
  exact ⟨dx, a, b, c, k _ _ h1 (fun _ z => nomatch z), k _ _ h2 (fun _ z => nomatch z), k _ _ h3 (fun _ z => nomatch z), k _ _ h4 (fun _ z => nomatch z)⟩
/-- .. made of what is new behind H0 -/
structure MisN (C : Addr) (H0 H : Hp) (x : Addr) (u : Tab) : Prop where
  at_ : ∃ dx a b c, H x = some (.ins C dx (f3 a b c)) ∧ H a = some (.tup (lets (keysOf u))) ∧ H b = some (.dK (encT (ims u))) ∧ H c = some (.tup (lets (chg u))) ∧ H0 a = none ∧ H0 b = none ∧ H0 c = none
theorem MisN.mis {C : Addr} {H0 H : Hp} {x : Addr} {u : Tab} (m : MisN C H0 H x u) : MisAt C H x u := by
  obtain ⟨dx, a, b, c, h1, h2, h3, h4, _⟩ := m.at_
  exact ⟨dx, a, b, c, h1, h2, h3, h4⟩
theorem keysOf_sub (u : Tab) : ∀ c ∈ keysOf u, isLt c := fun c h => abc_mem.mp (List.mem_filter.mp h).1
theorem keysOf_len (u : Tab) : (keysOf u).length ≤ 26 := by
  have := List.length_filter_le (fun c => (lookT u c).isSome) abc
  rw [abc_len] at this
  exact this
theorem keysOf_nd (u : Tab) : (keysOf u).Nodup := abc_nd.filter _
def spInit (CM : Addr) : Sp := fun vs H Q _ => ∃ (x dx d : Addr) (cs st : List Nat) (t : Tab), vs = [.ref x, .ref d, .str (Sx st)] ∧ H x = some (.ins CM dx []) ∧ H d = some (.dK (encT t)) ∧ GoodT cs t ∧ ((toldT st t).length ≤ 12 ∧ cs.length ≤ 26) ∧ (∀ c ∈ cs, isLt c) ∧ (∀ c ∈ st, c ∈ cs) ∧ st.length ≤ 500 ∧
  ∀ H', MisN CM H H' x (toldT st t) → (∀ b o, H b = some o → b ≠ x → H' b = some o) → Q .non H'
section
variable {P : Program} {w : World} {K : PySem.W.Frag} {mg : Str → Option Value} {base : Heap} {CM CJ : Addr}
theorem some_put (u : Tab) (i : Nat) (c : Nat) (h : abc[i]? = some c) : (abc.take (i + 1)).filter (fun c => (lookT u c).isSome) = (abc.take i).filter (fun c => (lookT u c).isSome) ++ (if (lookT u c).isSome = true then [c] else []) := by
  rw [List.take_add_one, h, List.filter_append]
  congr 1
  show List.filter _ [c] = _
  by_cases e : (lookT u c).isSome = true
  · rw [if_pos e]
    exact List.filter_eq_self.mpr (fun x hx => by rw [List.mem_singleton.mp hx]; exact e)
  · rw [if_neg e]
    simp [e]
theorem ims_succ {ks : List Nat} {u : Tab} {i : Nat} {s : List Nat} (nd : ks.Nodup) (hi : i < ks.length) (e : (lookT u ks[i]).getD [] = s) : putT ((ks.take i).map fun c => (c, (lookT u c).getD [])) ks[i] s = (ks.take (i + 1)).map fun c => (c, (lookT u c).getD []) := by
  have hn : ¬ (((ks.take i).map fun c => (c, (lookT u c).getD [])).any fun q => decide (q.1 = ks[i])) = true := by
    intro h
    obtain ⟨q, hq, e1⟩ := List.any_eq_true.mp h
    obtain ⟨c, hc, rfl⟩ := List.mem_map.mp hq
    have e2 : c = ks[i] := by simpa using e1
    obtain ⟨j, hj, ej⟩ := List.getElem_of_mem hc
    rw [List.length_take] at hj
    rw [List.getElem_take] at ej
    have : j = i := (List.getElem_inj nd).mp (ej.trans e2)
    omega
  unfold putT
  rw [if_neg hn, List.take_add_one, List.getElem?_eq_getElem hi, List.map_append]
  show _ = _ ++ [(ks[i], (lookT u ks[i]).getD [])]
  rw [e]
theorem chg_succ {u : Tab} {i : Nat} {ks : List Nat} (hi : i < ks.length) : (ks.take (i + 1)).filter (fun c => decide (lookT u c ≠ some [c])) = (ks.take i).filter (fun c => decide (lookT u c ≠ some [c])) ++ (if decide (lookT u ks[i] ≠ some [ks[i]]) = true then [ks[i]] else []) := by
  rw [List.take_add_one, List.getElem?_eq_getElem hi, List.filter_append]
  congr 1
  show List.filter _ [ks[i]] = _
  rw [List.filter_cons]
  rfl
theorem ok_init {f : Addr} {fd : FuncData} {dvs : List V} (F : FunD K "__init__" "Misreading.__init__" (defArgs s_Misreading_init) (defBody s_Misreading_init) (defScope s_Misreading_init) dvs [] f fd) (T : Tx K mg CM CJ) (D_told_images : Df P w K mg base 4 "told_images" spTold) : FnOk P w K mg base CX0 5 f fd ["self", "images", "keeps"] (spInit CM) := by
  refine F.ok sc_Misreading_init (fun vs H Q E h => ?_) (fun cdv A outer s H vs Q E hr h => ?_)
  · obtain ⟨x, dx, d, cs, st, t, rfl, _⟩ := h
    rfl
  · obtain ⟨x, dx, d, cs, st, t, rfl, hx, hd, G, ⟨h12, h26⟩, hlt, hst, hs5, q⟩ := h
    refine ⟨_, (pss_cons (ps_set (i := 3) sc_Misreading_init.nd rfl (.inr rfl) (pe_ifExp (pt_val (pe_callB call_isi (by rfl) T.isinstance (by decide +kernel) (pa_cons (pv 1) (pa_cons (pe_gv T.gJoined (by rfl)) pa_nil)))) (pe_fldK (K := K) rfl (pv 1) rfl) (pe_c D_told_images hr (by decide) (by rfl) (pa_cons (pv 1) (pa_cons (pv 2) pa_nil)))))
      (pss_cons (ps_if (pt_cmpR op_gt (pe_callB call_lenD (by rfl) T.len (by decide +kernel) (pa_cons (pv 3) pa_nil)) (pe_gv T.gMOST_LETTERS (by rfl)) (nomark _))
        (pss_one ps_never)
        pss_nil)
      (pss_cons (ps_fld (pv 0) (pe_callTy (call_tuple_ofK (K := K) rfl) (by rfl) T.tuple (by decide +kernel) (pa_cons (pe_lc (own := [("letter", 4)]) (g := gName 4) (by rfl) sc_Misreading_init.nd (pi_str (pe_gv T.gLETTERS (by rfl))) (blkOk_by (own := [("letter", 4)]) (N := n_Misreading_init) (sc := defScope s_Misreading_init) (by decide +kernel)) (fun _ _ _ _ _ => (pg_name (i := 4) sc_Misreading_init.nd rfl (.inl rfl))) (fun _ _ _ _ _ => (pts_one (pt_cmp (pc_din (hu_of hr) (pv 4) (pv 3))))) (fun _ _ _ _ _ => (pv 4))) pa_nil)) rfl)
      (pss_cons (ps_fld (pv 0) (pe_dc (own := [("letter", 4)]) (g := gName 4) (by rfl) sc_Misreading_init.nd (pi_tup (pe_fldK (K := K) rfl (pv 0) rfl)) (blkOk_by (own := [("letter", 4)]) (N := n_Misreading_init) (sc := defScope s_Misreading_init) (by decide +kernel)) (fun _ _ _ _ _ => (pg_name (i := 4) sc_Misreading_init.nd rfl (.inl rfl))) (fun _ _ _ _ _ => pts_nil) (fun _ _ _ _ _ => (pv 4)) (fun _ _ _ _ _ => (pe_dget (hu_of hr) (pv 3) (pv 4) (fun _ _ => rfl)))) rfl)
      (pss_one (ps_fld (pv 0) (pe_callTy (call_tuple_ofK (K := K) rfl) (by rfl) T.tuple (by decide +kernel) (pa_cons (pe_lc (own := [("letter", 4)]) (g := gName 4) (by rfl) sc_Misreading_init.nd (pi_tup (pe_fldK (K := K) rfl (pv 0) rfl)) (blkOk_by (own := [("letter", 4)]) (N := n_Misreading_init) (sc := defScope s_Misreading_init) (by decide +kernel)) (fun _ _ _ _ _ => (pg_name (i := 4) sc_Misreading_init.nd rfl (.inl rfl))) (fun _ _ _ _ _ => (pts_one (pt_cmpR op_ne (pe_dget (hu_of hr) (pv 3) (pv 4) (fun _ _ => rfl)) (pv 4) (nomark _)))) (fun _ _ _ _ _ => (pv 4))) pa_nil)) rfl)))))), ?_⟩
    have gu := toldT_good hst hlt G
    have lu := h12
    -- told
    refine ⟨_, rfl, _, .ref CJ, .type "dict", .ref CJ, false, rfl, .own _, .base (.dK hd), T.dJ, false, rfl, ?_⟩
    refine iteF ?_
    refine ⟨_, rfl, _, rfl, d, cs, st, t, rfl, hd, G, by omega, hlt, hst, hs5, fun r H1 sm nr hr1 => ?_⟩
    generalize toldT st t = u at gu lu q hr1 ⊢
    have hx1 := sm _ _ hx
    -- len(told) > 12
    refine ⟨_, rfl, r, _, rfl, hr1, _, _, rfl, rfl, _, rfl, ?_⟩
    rw [encT_len, decide_eq_false (by show ¬ ((12 : Int) < (u.length : Int)); omega)]
    refine iteF ?_
    have hx0 : ∀ b o, H b = some o → b ≠ x → H1 b = some o := fun b o e _ => sm b o e
    -- self._letters
    refine ⟨abcS, rfl, fun D nD => lc_it walk_str (fun i H2 => H2 = upd H1 D (.lst (lets ((abc.take i).filter fun c => (lookT u c).isSome)))) rfl (fun _ _ _ _ => trivial) ?_ ?_⟩
    · rintro i z H2 H2' hi rfl ⟨rfl, c, hc, rfl⟩
      have hc' : abc[i]? = some c := by
        rw [← abcS_cps]
        simpa using hc
      have hrD : r ≠ D := ne_of_none hr1 nD
      refine ⟨rfl, _, rfl, _, rfl, r, _, rfl, DGet.k (k := Sum.inr (L1 c)) (by rw [upd_ne hrD]; exact hr1), _, rfl, ?_⟩
      rw [valV_enc]
      have hs := some_put u i c hc'
      by_cases e : (lookT u c).isSome = true
      · have e2 : (Option.map (fun s => V.str (Sx s)) (lookT u c)).isSome = true := by rw [Option.isSome_map]; exact e
        rw [e2]
        refine iteT ?_
        rw [if_pos e] at hs
        refine ⟨_, rfl, lets ((abc.take i).filter fun c => (lookT u c).isSome), upd_same, ?_, ?_⟩
        · rw [lets_len]
          have h1 := List.length_filter_le (fun c => (lookT u c).isSome) (abc.take i)
          have h2 : (abc.take i).length ≤ 26 := by rw [List.length_take, abc_len]; omega
          exact small1000 (by omega)
        · rw [upd_upd, hs, lets_snoc]
          rfl
      · have e2 : (Option.map (fun s => V.str (Sx s)) (lookT u c)).isSome = false := by
          rw [Option.isSome_map]
          exact Bool.eq_false_iff.mpr e
        rw [e2]
        refine iteF ?_
        rw [if_neg e, List.append_nil] at hs
        rw [hs]
    · rintro H2 rfl
      have hsz : abcS.cps.size = 26 := by decide +kernel
      rw [hsz]
      have ek : (abc.take 26).filter (fun c => (lookT u c).isSome) = keysOf u := by
        rw [List.take_of_length_le (by rw [abc_len]; exact Nat.le_refl _)]
        rfl
      rw [ek]
      refine ⟨D, _, rfl, .inl ⟨SqL.of upd_same, fun a na => ?_⟩⟩
      have hxD : x ≠ D := ne_of_none hx1 nD
      have hxa : x ≠ a := ne_of_none (H := upd H1 D (.lst (lets (keysOf u)))) (o := .ins CM dx []) (by rw [upd_ne hxD]; exact hx1) na
      have hrD : r ≠ D := ne_of_none hr1 nD
      have hra : r ≠ a := ne_of_none (H := upd H1 D (.lst (lets (keysOf u)))) (o := .dK (encT u)) (by rw [upd_ne hrD]; exact hr1) na
      have hrx : r ≠ x := ne_of hr1 hx1 (fun z => nomatch z)
      refine ⟨_, rfl, x, CM, dx, [], rfl, by rw [upd_ne hxa, upd_ne hxD]; exact hx1, T.cl, T.nL, by show 0 < 1000; decide, ?_⟩
      have fr3 : ∀ b o, H b = some o → b ≠ x → upd (upd (upd H1 D (.lst (lets (keysOf u)))) a (.tup (lets (keysOf u)))) x (.ins CM dx (f1 a)) b = some o := fun b o e hb => by
        have e1 := sm b o e
        have hbD := ne_of_none e1 nD
        rw [upd_ne hb, upd_ne (ne_of_none (H := upd H1 D (.lst (lets (keysOf u)))) (o := o) (by rw [upd_ne hbD]; exact e1) na), upd_ne hbD]
        exact e1
      have hx3 : upd (upd (upd H1 D (.lst (lets (keysOf u)))) a (.tup (lets (keysOf u)))) x (.ins CM dx (f1 a)) x = some (.ins CM dx (f1 a)) := upd_same
      have ha3 : upd (upd (upd H1 D (.lst (lets (keysOf u)))) a (.tup (lets (keysOf u)))) x (.ins CM dx (f1 a)) a = some (.tup (lets (keysOf u))) := by rw [upd_ne (Ne.symm hxa), upd_same]
      have hr3 : upd (upd (upd H1 D (.lst (lets (keysOf u)))) a (.tup (lets (keysOf u)))) x (.ins CM dx (f1 a)) r = some (.dK (encT u)) := by rw [upd_ne hrx, upd_ne hra, upd_ne hrD]; exact hr1
      show tSeq _ _ _ _ (upd (upd (upd H1 D (.lst (lets (keysOf u)))) a (.tup (lets (keysOf u)))) x (.ins CM dx (f1 a)))
      generalize upd (upd (upd H1 D (.lst (lets (keysOf u)))) a (.tup (lets (keysOf u)))) x (.ins CM dx (f1 a)) = H3 at fr3 hx3 ha3 hr3 ⊢
      have naH : H a = none := by
        cases e : H a with
        | none => rfl
        | some o =>
          have e1 := sm _ _ e
          have e2 : upd H1 D (.lst (lets (keysOf u))) a = some o := by rw [upd_ne (ne_of_none e1 nD)]; exact e1
          rw [e2] at na
          cases na
      clear na nD hxD hxa hrD hra
      -- self._images
      refine ⟨_, rfl, x, CM, dx, _, _, rfl, hx3, T.cl, T.nL, f1_L a, a, rfl, ⟨_, .inl (.inl ha3)⟩, fun D2 nD2 => dc_it (walk_tup (K := K) (a := a) (xs := lets (keysOf u))) (fun i H4 => H4 = upd H3 D2 (.dK (encT (((keysOf u).take i).map fun c => (c, (lookT u c).getD []))))) rfl ?_ ?_ ?_⟩
      · rintro i H4 hi rfl
        exact .inl (.inl (by rw [upd_ne (ne_of_none ha3 nD2)]; exact ha3))
      · rintro i z H4 H4' hi rfl ⟨rfl, hz⟩
        obtain ⟨hik, rfl⟩ := lets_get hz
        obtain ⟨s, es⟩ := Option.isSome_iff_exists.mp (List.mem_filter.mp (List.getElem_mem hik)).2
        refine ⟨rfl, _, rfl, _, rfl, _, rfl, r, V.str (Sx s), rfl, .inl ⟨_, Sum.inr (L1 (keysOf u)[i]), .inl (by rw [upd_ne (ne_of_none hr3 nD2)]; exact hr3), rfl, by rw [valV_enc, es]; rfl⟩, _, Sum.inr (L1 (keysOf u)[i]), rfl, upd_same, ?_, ?_⟩
        · rw [encT_len, List.length_map, List.length_take]
          have := keysOf_len u
          exact small1000 (by omega)
        · rw [upd_upd, putK_enc]
          congr 3
          exact ims_succ (keysOf_nd u) hik (by rw [es]; rfl)
      · rintro H4 rfl
        rw [lets_len, List.take_length]
        have hxD2 : x ≠ D2 := ne_of_none hx3 nD2
        have haD2 : a ≠ D2 := ne_of_none ha3 nD2
        have hrD2 : r ≠ D2 := ne_of_none hr3 nD2
        refine ⟨_, rfl, x, CM, dx, f1 a, rfl, by rw [upd_ne hxD2]; exact hx3, T.cl, T.nI, f1_len a, ?_⟩
        have hax : a ≠ x := ne_of ha3 hx3 (fun z => nomatch z)
        have nbH : H D2 = none := by
          cases e : H D2 with
          | none => rfl
          | some o =>
            have e1 := fr3 _ _ e (Ne.symm hxD2)
            rw [e1] at nD2
            cases nD2
        have fr5 : ∀ b o, H b = some o → b ≠ x → upd (upd H3 D2 (.dK (encT (ims u)))) x (.ins CM dx (f2 a D2)) b = some o := fun b o e hb => by
          have e1 := fr3 b o e hb
          rw [upd_ne hb, upd_ne (ne_of_none e1 nD2)]
          exact e1
        have hx5 : upd (upd H3 D2 (.dK (encT (ims u)))) x (.ins CM dx (f2 a D2)) x = some (.ins CM dx (f2 a D2)) := upd_same
        have ha5 : upd (upd H3 D2 (.dK (encT (ims u)))) x (.ins CM dx (f2 a D2)) a = some (.tup (lets (keysOf u))) := by rw [upd_ne hax, upd_ne haD2]; exact ha3
        have hr5 : upd (upd H3 D2 (.dK (encT (ims u)))) x (.ins CM dx (f2 a D2)) r = some (.dK (encT u)) := by rw [upd_ne hrx, upd_ne hrD2]; exact hr3
        have hd5 : upd (upd H3 D2 (.dK (encT (ims u)))) x (.ins CM dx (f2 a D2)) D2 = some (.dK (encT (ims u))) := by rw [upd_ne (Ne.symm hxD2), upd_same]
        show Ends.nx _ _ (upd (upd H3 D2 (.dK (encT (ims u)))) x (.ins CM dx (f2 a D2)))
        generalize upd (upd H3 D2 (.dK (encT (ims u)))) x (.ins CM dx (f2 a D2)) = H5 at fr5 hx5 ha5 hr5 hd5 ⊢
        -- self.changed
        refine ⟨_, rfl, x, CM, dx, _, _, rfl, hx5, T.cl, T.nL, f2_L a D2, a, rfl, ⟨_, .inl (.inl ha5)⟩, fun D3 nD3 => lc_it (walk_tup (K := K) (a := a) (xs := lets (keysOf u))) (fun i H6 => H6 = upd H5 D3 (.lst (lets (((keysOf u).take i).filter fun c => decide (lookT u c ≠ some [c]))))) rfl ?_ ?_ ?_⟩
        · rintro i H6 hi rfl
          exact .inl (.inl (by rw [upd_ne (ne_of_none ha5 nD3)]; exact ha5))
        · rintro i z H6 H6' hi rfl ⟨rfl, hz⟩
          obtain ⟨hik, rfl⟩ := lets_get hz
          obtain ⟨s, es⟩ := Option.isSome_iff_exists.mp (List.mem_filter.mp (List.getElem_mem hik)).2
          refine ⟨rfl, _, rfl, _, rfl, r, V.str (Sx s), rfl, .inl ⟨_, Sum.inr (L1 (keysOf u)[i]), .inl (by rw [upd_ne (ne_of_none hr5 nD3)]; exact hr5), rfl, by rw [valV_enc, es]; rfl⟩, _, rfl, rfl, _, rfl, ?_⟩
          have hs := chg_succ (u := u) hik
          by_cases e : s = [(keysOf u)[i]]
          · have e1 : lookT u (keysOf u)[i] = some [(keysOf u)[i]] := by rw [es, e]
            rw [if_neg (by simp [e1]), List.append_nil] at hs
            rw [decide_eq_true (show V.str (Sx s) = V.str (L1 (keysOf u)[i]) by rw [e]; rfl)]
            refine iteF ?_
            rw [hs]
          · have e1 : ¬ lookT u (keysOf u)[i] = some [(keysOf u)[i]] := by
              rw [es]
              exact fun z => e (Option.some.inj z)
            rw [if_pos (by simpa using e1)] at hs
            rw [decide_eq_false (show ¬ V.str (Sx s) = V.str (L1 (keysOf u)[i]) from fun z => e (Sx_inj (V.str.inj z)))]
            refine iteT ?_
            refine ⟨_, rfl, _, upd_same, ?_, ?_⟩
            · rw [lets_len]
              have h1 := List.length_filter_le (fun c => decide (lookT u c ≠ some [c])) ((keysOf u).take i)
              have h2 := keysOf_len u
              have h3 : ((keysOf u).take i).length ≤ (keysOf u).length := by rw [List.length_take]; omega
              exact small1000 (by omega)
            · rw [upd_upd, hs, lets_snoc]
        · rintro H6 rfl
          rw [lets_len, List.take_length]
          refine ⟨D3, _, rfl, .inl ⟨SqL.of upd_same, fun c nc => ?_⟩⟩
          have hxD3 : x ≠ D3 := ne_of_none hx5 nD3
          have up : ∀ b o, H5 b = some o → upd (upd H5 D3 (.lst (lets (chg u)))) c (.tup (lets (chg u))) b = some o := fun b o e => by
            have hb := ne_of_none e nD3
            rw [upd_ne (ne_of_none (H := upd H5 D3 (.lst (lets (chg u)))) (o := o) (by rw [upd_ne hb]; exact e) nc), upd_ne hb]
            exact e
          have hxc : x ≠ c := ne_of_none (H := upd H5 D3 (.lst (lets (chg u)))) (o := .ins CM dx (f2 a D2)) (by rw [upd_ne hxD3]; exact hx5) nc
          refine ⟨_, rfl, x, CM, dx, f2 a D2, rfl, up _ _ hx5, T.cl, T.nC, f2_len a D2, ?_⟩
          have ncH : H c = none := by
            have nc' : upd H5 D3 (.lst (lets (chg u))) c = none := nc
            cases e : H c with
            | none => rfl
            | some o =>
              have e3 := fr5 _ _ e (Ne.symm hxc)
              have e2 : upd H5 D3 (.lst (lets (chg u))) c = some o := by
                rw [upd_ne (ne_of_none e3 nD3)]
                exact e3
              rw [e2] at nc'
              cases nc'
          have hD2x : D2 ≠ x := ne_of hd5 hx5 (fun z => nomatch z)
          refine q _ ⟨dx, a, D2, c, upd_same, ?_, ?_, ?_, naH, nbH, ncH⟩ fun b o e hb => ?_
          · rw [upd_ne hax]
            exact up _ _ ha5
          · rw [upd_ne hD2x]
            exact up _ _ hd5
          · rw [upd_ne (Ne.symm hxc)]
            exact upd_same
          · rw [upd_ne hb]
            exact up _ _ (fr5 b o e hb)
end
end V8
set_option Elab.async false
set_option linter.all false
set_option maxRecDepth 100000
set_option maxHeartbeats 8000000
/-! Misreading: in, len, iteration, [ ]. -/
namespace V8
open PySem PySem.Spec PyProof.Rows L2
theorem lookT_map (f : Nat → List Nat) (c : Nat) : ∀ ks : List Nat, lookT (ks.map fun c => (c, f c)) c = if c ∈ ks then some (f c) else none
  | [] => by rw [if_neg List.not_mem_nil]; rfl
  | k :: ks => by
    have ih := lookT_map f c ks
    unfold lookT at ih ⊢
    rw [List.map_cons, List.find?_cons]
    by_cases h : k = c
    · subst h
      simp
    · simp only [h, decide_false]
      have e : (c ∈ k :: ks) ↔ c ∈ ks := by
        simp [Ne.symm h]
      rw [ih]
      by_cases h2 : c ∈ ks
      · rw [if_pos h2, if_pos (e.mpr h2)]
      · rw [if_neg h2, if_neg (fun z => h2 (e.mp z))]
theorem look_ims (u : Tab) (c : Nat) : lookT (ims u) c = if c ∈ keysOf u then some ((lookT u c).getD []) else none := lookT_map _ c _
theorem keysOf_mem {u : Tab} {c : Nat} : c ∈ keysOf u ↔ c ∈ abc ∧ (lookT u c).isSome = true := List.mem_filter
theorem look_ims_some {u : Tab} {c : Nat} (h : c ∈ keysOf u) : lookT (ims u) c = lookT u c := by
  rw [look_ims, if_pos h]
  obtain ⟨s, e⟩ := Option.isSome_iff_exists.mp (keysOf_mem.mp h).2
  rw [e]
  rfl
structure Ty (K : PySem.W.Frag) (mg : Str → Option Value) (CM CJ : Addr) : Prop extends Tx K mg CM CJ where
  mM : PySem.W.kitOne K (.ref CM) (.ref CM) = some true
  MJ : PySem.W.kitOne K (.ref CM) (.ref CJ) = some false
  Ms : PySem.W.kitOne K (.ref CM) (.type "str") = some false
  ls : PySem.W.kitOne K (.type "list") (.type "str") = some false
def spGet (CM : Addr) : Sp := fun vs H Q _ => ∃ (x : Addr) (u : Tab) (c : Nat) (s : List Nat), vs = [.ref x, .str (L1 c)] ∧ MisAt CM H x u ∧ c ∈ keysOf u ∧ lookT u c = some s ∧ Q (.str (Sx s)) H
def snIter (CM : Addr) : Nat → Sp := fun n vs H Q _ => ∃ (x : Addr) (u : Tab), vs = [.ref x] ∧ MisAt CM H x u ∧ ∀ it a, H it = none → n ≤ it → H a = some (.tup (lets (keysOf u))) → Q (.ref it) (upd H it (ItT a it))
section
variable {P : Program} {w : World} {K : PySem.W.Frag} {mg : Str → Option Value} {base : Heap} {CM CJ : Addr}
theorem ok_get {f : Addr} {fd : FuncData} (F : Fun K "__getitem__" "Misreading.__getitem__" s_Misreading_getitem f fd) (T : Tx K mg CM CJ) (D_is_letter : Df P w K mg base 1 "is_letter" (spIsLetter K)) : FnOk P w K mg base CX0 2 f fd ["self", "at"] (spGet CM) := by
  refine F.ok sc_Misreading_getitem (fun vs H Q E h => ?_) (fun cdv A outer s H vs Q E hr h => ?_)
  · obtain ⟨x, u, c, z, rfl, _⟩ := h
    rfl
  · obtain ⟨x, u, c, z, rfl, ⟨dx, a, b, c', hx, ha, hb, hc⟩, hm, hl, q⟩ := h
    refine ⟨_, (pss_cons (ps_if (pt_not (pt_val (pe_c D_is_letter hr (by decide) (by rfl) (pa_cons (pv 1) pa_nil))))
        (pss_one ps_never)
        pss_nil)
      (pss_cons (ps_if (pt_cmp (pc_dnotin (hu_of hr) (pv 1) (pe_fldK (K := K) rfl (pv 0) rfl)))
        (pss_one ps_never)
        pss_nil)
      (pss_one (ps_ret (pe_dget (hu_of hr) (pe_fldK (K := K) rfl (pv 0) rfl) (pv 1) (fun _ _ => rfl)))))), ?_⟩
    refine ⟨_, rfl, _, rfl, .inl ⟨c, rfl, ?_⟩⟩
    rw [decide_eq_true (keysOf_mem.mp hm).1]
    refine ⟨true, rfl, iteF ?_⟩
    refine ⟨_, rfl, _, rfl, x, CM, dx, _, _, rfl, hx, T.cl, T.nI, f3_I a b c', b, _, rfl, DGet.k (k := Sum.inr (L1 c)) hb, _, rfl, ?_⟩
    rw [valV_enc, Option.isSome_map, look_ims_some hm, hl]
    refine iteF ?_
    refine ⟨_, rfl, x, CM, dx, _, _, rfl, hx, T.cl, T.nI, f3_I a b c', _, rfl, b, V.str (Sx z), rfl, .inl ⟨_, Sum.inr (L1 c), .inl hb, rfl, by rw [valV_enc, look_ims_some hm, hl]; rfl⟩, ?_⟩
    exact q
end
end V8
set_option Elab.async false
set_option linter.all false
set_option maxRecDepth 100000
set_option maxHeartbeats 8000000
/-! Misreading: iteration, ==, str. -/
namespace V8
open PySem PySem.Spec PyProof.Rows L2
/-- the same images -/
def eqM (u v : Tab) : Prop := ∀ c ∈ abc, lookT u c = lookT v c
instance (u v : Tab) : Decidable (eqM u v) := inferInstanceAs (Decidable (∀ c ∈ abc, lookT u c = lookT v c))
section
variable {P : Program} {w : World} {K : PySem.W.Frag} {mg : Str → Option Value} {base : Heap} {CM CJ : Addr}
theorem ok_iter {f : Addr} {fd : FuncData} (F : Fun K "__iter__" "Misreading.__iter__" s_Misreading_iter f fd) (T : Tx K mg CM CJ) : FnN P w K mg base CX0 1 f fd ["self"] (snIter CM) := by
  refine fnN_mk F sc_Misreading_iter (fun n vs H Q E h => ?_) (fun cdv A outer s H vs Q E hr h => ?_)
  · obtain ⟨x, u, rfl, _⟩ := h
    rfl
  · obtain ⟨x, u, rfl, ⟨dx, a, b, c, hx, ha, hb, hc⟩, q⟩ := h
    refine ⟨_, (pss_one (ps_ret (pe_callB call_iterT (by rfl) T.iter (by decide +kernel) (pa_cons (pe_fldK (K := K) rfl (pv 0) rfl) pa_nil)))), ?_⟩
    refine ⟨_, rfl, x, CM, dx, _, _, rfl, hx, T.cl, T.nL, f3_L a b c, a, _, rfl, .inl (.inl ha), fun it ni hi => ?_⟩
    exact q it a ni hi ha
end
end V8
set_option Elab.async false
set_option linter.all false
set_option maxRecDepth 100000
set_option maxHeartbeats 8000000
/-! The pen made; what is due. -/
namespace V8
open PySem PySem.Spec PyProof.Rows L2
def spPen (K : PySem.W.Frag) : Sp := fun vs H Q _ => ∃ (a : Addr) (ns : List Int), vs = [.ref a] ∧ SqL K H a (ns.map V.int) ∧ ns.length ≤ 63 ∧ ∀ (p l : Addr) (H' : Hp), H p = none → Same H H' → PenAt H' p l ns 1000000 → Q (.ref p) H'
section
variable {P : Program} {w : World} {K : PySem.W.Frag} {mg : Str → Option Value} {base : Heap} {CM CJ : Addr}
theorem ok_pen {f : Addr} {fd : FuncData} (F : Fun K "_law_pen" "_law_pen" s_pen f fd) (T : Blt mg) : FnOk P w K mg base CX0 1 f fd ["_law_script"] (spPen K) := by
  refine F.ok sc_pen (fun vs H Q E h => ?_) (fun cdv A outer s H vs Q E hr h => ?_)
  · obtain ⟨a, ns, rfl, _⟩ := h
    rfl
  · obtain ⟨a, ns, rfl, hS, hn, q⟩ := h
    refine ⟨_, (pss_one (ps_ret (pe_lst (pa_cons (pe_callTy (call_list_ofK (K := K) rfl) (by rfl) T.list (by decide +kernel) (pa_cons (pe_slice (sl_listK (K := K) rfl) (pv 0) po_none (po_some pe_int)) pa_nil)) (pa_cons pe_int (pa_cons pe_int pa_nil)))))), ?_⟩
    refine ⟨_, rfl, 63, rfl, a, ns.map V.int, rfl, hS, fun l1 n1 => ?_⟩
    have hc : cutV (ns.map V.int) none (some 63) = ns.map V.int := by
      have e : HT.sIx (ns.map V.int).length (ns.map V.int).length (some 63) = (ns.map V.int).length := by
        show HT.sIx _ _ (some ((63 : Nat) : Int)) = _
        rw [HT.sIx_nat, List.length_map]
        omega
      unfold cutV
      rw [HT.sIx_none, List.drop_zero, e]
      exact List.take_of_length_le (Nat.le_refl _)
    rw [hc]
    refine ⟨l1, ns.map V.int, rfl, .inl (SqL.of upd_same), fun l n2 => ⟨by show 3 ≤ sizeLine; decide, fun p n3 => ?_⟩⟩
    have h1 : l1 ≠ l := ne_of_none upd_same n2
    have hl : l ≠ p := ne_of_none upd_same n3
    have n2H : upd H l1 (.lst (ns.map V.int)) l = none := n2
    have sm : Same H (upd (upd (upd H l1 (.lst (ns.map V.int))) l (.lst (ns.map V.int))) p (.lst [.ref l, .int 0, .int 0])) := fun b o e => by
      have b1 := ne_of_none e n1
      have e1 : upd H l1 (.lst (ns.map V.int)) b = some o := by rw [upd_ne b1]; exact e
      have b2 := ne_of_none e1 n2
      have e2 : upd (upd H l1 (.lst (ns.map V.int))) l (.lst (ns.map V.int)) b = some o := by rw [upd_ne b2]; exact e1
      rw [upd_ne (ne_of_none e2 n3)]
      exact e2
    refine q p l _ ?_ sm ⟨⟨0, 0, upd_same, by omega, by omega, by omega⟩, by rw [upd_ne hl]; exact upd_same, hl, hn⟩
    cases e : H p with
    | none => rfl
    | some o =>
      have b1 := ne_of_none e n1
      have e1 : upd H l1 (.lst (ns.map V.int)) p = some o := by rw [upd_ne b1]; exact e
      have b2 := ne_of_none e1 n2
      rw [upd_ne b2, e1] at n3
      cases n3
end
end V8
set_option Elab.async false
set_option linter.all false
set_option maxRecDepth 100000
set_option maxHeartbeats 8000000
/-! Misreadings made by the class's name; same. -/
namespace V8
open PySem PySem.Spec PyProof.Rows L2
def mkR (CM : Addr) : List V → Hp → VK → Prop := fun vs H Q => ∃ (d : Addr) (cs st : List Nat) (t : Tab), vs = [.ref d, .str (Sx st)] ∧ H d = some (.dK (encT t)) ∧ GoodT cs t ∧ ((toldT st t).length ≤ 12 ∧ cs.length ≤ 26) ∧ (∀ c ∈ cs, isLt c) ∧ (∀ c ∈ st, c ∈ cs) ∧ st.length ≤ 500 ∧
  ∀ x H', H x = none → MisN CM H H' x (toldT st t) → Same H H' → Q (.ref x) H'
theorem misn_of {C : Addr} {H H' : Hp} {x dx : Addr} {u : Tab} {o o' : HO} (m : MisN C (upd (upd H dx o) x o') H' x u) (hx : H x = none) (hdx : H dx = none) : MisN C H H' x u := by
  obtain ⟨ex, a, b, c, h1, h2, h3, h4, n1, n2, n3⟩ := m.at_
  have back : ∀ b, upd (upd H dx o) x o' b = none → H b = none := fun b n => by
    cases e : H b with
    | none => rfl
    | some z =>
      rw [upd_ne (ne_of_none e hx), upd_ne (ne_of_none e hdx), e] at n
      cases n
  exact ⟨ex, a, b, c, h1, h2, h3, h4, back _ n1, back _ n2, back _ n3⟩
theorem mk_of {CM : Addr} {vs : List V} {H : Hp} {Q : VK} {E : XK} (h : mkR CM vs H Q) : ∀ x dx, H x = none → H dx = none → dx ≠ x → spInit CM (.ref x :: vs) (upd (upd H dx (.own x)) x (.ins CM dx [])) (fun v H2 => v = .non ∧ Q (.ref x) H2) E := by
  obtain ⟨d, cs, st, t, rfl, hd, G, h12, hlt, hst, hs5, q⟩ := h
  intro x dx hx hdx ne
  have hd2 : upd (upd H dx (.own x)) x (.ins CM dx []) d = some (.dK (encT t)) := by
    rw [upd_ne (ne_of_none hd hx), upd_ne (ne_of_none hd hdx)]
    exact hd
  refine ⟨x, dx, d, cs, st, t, rfl, upd_same, hd2, G, h12, hlt, hst, hs5, fun H' m fr => ⟨rfl, q x H' hx (misn_of m hx hdx) fun b o e => ?_⟩⟩
  have bx := ne_of_none e hx
  refine fr b o ?_ bx
  rw [upd_ne bx, upd_ne (ne_of_none e hdx)]
  exact e
def pI : List Str := ["self", "images", "keeps"]
/-- the class by its name -/
structure Mkr (P : Program) (w : World) (K : PySem.W.Frag) (mg : Str → Option Value) (base : Heap) (CM : Addr) : Prop where
  ex : ∃ (f : Addr) (fd : FuncData), Mk K CM f ∧ FnOk P w K mg base CX0 5 f fd pI (spInit CM) ∧ mg "Misreading" = some (.ref CM) ∧ Binds K fd pI [] ∧ (∃ ds, Vals [.str (Sx [])] ds ∧ Binds K fd pI ds) ∧
    KBn K fd pI 1 ["keeps", "images"] (fun us ws => us ++ ws.reverse) (fun vs zs => vs ++ zs.reverse) ∧ (∃ its : List Value, KBn K fd pI 1 ["images"] (fun us ws => us ++ ws ++ its) (fun vs zs => vs ++ zs ++ [.str (Sx [])])) ∧
    KBn K fd pI 2 ["keeps"] (fun us ws => us ++ ws) (fun vs zs => vs ++ zs)
def tMk2 (CM : Addr) (t : TA) : TE := fun σ H Q => t σ H fun vs H1 => mkR CM vs H1 Q
def tMk1 (CM : Addr) (t : TA) : TE := fun σ H Q => t σ H fun vs H1 => mkR CM (vs ++ [.str (Sx [])]) H1 Q
section
variable {X : Cx} {j : Nat} {CM : Addr} {p pos : Pos} {e : Expr} {es : List Expr} {kws : List Keyword} {t tk : TA}
theorem pe_mk2 (M : Mkr X.prog X.w X.K X.mg X.base CM) (hr : Room j X.A) (hj : 6 ≤ j) (hg : Gl X "Misreading") (ha : PA X (e :: es) t) (he : starEach (e :: es) X.env = (false, eval e X.env) :: starEach es X.env := by rfl) (hpl : (backTo pos (starEach es X.env)).any (·.1) = false := by rfl) :
    PE X (.Call (.Name "Misreading" p) (e :: es) [] pos) (tMk2 CM t) := by
  obtain ⟨f, fd, M, F, hm, b0, b1, k2, k1, k11⟩ := M.ex
  refine ⟨fun pins s σ H Q I h => ?_⟩
  refine wpAny_Call_Name_kw (ld_glob I hg hm ?_ (by decide))
  refine PySem.W.callWith_K (h₀ := X.base) I.ok.mod.kin M.kp (thn (ha.run pos pins s σ H _ I h) fun us s1 ⟨vs, H1, I1, r, q⟩ => ⟨I1.kIn, ?_⟩) he hpl
  exact run_make (dvs := []) (ds := []) M F (hr.mono hj) b0 .nil pass0 I1 r (by rw [List.append_nil]; exact mk_of q)
theorem pe_mk1 (M : Mkr X.prog X.w X.K X.mg X.base CM) (hr : Room j X.A) (hj : 6 ≤ j) (hg : Gl X "Misreading") (ha : PA X (e :: es) t) (he : starEach (e :: es) X.env = (false, eval e X.env) :: starEach es X.env := by rfl) (hpl : (backTo pos (starEach es X.env)).any (·.1) = false := by rfl) :
    PE X (.Call (.Name "Misreading" p) (e :: es) [] pos) (tMk1 CM t) := by
  obtain ⟨f, fd, M, F, hm, b0, ⟨ds, hd, b1⟩, k2, k1, k11⟩ := M.ex
  refine ⟨fun pins s σ H Q I h => ?_⟩
  refine wpAny_Call_Name_kw (ld_glob I hg hm ?_ (by decide))
  refine PySem.W.callWith_K (h₀ := X.base) I.ok.mod.kin M.kp (thn (ha.run pos pins s σ H _ I h) fun us s1 ⟨vs, H1, I1, r, q⟩ => ⟨I1.kIn, ?_⟩) he hpl
  exact run_make M F (hr.mono hj) b1 hd pass0 I1 r (mk_of q)
end
theorem vals_rev : ∀ {xs : List V} {us : List Value}, Vals xs us → Vals xs.reverse us.reverse
  | _, _, .nil => .nil
  | _, _, .cons h r => by
    rw [List.reverse_cons, List.reverse_cons]
    exact (vals_rev r).append (.cons h .nil)
/-- what K holds of the def, as the rules above want it -/
theorem mkr_of {P : Program} {w : World} {K : PySem.W.Frag} {mg : Str → Option Value} {base : Heap} {CM CJ f : Addr} {fd : FuncData} (F : FunD K "__init__" "Misreading.__init__" (defArgs s_Misreading_init) (defBody s_Misreading_init) (defScope s_Misreading_init) [.str (Sx [])] [] f fd) (T : Tx K mg CM CJ)
    (D_told_images : Df P w K mg base 4 "told_images" spTold) (M : Mk K CM f) (hm : mg "Misreading" = some (.ref CM)) : Mkr P w K mg base CM := by
  refine ⟨f, fd, M, ok_init F T D_told_images, hm, ?_, ?_, ?_, ?_, ?_⟩
  · obtain ⟨ds, h1, h2⟩ := F.binds1 (ps := pI) 3 1 (fun z => nomatch z) rfl (fun T kV doc pm an cdv ct us its h1 h2 => match us, its, h1, h2 with | [_, _, _], [_], _, _ => ⟨_, rfl, rfl⟩)
    cases h1
    exact h2
  · obtain ⟨ds, h1, h2⟩ := F.binds1 (ps := pI) 2 0 (fun z => nomatch z) rfl (fun T kV doc pm an cdv ct us its h1 h2 => match us, its, h1, h2 with | [_, _], [_], _, _ => ⟨_, rfl, rfl⟩)
    exact ⟨ds, h1, h2⟩
  · obtain ⟨its, h⟩ := F.kbindsD (ps := pI) 1 ["keeps", "images"] (fun us _ ws => us ++ ws.reverse) (fun z => nomatch z) (fun r1 _ r3 => r1.append (vals_rev r3)) (fun T kV doc pm an cdv ct us its ws h1 h2 h3 => match us, its, ws, h1, h2, h3 with | [_], [_], [_, _], _, _, _ => ⟨_, rfl, rfl⟩)
    exact h
  · obtain ⟨its, h⟩ := F.kbindsD (ps := pI) 1 ["images"] (fun us ds ws => us ++ ws ++ ds) (fun z => nomatch z) (fun r1 r2 r3 => (r1.append r3).append r2) (fun T kV doc pm an cdv ct us its ws h1 h2 h3 => match us, its, ws, h1, h2, h3 with | [_], [_], [_], _, _, _ => ⟨_, rfl, rfl⟩)
    exact ⟨its, h⟩
  · obtain ⟨its, h⟩ := F.kbindsD (ps := pI) 2 ["keeps"] (fun us _ ws => us ++ ws) (fun z => nomatch z) (fun r1 _ r3 => r1.append r3) (fun T kV doc pm an cdv ct us its ws h1 h2 h3 => match us, its, ws, h1, h2, h3 with | [_, _], [_], [_], _, _, _ => ⟨_, rfl, rfl⟩)
    exact h
end V8
set_option Elab.async false
set_option linter.all false
set_option maxRecDepth 100000
set_option maxHeartbeats 16000000
/-! Helps: lists compared, lists gathered, an own class iterated. -/
namespace V8
open PySem PySem.Spec PyProof.Rows L2
section
variable {K : PySem.W.Frag} {H : Hp} {a b : Addr} {Q : VK} {CM : Addr} {u : Tab}
theorem same_put {H H' : Hp} {D : Addr} {o : HO} (s : Same H H') (n : H' D = none) : Same H (upd H' D o) := fun b u e => by
  rw [upd_ne (ne_of_none (s b u e) n)]
  exact s b u e
theorem same_over {H H' : Hp} {D : Addr} {o : HO} (s : Same H H') (n : H D = none) : Same H (upd H' D o) := fun b u e => by
  rw [upd_ne (ne_of_none e n)]
  exact s b u e
theorem same_none {H H' : Hp} {D : Addr} (s : Same H H') (n : H' D = none) : H D = none := by
  cases e : H D with
  | none => rfl
  | some o =>
    rw [s _ _ e] at n
    cases n
theorem MisAt.same {C : Addr} {H H' : Hp} {x : Addr} {u : Tab} (m : MisAt C H x u) (s : Same H H') : MisAt C H' x u := m.mono fun b o e _ => s b o e
theorem dropH_upd {H : Hp} {it : Addr} {o : HO} (n : H it = none) : ItX.dropH (upd H it o) it = H := by
  funext b
  unfold ItX.dropH
  by_cases h : b = it
  · rw [if_pos h, h, n]
  · rw [if_neg h, upd_ne h]
end
end V8
set_option Elab.async false
set_option linter.all false
set_option maxRecDepth 100000
set_option maxHeartbeats 8000000
/-! Misreading: str. -/
namespace V8
open PySem PySem.Spec PyProof.Rows L2
theorem sx_add (a b : List Nat) : Sx a ++ Sx b = Sx (a ++ b) := by
  show (Str.mk (a.toArray ++ b.toArray)) = Str.mk _
  rw [List.append_toArray]
theorem colon : (":" : Str) = Sx [58] := by decide +kernel
theorem emp : Str.empty = Sx [] := rfl
def wordM (c : Nat) (s : List Nat) : Str := Sx (c :: 58 :: s)
def wordsM (u : Tab) (ks : List Nat) : List Str := ks.map fun c => wordM c ((lookT u c).getD [])
def strM (u : Tab) : Str := if keysOf u = [] then "-" else Txt.join " " (wordsM u (keysOf u))
def SmallT (u : Tab) : Prop := ∀ c s, lookT u c = some s → s.length ≤ 64
def spStr (CM : Addr) : Sp := fun vs H Q _ => ∃ (x : Addr) (u : Tab), vs = [.ref x] ∧ MisAt CM H x u ∧ SmallT u ∧ ∀ H', Same H H' → Q (.str (strM u)) H'
theorem sum_le (f : Str → Nat) (k : Nat) : ∀ l : List Str, (∀ x ∈ l, f x ≤ k) → (l.map f).sum ≤ k * l.length
  | [], _ => Nat.le_refl _
  | a :: r, h => by
    rw [List.map_cons, List.sum_cons, List.length_cons]
    have h1 := h a (List.mem_cons_self ..)
    have h2 := sum_le f k r fun x hx => h x (List.mem_cons_of_mem _ hx)
    rw [Nat.mul_succ]
    omega
theorem lets_isEmpty (cs : List Nat) : (lets cs).isEmpty = cs.isEmpty := by cases cs <;> rfl
section
variable {P : Program} {w : World} {K : PySem.W.Frag} {mg : Str → Option Value} {base : Heap} {CM CJ : Addr}
theorem ok_str {f : Addr} {fd : FuncData} (F : Fun K "__str__" "Misreading.__str__" s_Misreading_str f fd) (T : Ty K mg CM CJ) : FnOk P w K mg base CX0 1 f fd ["self"] (spStr CM) := by
  refine F.ok sc_Misreading_str (fun vs H Q E h => ?_) (fun cdv A outer s H vs Q E hr h => ?_)
  · obtain ⟨x, u, rfl, _⟩ := h
    rfl
  · obtain ⟨x, u, rfl, ⟨dx, a, b, c', hx, ha, hb, hc⟩, sm, q⟩ := h
    refine ⟨_, (pss_cons (ps_if (pt_not (pt_truth (pe_fldK (K := K) rfl (pv 0) rfl) (by intro _; rfl)))
        (pss_one (ps_ret pe_str))
        pss_nil)
      (pss_one (ps_ret (pe_joinK (K := K) rfl pe_str (pe_lc (own := [("letter", 1)]) (g := gName 1) (by rfl) sc_Misreading_str.nd (pi_tup (pe_fldK (K := K) rfl (pv 0) rfl)) (blkOk_by (own := [("letter", 1)]) (N := n_Misreading_str) (sc := defScope s_Misreading_str) (by decide +kernel)) (fun _ _ _ _ _ => (pg_name (i := 1) sc_Misreading_str.nd rfl (.inl rfl))) (fun _ _ _ _ _ => pts_nil) (fun _ _ _ _ _ => (pe_joinedT (pj_cons (pe_fmt (pv 1)) (pj_cons pe_str (pj_cons (pe_fmt (pe_dget (hu_of hr) (pe_fldK (K := K) rfl (pv 0) rfl) (pv 1) (fun _ _ => rfl))) pj_nil)))))))))), ?_⟩
    refine ⟨_, rfl, x, CM, dx, _, _, rfl, hx, T.cl, T.nL, f3_L a b c', _, .inr (.inl ⟨_, .inl (.inl ha), rfl⟩), ?_⟩
    rw [lets_isEmpty]
    by_cases e : keysOf u = []
    · have es : strM u = "-" := if_pos e
      rw [e]
      refine iteT ?_
      show Q (V.str "-") H
      rw [← es]
      exact q H (Same.refl H)
    · have es : strM u = Txt.join " " (wordsM u (keysOf u)) := if_neg e
      have ee : (keysOf u).isEmpty = false := by
        cases h : keysOf u with
        | nil => exact absurd h e
        | cons a r => rfl
      rw [ee]
      refine iteF ?_
      refine ⟨⟨_, rfl⟩, _, rfl, x, CM, dx, _, _, rfl, hx, T.cl, T.nL, f3_L a b c', a, rfl, ⟨_, .inl (.inl ha)⟩, fun D nD => lc_it (walk_tup (K := K) (a := a) (xs := lets (keysOf u))) (fun i H2 => H2 = upd H D (.lst ((wordsM u ((keysOf u).take i)).map V.str))) rfl ?_ ?_ ?_⟩
      · rintro i H2 hi rfl
        exact .inl (.inl (by rw [upd_ne (ne_of_none ha nD)]; exact ha))
      · rintro i z H2 H2' hi rfl ⟨rfl, hz⟩
        obtain ⟨hik, rfl⟩ := lets_get hz
        obtain ⟨s2, e2⟩ := Option.isSome_iff_exists.mp (List.mem_filter.mp (List.getElem_mem hik)).2
        have hx2 : upd H D (.lst ((wordsM u ((keysOf u).take i)).map V.str)) x = some (.ins CM dx (f3 a b c')) := by rw [upd_ne (ne_of_none hx nD)]; exact hx
        have hb2 : upd H D (.lst ((wordsM u ((keysOf u).take i)).map V.str)) b = some (.dK (encT (ims u))) := by rw [upd_ne (ne_of_none hb nD)]; exact hb
        have s64 := sm _ _ e2
        have l1 : (Str.empty ++ L1 (keysOf u)[i]) = Sx [(keysOf u)[i]] := by rw [emp, L1_Sx, sx_add]; rfl
        have l2 : ((Str.empty ++ L1 (keysOf u)[i]) ++ (":" : Str)) = Sx [(keysOf u)[i], 58] := by rw [l1, colon, sx_add]; rfl
        have l3 : (((Str.empty ++ L1 (keysOf u)[i]) ++ (":" : Str)) ++ Sx s2) = wordM (keysOf u)[i] s2 := by rw [l2, sx_add]; rfl
        refine ⟨rfl, _, rfl, .inl ⟨L1 (keysOf u)[i], rfl, by show 1 ≤ sizeLine; decide, L1 (keysOf u)[i], rfl, ?_, _, rfl, ?_, ?_⟩⟩
        · rw [l1]
          show 1 ≤ sizeLine
          decide
        · rw [l2]
          show 2 ≤ sizeLine
          decide
        · refine ⟨_, rfl, x, CM, dx, _, _, rfl, hx2, T.cl, T.nI, f3_I a b c', _, rfl, b, V.str (Sx s2), rfl, .inl ⟨_, Sum.inr (L1 (keysOf u)[i]), .inl hb2, rfl, by rw [valV_enc, look_ims_some (List.getElem_mem hik), e2]; rfl⟩, .inl ⟨Sx s2, rfl, ?_, Sx s2, rfl, ?_, _, upd_same, ?_, ?_⟩⟩
          · rw [Sx_len]
            exact Nat.le_of_lt (small1000 (by omega))
          · rw [l3]
            show (Sx _).length ≤ _
            rw [Sx_len, List.length_cons, List.length_cons]
            exact Nat.le_of_lt (small1000 (by omega))
          · rw [List.length_map]
            unfold wordsM
            rw [List.length_map, List.length_take]
            have := keysOf_len u
            exact small1000 (by omega)
          · rw [upd_upd, l3]
            congr 2
            unfold wordsM
            rw [List.take_add_one, List.getElem?_eq_getElem hik, List.map_append, List.map_append]
            show _ ++ [V.str (wordM (keysOf u)[i] s2)] = _ ++ [V.str (wordM (keysOf u)[i] ((lookT u (keysOf u)[i]).getD []))]
            rw [e2]
            rfl
      · rintro H2 rfl
        rw [lets_len, List.take_length]
        refine ⟨_, D, wordsM u (keysOf u), rfl, rfl, .inl (SqL.of upd_same), ?_, ?_⟩
        · have hk := keysOf_len u
          have h1 : ((wordsM u (keysOf u)).map fun x => x.length).sum ≤ _ := sum_le (fun x => x.length) 66 (wordsM u (keysOf u)) fun x hx => by
            obtain ⟨c, hc, rfl⟩ := List.mem_map.mp hx
            obtain ⟨s2, e2⟩ := Option.isSome_iff_exists.mp (keysOf_mem.mp hc).2
            rw [e2]
            show (Sx _).length ≤ _
            rw [Sx_len, List.length_cons, List.length_cons]
            have := sm _ _ e2
            show s2.length + 1 + 1 ≤ _
            omega
          have h2 : (wordsM u (keysOf u)).length = (keysOf u).length := List.length_map ..
          rw [h2] at h1 ⊢
          show _ + _ * 1 ≤ _
          have h3 : 66 * (keysOf u).length ≤ 66 * 26 := Nat.mul_le_mul_left _ hk
          omega
        · rw [← es]
          exact q _ fun b o e => by
            rw [upd_ne (ne_of_none e nD)]
            exact e
end
end V8
set_option Elab.async false
set_option linter.all false
set_option maxRecDepth 100000
set_option maxHeartbeats 16000000
/-! Whether a misreading is right. -/
namespace V8
open PySem PySem.Spec PyProof.Rows L2
theorem ok_sx {cs : List Nat} (h : ∀ c ∈ cs, isLt c) : PyData.strOk (Sx cs) = true := by
  have e : (Sx cs).cps = cs.toArray := rfl
  unfold PyData.strOk
  rw [e, List.all_toArray, List.all_eq_true]
  intro c hc
  have := (h c hc).2
  exact decide_eq_true (show c < 0x110000 by omega)
theorem join_Sx : ∀ ss : List (List Nat), Txt.join Str.empty (ss.map Sx) = Sx ss.flatten := by
  intro ss
  rw [TL.join_eq]
  have h : TL.tl (Str.join Str.empty (ss.map Sx)) = ss.flatten := by
    rw [TL.tl_join]
    have : ∀ l : List (List Nat), TL.joinL (TL.tl Str.empty) ((l.map Sx).map TL.tl) = l.flatten := by
      intro l
      induction l with
      | nil => rfl
      | cons c r ih =>
        cases r with
        | nil =>
          show TL.tl (Sx c) = [c].flatten
          simp
          rfl
        | cons d r =>
          show TL.tl (Sx c) ++ (TL.tl Str.empty ++ TL.joinL (TL.tl Str.empty) ((((d :: r).map Sx).map TL.tl))) = _
          rw [ih]
          rfl
    exact this ss
  have e2 : (Str.join Str.empty (ss.map Sx)).cps.toList = ss.flatten := h
  show Str.join Str.empty (ss.map Sx) = Sx _
  unfold Sx at e2 ⊢
  cases hx : Str.join Str.empty (ss.map fun cs => (⟨cs.toArray⟩ : Str)) with
  | mk a =>
    rw [hx] at e2
    have e3 : a.toList = ss.flatten := e2
    rw [← e3]
/-- iteration of the class's own -/
structure ItM (P : Program) (w : World) (K : PySem.W.Frag) (mg : Str → Option Value) (base : Heap) (k : Nat) (C : Addr) (sn : Nat → Sp) : Prop where
  ex : ∃ (f : Addr) (fd : FuncData) (ps : List Str), FnN P w K mg base CX0 k f fd ps sn ∧ Own K C "__iter__" f ∧ Binds K fd ps []
theorem pi_ownI {X : Cx} {k j : Nat} {C : Addr} {sn : Nat → Sp} {tg l : Expr} {tl : TE} (c : ItM X.prog X.w X.K X.mg X.base k C sn) (hr : Room j X.A) (hk : k ≤ j) (hl : PE X l tl) : PI X tg l (iOwn X.K C X.s_0.heap.objs.size sn E0 tl) := by
  obtain ⟨f, fd, ps, F, o, b⟩ := c.ex
  exact pi_own F b pass0 o (hr.mono hk) hl
end V8
set_option Elab.async false
set_option linter.all false
set_option maxRecDepth 100000
set_option maxHeartbeats 16000000
/-! same; whether a misreading is equal to what has the same images, and to nothing else. -/
namespace V8
open PySem PySem.Spec PyProof.Rows L2
def spSame (CM : Addr) : Sp := fun vs H Q _ => ∃ (cs st : List Nat), vs = [.str (Sx st)] ∧ cs.length ≤ 12 ∧ (∀ c ∈ cs, isLt c) ∧ (∀ c ∈ st, c ∈ cs) ∧ st.length ≤ 500 ∧ ∀ x H', H x = none → MisAt CM H' x (toldT st []) → Same H H' → Q (.ref x) H'
structure Sms (P : Program) (w : World) (K : PySem.W.Frag) (mg : Str → Option Value) (base : Heap) (CM : Addr) : Prop where
  ex : ∃ (p g : Addr) (fd : FuncData) (mc : Value), ClX.CRead K CM mc ∧ SMet K CM mc "same" p g ∧ FnOk P w K mg base CX0 7 g fd ["letters"] (spSame CM) ∧ Binds K fd ["letters"] [] ∧ KBinds K fd ["letters"] ["letters"] (fun us ws => us ++ ws) (fun vs zs => vs ++ zs)
section
variable {X : Cx} {j : Nat} {CM : Addr} {o e : Expr} {es : List Expr} {pos apos : Pos} {ta : TE} {t : TA} {pl : Sem Bool}
theorem pe_sm (c : Sms X.prog X.w X.K X.mg X.base CM) (hr : Room j X.A) (hj : 7 ≤ j) (he : PE X o ta) (ha : PA X (e :: es) t)
    (hst : starEach (e :: es) X.env = (false, eval e X.env) :: starEach es X.env := by rfl) (hpl : (backTo pos (starEach es X.env)).any (·.1) = false := by rfl)
    (ht : eval (.Call (.Attribute o "same" apos) (e :: es) [] pos) X.env = (do
      let ov ← eval o X.env
      standAt apos.atName
      let (f, first) ← holding [ov] (getMethod ov "same" pl)
      callWith pos f first (backTo pos (starEach (e :: es) X.env)) (backToKw pos (keywordEach [] X.env))) := by rfl) :
    PE X (.Call (.Attribute o "same" apos) (e :: es) [] pos) (tSMeth CM (spSame CM) E0 ta t) := by
  obtain ⟨p, g, fd, mc, r, m, F, b, kb⟩ := c.ex
  exact pe_smeth (pl := pl) he r m F (hr.mono hj) b pass0 ha hst hpl ht
end
/-! ### tables -/
theorem putT_new {t : Tab} {c : Nat} {s : List Nat} (h : c ∉ t.map (·.1)) : putT t c s = t ++ [(c, s)] := by
  unfold putT
  rw [if_neg]
  intro z
  obtain ⟨q, hq, e⟩ := List.any_eq_true.mp z
  have e' : q.1 = c := by simpa using e
  exact h (List.mem_map.mpr ⟨q, hq, e'⟩)
theorem mergeT_app : ∀ {t a : Tab}, ((a ++ t).map (·.1)).Nodup → mergeT a t = a ++ t
  | [], a, _ => by rw [List.append_nil]; rfl
  | q :: t, a, h => by
    have hq : q.1 ∉ a.map (·.1) := by
      rw [List.map_append, List.nodup_append] at h
      intro z
      exact h.2.2 _ z q.1 (by simp) rfl
    show mergeT (putT a q.1 q.2) t = _
    rw [putT_new hq, mergeT_app (t := t) (a := a ++ [(q.1, q.2)])]
    · rw [List.append_assoc]
      rfl
    · rw [List.append_assoc]
      exact h
theorem mergeT_nil {t : Tab} (h : (t.map (·.1)).Nodup) : mergeT [] t = t := mergeT_app (a := []) h
theorem toldT_nil {t : Tab} (h : (t.map (·.1)).Nodup) : toldT [] t = t := mergeT_nil h
theorem look_mem : ∀ {t : Tab} {c : Nat} {s : List Nat}, (t.map (·.1)).Nodup → (c, s) ∈ t → lookT t c = some s := by
  intro t c s nd h
  obtain ⟨i, hi, e⟩ := List.getElem_of_mem h
  have z := look_at nd hi
  rw [e] at z
  exact z
def dropT (t : Tab) (c : Nat) : Tab := t.filter fun q => decide (q.1 ≠ c)
theorem GoodT.drop {cs : List Nat} {t : Tab} (g : GoodT cs t) (c : Nat) : GoodT cs (dropT t c) := ⟨(List.filter_sublist.map _).nodup g.nd, fun q h => g.key q (List.mem_filter.mp h).1, fun q h => g.img q (List.mem_filter.mp h).1⟩
theorem pen_same {H H' : Hp} {p l : Addr} {ns : List Int} {n : Nat} (P : PenAt H p l ns n) (s : Same H H') : PenAt H' p l ns n := by
  obtain ⟨⟨a, g, h1, h2, h3, h4⟩, i, e, sh⟩ := P
  exact ⟨⟨a, g, s _ _ h1, h2, h3, h4⟩, s _ _ i, e, sh⟩
section
variable {P : Program} {w : World} {K : PySem.W.Frag} {mg : Str → Option Value} {base : Heap} {CM CJ : Addr}
theorem MisAt.ins {C : Addr} {H : Hp} {x : Addr} {u : Tab} (m : MisAt C H x u) : ∃ dx fs, H x = some (.ins C dx fs) := by
  obtain ⟨dx, a, b, c, h, _⟩ := m.at_
  exact ⟨dx, _, h⟩
end
end V8
set_option Elab.async false
set_option linter.all false
set_option maxRecDepth 100000
set_option maxHeartbeats 8000000
/-! Misreadings as functions from letters to images. -/
namespace V8
open PySem PySem.Spec PyProof.Rows L2
/-! functions from letters to images -/
abbrev Fu := Nat → Option (List Nat)
def imF (f : Fu) : List Nat → Option (List Nat)
  | [] => some []
  | c :: cs => (f c).bind fun a => (imF f cs).map (a ++ ·)
/-- images of at most n letters -/
def Bnd (n : Nat) (f : Fu) : Prop := ∀ c s, f c = some s → s.length ≤ n
theorem Bnd.le {a b : Nat} {f : Fu} (h : Bnd a f) (l : a ≤ b) : Bnd b f := fun c s e => Nat.le_trans (h c s e) l
theorem imF_none {f : Fu} : ∀ {w : List Nat}, imF f w = none ↔ ∃ c ∈ w, f c = none
  | [] => by
    constructor
    · intro h
      cases h
    · rintro ⟨c, h, _⟩
      cases h
  | c :: w => by
    have ih := imF_none (f := f) (w := w)
    show (f c).bind (fun a => (imF f w).map (a ++ ·)) = none ↔ _
    cases e : f c with
    | none => exact ⟨fun _ => ⟨c, List.mem_cons_self .., e⟩, fun _ => rfl⟩
    | some z =>
      constructor
      · intro h
        cases e2 : imF f w with
        | some x =>
          rw [e2] at h
          cases h
        | none =>
          obtain ⟨d, h1, h2⟩ := ih.mp e2
          exact ⟨d, List.mem_cons_of_mem _ h1, h2⟩
      · rintro ⟨d, h1, h2⟩
        rcases List.mem_cons.mp h1 with q | q
        · rw [q, e] at h2
          cases h2
        · rw [ih.mpr ⟨d, q, h2⟩]
          rfl
theorem imF_some {f : Fu} : ∀ {w : List Nat}, (∀ c ∈ w, (f c).isSome = true) → imF f w = some ((w.map fun c => (f c).getD []).flatten)
  | [], _ => rfl
  | c :: w, h => by
    show (f c).bind (fun a => (imF f w).map (a ++ ·)) = _
    rw [imF_some fun x hx => h x (List.mem_cons_of_mem _ hx)]
    have h1 := h c (List.mem_cons_self ..)
    cases e : f c with
    | none =>
      rw [e] at h1
      cases h1
    | some z =>
      show some (z ++ _) = _
      rw [List.map_cons, List.flatten_cons, e]
      rfl
/-! what a Misreading's table tells -/
def lk (u : Tab) : Fu := fun c => if c ∈ abc then lookT u c else none
theorem lk_mem {u : Tab} {c : Nat} : c ∈ keysOf u ↔ (lk u c).isSome = true := by
  rw [keysOf_mem]
  show _ ↔ (if c ∈ abc then lookT u c else none).isSome = true
  by_cases h : c ∈ abc
  · rw [if_pos h]
    exact ⟨fun z => z.2, fun z => ⟨h, z⟩⟩
  · rw [if_neg h]
    exact ⟨fun z => absurd z.1 h, fun z => by cases z⟩
theorem lk_look {u : Tab} {c : Nat} (h : c ∈ keysOf u) : lookT u c = lk u c := by
  show _ = (if c ∈ abc then lookT u c else none)
  rw [if_pos (keysOf_mem.mp h).1]
theorem lk_some {u : Tab} {c : Nat} {s : List Nat} (h : lk u c = some s) : c ∈ keysOf u ∧ lookT u c = some s := by
  have m : c ∈ keysOf u := lk_mem.mpr (by rw [h]; rfl)
  exact ⟨m, (lk_look m).trans h⟩
theorem lk_not {u : Tab} {c : Nat} (h : c ∉ keysOf u) : lk u c = none := by
  cases e : lk u c with
  | none => rfl
  | some s => exact absurd (lk_some e).1 h
theorem imF_look {u : Tab} {cs : List Nat} (h : ∀ c ∈ cs, c ∈ keysOf u) : imF (lk u) cs = some ((cs.map fun c => (lookT u c).getD []).flatten) := by
  rw [imF_some fun c hc => lk_mem.mp (h c hc)]
  have e : (cs.map fun c => (lk u c).getD []) = cs.map fun c => (lookT u c).getD [] := List.map_congr_left fun c hc => by rw [lk_look (h c hc)]
  rw [e]
theorem imF_keys {u : Tab} {cs r : List Nat} (h : imF (lk u) cs = some r) : ∀ c ∈ cs, c ∈ keysOf u := fun c hc => by
  by_cases m : c ∈ keysOf u
  · exact m
  · have e := imF_none.mpr ⟨c, hc, lk_not m⟩
    rw [h] at e
    cases e
/-- the table that f makes of the letters ks -/
def mkT (f : Fu) (ks : List Nat) : Tab := ks.filterMap fun c => (f c).map fun s => (c, s)
end V8
set_option Elab.async false
set_option linter.all false
set_option maxRecDepth 100000
set_option maxHeartbeats 8000000
/-! The program's small tests; a Misreading of what other ones have joined. -/
namespace V8
open PySem PySem.Spec PyProof.Rows L2
abbrev s_is_integer : Stmt := topS 24
theorem sc_is_integer : FnScope ["value"] ["value"] (defScope s_is_integer) := ⟨rfl, rfl, rfl, by decide +kernel, rfl, by decide +kernel, by decide +kernel⟩
abbrev s_is_between : Stmt := topS 25
theorem sc_is_between : FnScope ["value", "least", "most"] ["value", "least", "most"] (defScope s_is_between) := ⟨rfl, rfl, rfl, by decide +kernel, rfl, by decide +kernel, by decide +kernel⟩
abbrev s_Misreading_first_barred : Stmt := inClass (topS 34) 7
theorem sc_Misreading_first_barred : FnScope ["self", "text", "at", "letter"] ["self", "text"] (defScope s_Misreading_first_barred) := ⟨rfl, rfl, rfl, by decide +kernel, rfl, by decide +kernel, by decide +kernel⟩
abbrev s_Misreading_image : Stmt := inClass (topS 34) 8
abbrev n_Misreading_image : List Str := ["self", "text", "letter"]
theorem sc_Misreading_image : FnScope ["self", "text", "letter"] ["self", "text"] (defScope s_Misreading_image) := ⟨rfl, rfl, rfl, by decide +kernel, rfl, by decide +kernel, by decide +kernel⟩
structure Tz (K : PySem.W.Frag) (mg : Str → Option Value) (CM CJ : Addr) : Prop extends Ty K mg CM CJ where
  enumerate : mg "enumerate" = none
  all : mg "all" = none
  bool : mg "bool" = none
  gLONGEST_JOINED : GV mg "LONGEST_JOINED" (.int 64)
  clJ : Cls K CJ
  nJ : NoAttr K CJ "images"
  jA : PySem.W.findIn K (.ref CJ) "__class__" = some (some (.builtin "object.__class__"))
  jD : PySem.W.mroIn K CJ (.type "object") = some true
  ip : IntP K CM
  JJ : PySem.W.kitOne K (.ref CJ) (.ref CJ) = some true
def spInt : Sp := fun vs H Q _ => ∃ i, vs = [.int i] ∧ Q (.bl true) H
def spBtw : Sp := fun vs H Q _ => ∃ i a b : Int, vs = [.int i, .int a, .int b] ∧ a ≤ i ∧ i ≤ b ∧ Q (.bl true) H
def spFB (CM : Addr) : Sp := fun vs H Q _ => ∃ (x : Addr) (u : Tab) (cs : List Nat), vs = [.ref x, .str (Sx cs)] ∧ MisAt CM H x u ∧ cs.length ≤ 4000 ∧ (∀ r H', imF (lk u) cs = some r → Same H H' → Q .non H') ∧ (∀ (i : Nat) H', i < cs.length → imF (lk u) cs = none → Same H H' → Q (.int i) H')
def spImg (CM : Addr) : Sp := fun vs H Q _ => ∃ (x : Addr) (u : Tab) (cs r : List Nat), vs = [.ref x, .str (Sx cs)] ∧ MisAt CM H x u ∧ Bnd 64 (lk u) ∧ imF (lk u) cs = some r ∧ cs.length ≤ 2000 ∧ ∀ H', Same H H' → Q (.str (Sx r)) H'
section
variable {P : Program} {w : World} {K : PySem.W.Frag} {mg : Str → Option Value} {base : Heap} {CM CJ : Addr}
theorem ok_is_integer {f : Addr} {fd : FuncData} (F : Fun K "is_integer" "is_integer" s_is_integer f fd) (T : Tz K mg CM CJ) : FnOk P w K mg base CX0 1 f fd ["value"] spInt := by
  refine F.ok sc_is_integer (fun vs H Q E h => ?_) (fun cdv A outer s H vs Q E hr h => ?_)
  · obtain ⟨i, rfl, _⟩ := h
    rfl
  · obtain ⟨i, rfl, q⟩ := h
    refine ⟨_, (pss_one (ps_ret (pe_and (pe_callB call_isi (by rfl) T.isinstance (by decide +kernel) (pa_cons (pv 0) (pa_cons (pe_bltn (v := .ty "int") (by rfl) T.int (by decide +kernel) rfl) pa_nil))) (pe_one (pe_not (pe_callB call_isi (by rfl) T.isinstance (by decide +kernel) (pa_cons (pv 0) (pa_cons (pe_bltn (v := .ty "bool") (by rfl) T.bool (by decide +kernel) rfl) pa_nil)))))))), ?_⟩
    refine ⟨_, rfl, _, .ty "int", .type "int", .type "int", true, rfl, .ty _, .base (.int i), kit_ty (by decide +kernel), true, rfl, ?_⟩
    refine ⟨_, rfl, _, .ty "bool", .type "int", .type "bool", false, rfl, .ty _, .base (.int i), kit_ty (by decide +kernel), ?_⟩
    exact ⟨_, rfl, q⟩
theorem ok_is_between {f : Addr} {fd : FuncData} (F : Fun K "is_between" "is_between" s_is_between f fd) (T : Tz K mg CM CJ) (D_is_integer : Df P w K mg base 1 "is_integer" spInt) : FnOk P w K mg base CX0 2 f fd ["value", "least", "most"] spBtw := by
  refine F.ok sc_is_between (fun vs H Q E h => ?_) (fun cdv A outer s H vs Q E hr h => ?_)
  · obtain ⟨i, a, b, rfl, _⟩ := h
    rfl
  · obtain ⟨i, a, b, rfl, ha, hb, q⟩ := h
    refine ⟨_, (pss_one (ps_ret (pe_and (pe_c D_is_integer hr (by decide) (by rfl) (pa_cons (pv 0) pa_nil)) (pe_one (pe_chain op_le op_le (pv 1) (pv 0) (pv 2)))))), ?_⟩
    refine ⟨_, rfl, i, rfl, true, rfl, iteT ?_⟩
    refine ⟨_, rfl, _, rfl, _, _, rfl, rfl, true, dec_t ha, ?_⟩
    refine ⟨_, rfl, _, _, rfl, rfl, ?_⟩
    show Q (V.bl (decide (i ≤ b))) H
    rw [decide_eq_true hb]
    exact q
end
end V8
set_option Elab.async false
set_option linter.all false
set_option maxRecDepth 100000
set_option maxHeartbeats 8000000
/-! first_barred, image. -/
namespace V8
open PySem PySem.Spec PyProof.Rows L2
section
variable {P : Program} {w : World} {K : PySem.W.Frag} {mg : Str → Option Value} {base : Heap} {CM CJ : Addr}
theorem ok_first_barred {f : Addr} {fd : FuncData} (F : Fun K "first_barred" "Misreading.first_barred" s_Misreading_first_barred f fd) (T : Tz K mg CM CJ) : FnOk P w K mg base CX0 1 f fd ["self", "text"] (spFB CM) := by
  refine F.ok sc_Misreading_first_barred (fun vs H Q E h => ?_) (fun cdv A outer s H vs Q E hr h => ?_)
  · obtain ⟨x, u, cs, rfl, _⟩ := h
    rfl
  · obtain ⟨x, u, cs, rfl, ⟨dx, a, b, c', hx, ha, hb, hc⟩, h4, q1, q2⟩ := h
    refine ⟨_, (pss_cons (ps_for PassesOwn.never rfl (pi_enumS (by rfl) T.enumerate (pa_cons (pv 1) pa_nil)) (pg_tup (by rfl) (pgs_cons (pg_name (i := 2) sc_Misreading_first_barred.nd rfl (.inl rfl)) (pgs_cons (pg_name (i := 3) sc_Misreading_first_barred.nd rfl (.inl rfl)) pgs_nil)))
        (pss_one (ps_if (pt_cmp (pc_dnotin (hu_of hr) (pv 3) (pe_fldK (K := K) rfl (pv 0) rfl)))
          (pss_one (ps_ret (pv 2)))
          pss_nil)))
      (pss_one (ps_ret pe_non))), ?_⟩
    refine ⟨_, rfl, Sx cs, rfl, for_it walk_enumS (fun i σ H2 => (∃ v2 v3 : Option V, σ = [some (.ref x), some (.str (Sx cs)), v2, v3]) ∧ Same H H2 ∧ ∀ c ∈ cs.take i, c ∈ keysOf u) ⟨⟨none, none, rfl⟩, Same.refl H, fun c h => by simp at h⟩ (fun _ _ _ _ _ => trivial) ?_ ?_⟩
    · rintro i z σ H2 H2' hi ⟨⟨v2, v3, rfl⟩, s2, hk⟩ ⟨tq, c, rfl, ntq, rfl, hc0⟩
      have hc1 := sx_at hc0
      obtain ⟨hi', ec⟩ := List.getElem?_eq_some_iff.mp hc1
      refine ⟨tq, _, rfl, .inl (.inl upd_same), rfl, _, _, rfl, _, _, rfl, rfl, ?_⟩
      have s3 := same_put (s := s2) (o := .tup [.int (i : Nat), .str ⟨#[c]⟩]) ntq
      refine ⟨_, rfl, _, rfl, x, CM, dx, _, _, rfl, s3 _ _ hx, T.cl, T.nI, f3_I a b c', b, _, rfl, DGet.k (k := Sum.inr (L1 c)) (s3 _ _ hb), _, rfl, ?_⟩
      rw [valV_enc, Option.isSome_map, look_ims]
      by_cases m : c ∈ keysOf u
      · rw [if_pos m]
        refine iteF ⟨⟨_, _, rfl⟩, s3, fun d hd => ?_⟩
        rw [List.take_add_one, hc1] at hd
        rcases List.mem_append.mp hd with h | h
        · exact hk d h
        · rw [List.mem_singleton.mp h]
          exact m
      · rw [if_neg m]
        refine iteT ⟨_, rfl, q2 i _ hi' ?_ s3⟩
        exact imF_none.mpr ⟨c, ec ▸ List.getElem_mem hi', lk_not m⟩
    · rintro σ H2 ⟨⟨v2, v3, rfl⟩, s2, hk⟩
      rw [sx_size, List.take_length] at hk
      exact q1 _ H2 (imF_look hk) s2
theorem ok_image {f : Addr} {fd : FuncData} (F : Fun K "image" "Misreading.image" s_Misreading_image f fd) (T : Tz K mg CM CJ) : FnOk P w K mg base CX0 1 f fd ["self", "text"] (spImg CM) := by
  refine F.ok sc_Misreading_image (fun vs H Q E h => ?_) (fun cdv A outer s H vs Q E hr h => ?_)
  · obtain ⟨x, u, cs, r, rfl, _⟩ := h
    rfl
  · obtain ⟨x, u, cs, r, rfl, ⟨dx, a, b, c', hx, ha, hb, hc⟩, sm, er, h2, q⟩ := h
    refine ⟨_, (pss_one (ps_ret (pe_joinK (K := K) rfl pe_str (pe_lc (own := [("letter", 2)]) (g := gName 2) (by rfl) sc_Misreading_image.nd (pi_str (pv 1)) (blkOk_by (own := [("letter", 2)]) (N := n_Misreading_image) (sc := defScope s_Misreading_image) (by decide +kernel)) (fun _ _ _ _ _ => (pg_name (i := 2) sc_Misreading_image.nd rfl (.inl rfl))) (fun _ _ _ _ _ => pts_nil) (fun _ _ _ _ _ => (pe_dget (hu_of hr) (pe_fldK (K := K) rfl (pv 0) rfl) (pv 2) (fun _ _ => rfl))))))), ?_⟩
    have hin := imF_keys er
    have e0 := imF_look hin
    rw [e0] at er
    have e1 := Option.some.inj er
    obtain ⟨ss, ess⟩ : ∃ ss, ss = cs.map fun c => (lookT u c).getD [] := ⟨_, rfl⟩
    rw [← ess] at e1
    have hz : ∀ (i : Nat) (hi : i < cs.length), ((ss.map Sx).map V.str)[i]? = some (V.str (Sx ((lookT u cs[i]).getD []))) := fun i hi => by
      rw [ess, List.getElem?_map, List.getElem?_map, List.getElem?_map, List.getElem?_eq_getElem hi]
      rfl
    have hl : ((ss.map Sx).map V.str).length = cs.length := by
      rw [ess, List.length_map, List.length_map, List.length_map]
    refine ⟨⟨_, rfl⟩, _, rfl, Sx cs, rfl, fun D nD => lc_it walk_str (fun i H2 => H2 = upd H D (.lst (((ss.map Sx).map V.str).take i))) rfl (fun _ _ _ _ => trivial) ?_ ?_⟩
    · rintro i z H2 H2' hi rfl ⟨rfl, c, hc0, rfl⟩
      have hc1 := sx_at hc0
      obtain ⟨hi', ec⟩ := List.getElem?_eq_some_iff.mp hc1
      have hm : c ∈ keysOf u := hin c (ec ▸ List.getElem_mem hi')
      obtain ⟨s2, e2⟩ := Option.isSome_iff_exists.mp (keysOf_mem.mp hm).2
      have s1 : Same H (upd H D (.lst (((ss.map Sx).map V.str).take i))) := same_put (s := fun _ _ e => e) nD
      have hz2 := hz i hi'
      rw [ec, e2] at hz2
      refine ⟨rfl, _, rfl, x, CM, dx, _, _, rfl, s1 _ _ hx, T.cl, T.nI, f3_I a b c', _, rfl, b, V.str (Sx s2), rfl, .inl ⟨_, Sum.inr (L1 c), .inl (s1 _ _ hb), rfl, by rw [valV_enc, look_ims_some hm, e2]; rfl⟩, ?_⟩
      refine ⟨_, upd_same, ?_, ?_⟩
      · rw [List.length_take, sizeLine_eq]
        omega
      · rw [upd_upd, List.take_add_one, hz2]
        rfl
    · rintro H2 rfl
      rw [sx_size, List.take_of_length_le (by rw [hl]; exact Nat.le_refl _)]
      refine ⟨Str.empty, D, ss.map Sx, rfl, rfl, .inl (SqL.of upd_same), ?_, ?_⟩
      · have h1 : ((ss.map Sx).map fun x => x.length).sum ≤ _ := sum_le (fun x => x.length) 64 _ fun y hy => by
          obtain ⟨s3, hs3, rfl⟩ := List.mem_map.mp hy
          rw [ess] at hs3
          obtain ⟨c, hc, rfl⟩ := List.mem_map.mp hs3
          obtain ⟨s2, e2⟩ := Option.isSome_iff_exists.mp (keysOf_mem.mp (hin c hc)).2
          rw [Sx_len, e2]
          exact sm c _ (by rw [← lk_look (hin c hc)]; exact e2)
        have h3 : (ss.map Sx).length = cs.length := by
          rw [ess, List.length_map, List.length_map]
        rw [h3] at h1 ⊢
        show _ + _ * 0 ≤ _
        have h4 : 64 * cs.length ≤ 64 * 2000 := Nat.mul_le_mul_left _ h2
        omega
      · rw [join_Sx, e1]
        exact q _ (same_put (s := fun _ _ e => e) nD)
end
end V8
set_option Elab.async false
set_option linter.all false
set_option maxRecDepth 100000
set_option maxHeartbeats 8000000
/-! Joined and Misreadings of it made. -/
set_option Elab.async false
set_option linter.all false
set_option maxRecDepth 100000
set_option maxHeartbeats 8000000
/-! one >> other. -/
namespace V8
open PySem PySem.Spec PyProof.Rows L2
theorem f3_no {a b c : Addr} {m : Str} (h1 : ¬ m = "_letters") (h2 : ¬ m = "_images") (h3 : ¬ m = "changed") : (f3 a b c).lookup m = none := by
  unfold f3 f2 f1
  rw [lookup_putF, if_neg h3, lookup_putF, if_neg h2, lookup_putF, if_neg h1]
  rfl
end V8
set_option Elab.async false
set_option linter.all false
set_option maxRecDepth 100000
set_option maxHeartbeats 8000000
/-! Values of any kind copied. -/
namespace V8
open PySem PySem.Spec PyProof.Rows L2
abbrev s_copied : Stmt := topS 2
abbrev n_copied : List Str := ["value", "part", "key"]
theorem sc_copied : FnScope ["value", "part", "key"] ["value"] (defScope s_copied) := ⟨rfl, rfl, rfl, by decide +kernel, rfl, by decide +kernel, by decide +kernel⟩
theorem valV_at : ∀ {kvs : List (Key × V)} {i : Nat} {k : Key} {v : V}, (kvs.map (·.1)).Nodup → kvs[i]? = some (k, v) → valV kvs k = some v
  | [], i, k, v, _, h => by simp at h
  | p :: r, 0, k, v, _, h => by
    obtain rfl : p = (k, v) := by simpa using h
    simp [valV]
  | p :: r, i + 1, k, v, nd, h => by
    have h2 : r[i]? = some (k, v) := by simpa using h
    have nd2 := List.nodup_cons.mp (by simpa using nd : (p.1 :: r.map (·.1)).Nodup)
    have ne : ¬ p.1 = k := fun z => nd2.1 (z ▸ List.mem_map.mpr ⟨(k, v), List.mem_of_getElem? h2, rfl⟩)
    have ih := valV_at nd2.2 h2
    unfold valV at ih ⊢
    rw [List.find?_cons_of_neg (by simpa using ne)]
    exact ih
theorem not_take {kvs : List (Key × V)} {i : Nat} {k : Key} {v : V} (nd : (kvs.map (·.1)).Nodup) (h : kvs[i]? = some (k, v)) : k ∉ (kvs.take i).map (·.1) := by
  obtain ⟨hi, e⟩ := List.getElem?_eq_some_iff.mp h
  intro z
  rw [← List.take_append_drop i kvs, List.map_append, List.drop_eq_getElem_cons hi, e, List.map_cons] at nd
  exact (List.nodup_append.mp nd).2.2 _ z _ List.mem_cons_self rfl
/-- names that the text does not take -/
structure Tq (mg : Str → Option Value) : Prop extends Blt mg where
  isinstance : mg "isinstance" = none
  repr : mg "repr" = none
  enumerate : mg "enumerate" = none
/-- no list, tuple, dict, object -/
def Flat (x : V) : Prop := (∃ z, x = .str z) ∨ (∃ i, x = .int i) ∨ x = .non ∨ ∃ b, x = .bl b
theorem Flat.ty {K : PySem.W.Frag} {x : V} (f : Flat x) : ∃ t, (∀ H : Hp, TyX K H x t) ∧ PySem.W.kitOne K t (.type "list") = some false ∧ PySem.W.kitOne K t (.type "tuple") = some false ∧ PySem.W.kitOne K t (.type "dict") = some false := by
  rcases f with ⟨z, rfl⟩ | ⟨i, rfl⟩ | rfl | ⟨b, rfl⟩
  · exact ⟨_, fun _ => ty_str _, kit_ty (by decide +kernel), kit_ty (by decide +kernel), kit_ty (by decide +kernel)⟩
  · exact ⟨_, fun _ => .base (.int i), kit_ty (by decide +kernel), kit_ty (by decide +kernel), kit_ty (by decide +kernel)⟩
  · exact ⟨_, fun _ => .base .non, kit_ty (by decide +kernel), kit_ty (by decide +kernel), kit_ty (by decide +kernel)⟩
  · exact ⟨_, fun _ => .base (.bl b), kit_ty (by decide +kernel), kit_ty (by decide +kernel), kit_ty (by decide +kernel)⟩
theorem Flat.pyw {H H2 : Hp} {x : V} {d : PyData} (f : Flat x) (p : PyW H x d) : PyW H2 x d := by
  rcases f with ⟨z, rfl⟩ | ⟨i, rfl⟩ | rfl | ⟨b, rfl⟩ <;> cases p <;> constructor
theorem flats_pyw {H H2 : Hp} : ∀ {xs : List V} {ds : List PyData}, (∀ y ∈ xs, Flat y) → PyWs H xs ds → PyWs H2 xs ds
  | _, _, _, .nil => .nil
  | _, _, f, .cons h r => .cons ((f _ (List.mem_cons_self ..)).pyw h) (flats_pyw (fun y hy => f y (List.mem_cons_of_mem _ hy)) r)
/-- a flat value is handed back as it is -/
def spCopied (K : PySem.W.Frag) : Sp := fun vs H Q _ => ∃ (x : V) (t : Value), vs = [x] ∧ TyX K H x t ∧ PySem.W.kitOne K t (.type "list") = some false ∧ PySem.W.kitOne K t (.type "tuple") = some false ∧ PySem.W.kitOne K t (.type "dict") = some false ∧ Q x H
/-- flat, or a tuple, list or dict of such -/
def Told2 (H : Hp) (x : V) : Prop := Flat x ∨ (∃ a xs, x = .ref a ∧ (H a = some (.tup xs) ∨ H a = some (.lst xs)) ∧ xs.length ≤ 100 ∧ ∀ y ∈ xs, Flat y) ∨ ∃ a kvs, x = .ref a ∧ H a = some (.dK kvs) ∧ kvs.length ≤ 15 ∧ (kvs.map (·.1)).Nodup ∧ ∀ y ∈ kvs.map (·.2), Flat y
theorem Told2.same {H H2 : Hp} {x : V} (t : Told2 H x) (s : Same H H2) : Told2 H2 x := by
  rcases t with f | ⟨a, xs, e, h, l, g⟩ | ⟨a, kvs, e, h, l, n, g⟩
  · exact .inl f
  · exact .inr (.inl ⟨a, xs, e, h.imp (s _ _) (s _ _), l, g⟩)
  · exact .inr (.inr ⟨a, kvs, e, s _ _ h, l, n, g⟩)
theorem putK_new {kvs : List (Key × V)} {k : Key} {v : V} (h : k ∉ kvs.map (·.1)) : putK kvs k v = kvs ++ [(k, v)] := by
  unfold putK
  rw [if_neg]
  intro z
  obtain ⟨p, hp, e⟩ := List.any_eq_true.mp z
  have e2 : p.1 = k := by simpa using e
  exact h (e2 ▸ List.mem_map.mpr ⟨p, hp, rfl⟩)
def spCopyW : Sp := fun vs H Q _ => ∃ (x : V) (d : PyData), vs = [x] ∧ Told2 H x ∧ PyW H x d ∧ ∀ y H', Same H H' → PyW H' y d → Q y H'
section
variable {P : Program} {w : World} {K : PySem.W.Frag} {mg : Str → Option Value} {base : Heap}
theorem ok_copied {f : Addr} {fd : FuncData} (F : Fun K "copied" "copied" s_copied f fd) (T : Tq mg) (D_copied : Df P w K mg base 0 "copied" fun _ _ _ _ => False) : FnOk P w K mg base CX0 1 f fd ["value"] (spCopied K) := by
  refine F.ok sc_copied (fun vs H Q E h => ?_) (fun cdv A outer s H vs Q E hr h => ?_)
  · obtain ⟨x, t, rfl, _⟩ := h
    rfl
  · obtain ⟨x, t, rfl, ty, e1, e2, e3, q⟩ := h
    refine ⟨_, (pss_cons (ps_if (pt_val (pe_callB call_isi (by rfl) T.isinstance (by decide +kernel) (pa_cons (pv 0) (pa_cons (pe_bltn (v := .ty "list") (by rfl) T.list (by decide +kernel) rfl) pa_nil))))
        (pss_one (ps_ret (pe_lc (own := [("part", 1)]) (g := gName 1) (by rfl) sc_copied.nd (pi_list (pv 0)) (blkOk_by (own := [("part", 1)]) (N := n_copied) (sc := defScope s_copied) (by decide +kernel)) (fun _ _ _ _ _ => (pg_name (i := 1) sc_copied.nd rfl (.inl rfl))) (fun _ _ _ _ _ => pts_nil) (fun _ _ _ _ _ => (pe_c D_copied hr (by decide) (by rfl) (pa_cons (pv 1) pa_nil))))))
        pss_nil)
      (pss_cons (ps_if (pt_val (pe_callB call_isi (by rfl) T.isinstance (by decide +kernel) (pa_cons (pv 0) (pa_cons (pe_bltn (v := .ty "tuple") (by rfl) T.tuple (by decide +kernel) rfl) pa_nil))))
        (pss_one (ps_ret (pe_callTy (call_tuple_ofK (K := K) rfl) (by rfl) T.tuple (by decide +kernel) (pa_cons (pe_lc (own := [("part", 1)]) (g := gName 1) (by rfl) sc_copied.nd (pi_tup (pv 0)) (blkOk_by (own := [("part", 1)]) (N := n_copied) (sc := defScope s_copied) (by decide +kernel)) (fun _ _ _ _ _ => (pg_name (i := 1) sc_copied.nd rfl (.inl rfl))) (fun _ _ _ _ _ => pts_nil) (fun _ _ _ _ _ => (pe_c D_copied hr (by decide) (by rfl) (pa_cons (pv 1) pa_nil)))) pa_nil))))
        pss_nil)
      (pss_cons (ps_if (pt_val (pe_callB call_isi (by rfl) T.isinstance (by decide +kernel) (pa_cons (pv 0) (pa_cons (pe_bltn (v := .ty "dict") (by rfl) T.dict (by decide +kernel) rfl) pa_nil))))
        (pss_one (ps_ret (pe_lock (pe_dc (own := [("key", 2)]) (g := gName 2) (by rfl) sc_copied.nd (pi_keys (pv 0)) (blkOk_by (own := [("key", 2)]) (N := n_copied) (sc := defScope s_copied) (by decide +kernel)) (fun _ _ _ _ _ => (pg_name (i := 2) sc_copied.nd rfl (.inl rfl))) (fun _ _ _ _ _ => pts_nil) (fun _ _ _ _ _ => (pv 2)) (fun _ _ _ _ _ => (pe_c D_copied hr (by decide) (by rfl) (pa_cons (pe_dget (hu_of hr) (pv 0) (pv 2) (fun _ _ => rfl)) pa_nil)))))))
        pss_nil)
      (pss_one (ps_ret (pv 0)))))), ?_⟩
    refine ⟨_, rfl, _, .ty "list", t, .type "list", false, rfl, .ty _, ty, e1, false, rfl, iteF ?_⟩
    refine ⟨_, rfl, _, .ty "tuple", t, .type "tuple", false, rfl, .ty _, ty, e2, false, rfl, iteF ?_⟩
    refine ⟨_, rfl, _, .ty "dict", t, .type "dict", false, rfl, .ty _, ty, e3, false, rfl, iteF ?_⟩
    exact ⟨_, rfl, q⟩
theorem ok_copyW {f : Addr} {fd : FuncData} (F : Fun K "copied" "copied" s_copied f fd) (T : Tq mg) (D_copied : Df P w K mg base 1 "copied" (spCopied K)) : FnOk P w K mg base CX0 2 f fd ["value"] spCopyW := by
  refine F.ok sc_copied (fun vs H Q E h => ?_) (fun cdv A outer s H vs Q E hr h => ?_)
  · obtain ⟨x, d, rfl, _⟩ := h
    rfl
  · obtain ⟨x, d, rfl, tl, pv0, q⟩ := h
    refine ⟨_, (pss_cons (ps_if (pt_val (pe_callB call_isi (by rfl) T.isinstance (by decide +kernel) (pa_cons (pv 0) (pa_cons (pe_bltn (v := .ty "list") (by rfl) T.list (by decide +kernel) rfl) pa_nil))))
        (pss_one (ps_ret (pe_lc (own := [("part", 1)]) (g := gName 1) (by rfl) sc_copied.nd (pi_list (pv 0)) (blkOk_by (own := [("part", 1)]) (N := n_copied) (sc := defScope s_copied) (by decide +kernel)) (fun _ _ _ _ _ => (pg_name (i := 1) sc_copied.nd rfl (.inl rfl))) (fun _ _ _ _ _ => pts_nil) (fun _ _ _ _ _ => (pe_c D_copied hr (by decide) (by rfl) (pa_cons (pv 1) pa_nil))))))
        pss_nil)
      (pss_cons (ps_if (pt_val (pe_callB call_isi (by rfl) T.isinstance (by decide +kernel) (pa_cons (pv 0) (pa_cons (pe_bltn (v := .ty "tuple") (by rfl) T.tuple (by decide +kernel) rfl) pa_nil))))
        (pss_one (ps_ret (pe_callTy (call_tuple_ofK (K := K) rfl) (by rfl) T.tuple (by decide +kernel) (pa_cons (pe_lc (own := [("part", 1)]) (g := gName 1) (by rfl) sc_copied.nd (pi_tup (pv 0)) (blkOk_by (own := [("part", 1)]) (N := n_copied) (sc := defScope s_copied) (by decide +kernel)) (fun _ _ _ _ _ => (pg_name (i := 1) sc_copied.nd rfl (.inl rfl))) (fun _ _ _ _ _ => pts_nil) (fun _ _ _ _ _ => (pe_c D_copied hr (by decide) (by rfl) (pa_cons (pv 1) pa_nil)))) pa_nil))))
        pss_nil)
      (pss_cons (ps_if (pt_val (pe_callB call_isi (by rfl) T.isinstance (by decide +kernel) (pa_cons (pv 0) (pa_cons (pe_bltn (v := .ty "dict") (by rfl) T.dict (by decide +kernel) rfl) pa_nil))))
        (pss_one (ps_ret (pe_lock (pe_dc (own := [("key", 2)]) (g := gName 2) (by rfl) sc_copied.nd (pi_keys (pv 0)) (blkOk_by (own := [("key", 2)]) (N := n_copied) (sc := defScope s_copied) (by decide +kernel)) (fun _ _ _ _ _ => (pg_name (i := 2) sc_copied.nd rfl (.inl rfl))) (fun _ _ _ _ _ => pts_nil) (fun _ _ _ _ _ => (pv 2)) (fun _ _ _ _ _ => (pe_c D_copied hr (by decide) (by rfl) (pa_cons (pe_dget (hu_of hr) (pv 0) (pv 2) (fun _ _ => rfl)) pa_nil)))))))
        pss_nil)
      (pss_one (ps_ret (pv 0)))))), ?_⟩
    rcases tl with f | ⟨a, xs, rfl, ha | ha, l, fl⟩ | ⟨a, kvs, rfl, ha, l, nd, fl⟩
    · obtain ⟨t, ty, e1, e2, e3⟩ := f.ty (K := K)
      refine ⟨_, rfl, _, .ty "list", t, .type "list", false, rfl, .ty _, ty _, e1, false, rfl, iteF ?_⟩
      refine ⟨_, rfl, _, .ty "tuple", t, .type "tuple", false, rfl, .ty _, ty _, e2, false, rfl, iteF ?_⟩
      refine ⟨_, rfl, _, .ty "dict", t, .type "dict", false, rfl, .ty _, ty _, e3, false, rfl, iteF ?_⟩
      exact ⟨_, rfl, q _ _ (Same.refl H) pv0⟩
    · refine ⟨_, rfl, _, .ty "list", .type "tuple", .type "list", false, rfl, .ty _, .base (.tup ha), kit_ty (by decide +kernel), false, rfl, iteF ?_⟩
      refine ⟨_, rfl, _, .ty "tuple", .type "tuple", .type "tuple", true, rfl, .ty _, .base (.tup ha), kit_ty (by decide +kernel), true, rfl, iteT ?_⟩
      refine ⟨_, rfl, a, rfl, ⟨_, .inl (.inl ha)⟩, fun D nD => lc_it (walk_tup (K := K) (a := a) (xs := xs)) (fun i H2 => H2 = upd H D (.lst (xs.take i))) rfl ?_ ?_ ?_⟩
      · rintro i H2 hi rfl
        exact .inl (.inl (by rw [upd_ne (ne_of_none ha nD)]; exact ha))
      · rintro i y H2 H3 hi rfl ⟨rfl, hy⟩
        obtain ⟨hi', ey⟩ := List.getElem?_eq_some_iff.mp hy
        obtain ⟨t, ty, e1, e2, e3⟩ := (fl y (ey ▸ List.getElem_mem hi')).ty (K := K)
        refine ⟨rfl, _, rfl, y, t, rfl, ty _, e1, e2, e3, _, upd_same, ?_, ?_⟩
        · rw [List.length_take, sizeLine_eq]
          omega
        · rw [upd_upd, List.take_add_one, hy]
          rfl
      · rintro H2 rfl
        rw [List.take_length]
        refine ⟨D, xs, rfl, .inl ⟨SqL.of upd_same, fun b nb => ?_⟩⟩
        cases pv0 with
        | tup h r =>
          rw [ha] at h
          cases h
          exact q _ _ (same_put (s := same_put (s := Same.refl H) nD) nb) (.tup upd_same (flats_pyw fl r))
        | lst h r =>
          rw [ha] at h
          cases h
        | dic h r =>
          rw [ha] at h
          cases h
    · refine ⟨_, rfl, _, .ty "list", .type "list", .type "list", true, rfl, .ty _, .base (.lst ha), kit_ty (by decide +kernel), true, rfl, iteT ?_⟩
      refine ⟨_, rfl, a, rfl, ⟨_, SqL.of ha⟩, fun D nD => lc_it (walk_list (K := K) (a := a) (xs := xs)) (fun i H2 => H2 = upd H D (.lst (xs.take i))) rfl ?_ ?_ ?_⟩
      · rintro i H2 hi rfl
        exact SqL.of (by rw [upd_ne (ne_of_none ha nD)]; exact ha)
      · rintro i y H2 H3 hi rfl ⟨rfl, hy⟩
        obtain ⟨hi', ey⟩ := List.getElem?_eq_some_iff.mp hy
        obtain ⟨t, ty, e1, e2, e3⟩ := (fl y (ey ▸ List.getElem_mem hi')).ty (K := K)
        refine ⟨rfl, _, rfl, y, t, rfl, ty _, e1, e2, e3, _, upd_same, ?_, ?_⟩
        · rw [List.length_take, sizeLine_eq]
          omega
        · rw [upd_upd, List.take_add_one, hy]
          rfl
      · rintro H2 rfl
        rw [List.take_length]
        cases pv0 with
        | tup h r =>
          rw [ha] at h
          cases h
        | lst h r =>
          rw [ha] at h
          cases h
          exact q _ _ (same_put (s := Same.refl H) nD) (.lst upd_same (flats_pyw fl r))
        | dic h r =>
          rw [ha] at h
          cases h
    · refine ⟨_, rfl, _, .ty "list", .type "dict", .type "list", false, rfl, .ty _, .base (.dK ha), kit_ty (by decide +kernel), false, rfl, iteF ?_⟩
      refine ⟨_, rfl, _, .ty "tuple", .type "dict", .type "tuple", false, rfl, .ty _, .base (.dK ha), kit_ty (by decide +kernel), false, rfl, iteF ?_⟩
      refine ⟨_, rfl, _, .ty "dict", .type "dict", .type "dict", true, rfl, .ty _, .base (.dK ha), kit_ty (by decide +kernel), true, rfl, iteT ?_⟩
      refine ⟨a, _, ha, True.intro, fun od => ⟨_, rfl, a, od, rfl, .inl ⟨_, upd_same, fun D nD => dc_it (walk_keys (d := a) (o := od) (kvs := kvs)) (fun i H2 => H2 = upd (upd H a (.frz od (.dK kvs))) D (.dK (kvs.take i))) rfl ?_ ?_ ?_⟩⟩⟩
      · rintro i H2 hi rfl
        rw [upd_ne (ne_of_none upd_same nD)]
        exact upd_same
      · rintro i x H2 H3 hi rfl ⟨rfl, k, v, hk, rfl⟩
        obtain ⟨hi', ek⟩ := List.getElem?_eq_some_iff.mp hk
        obtain ⟨t, ty, e1, e2, e3⟩ := (fl v (List.mem_map.mpr ⟨(k, v), ek ▸ List.getElem_mem hi', rfl⟩)).ty (K := K)
        have ad : a ≠ D := ne_of_none (show upd H a (.frz od (.dK kvs)) a = _ from upd_same) nD
        refine ⟨rfl, _, rfl, _, rfl, _, rfl, a, v, rfl, .inl ⟨kvs, k, .inr ⟨od, by rw [upd_ne ad]; exact upd_same⟩, rfl, (valV_at nd hk).symm⟩, v, t, rfl, ty _, e1, e2, e3, kvs.take i, k, rfl, upd_same, ?_, ?_⟩
        · rw [List.length_take, sizeLine_eq]
          omega
        · rw [upd_upd, putK_new (not_take nd hk), List.take_add_one, hk]
          rfl
      · rintro H2 rfl
        rw [List.take_length]
        have ad : a ≠ D := ne_of_none (show upd H a (.frz od (.dK kvs)) a = _ from upd_same) nD
        have nD2 : H D = none := by
          rw [upd_ne (Ne.symm ad)] at nD
          exact nD
        have eH : upd (upd (upd H a (.frz od (.dK kvs))) D (.dK kvs)) a (.dK kvs) = upd H D (.dK kvs) := by
          funext b
          by_cases h1 : b = a
          · rw [h1, upd_same, upd_ne ad, ha]
          · by_cases h2 : b = D
            · rw [h2, upd_ne (Ne.symm ad), upd_same, upd_same]
            · rw [upd_ne h1, upd_ne h2, upd_ne h1, upd_ne h2]
        refine ⟨by rw [upd_ne ad]; exact upd_same, ?_⟩
        rw [eH]
        cases pv0 with
        | tup h r =>
          rw [ha] at h
          cases h
        | lst h r =>
          rw [ha] at h
          cases h
        | dic h r =>
          rw [ha] at h
          cases h
          exact q _ _ (same_put (s := Same.refl H) nD2) (.dic upd_same (flats_pyw fl r))
end
end V8
set_option Elab.async false
set_option linter.all false
/-! Meetings of two lists of words with labels, and words told apart: no program yet. -/
namespace MZ
abbrev Wd := List Nat
/-- a word and its label -/
abbrev Pr := Wd × Nat
def cat (xs : List Pr) : Wd := (xs.map (·.1)).flatten
def lab (xs : List Pr) : List Nat := xs.map (·.2)
theorem cat_nil : cat [] = [] := rfl
theorem cat_cons (x : Pr) (xs : List Pr) : cat (x :: xs) = x.1 ++ cat xs := rfl
theorem cat_app (xs ys : List Pr) : cat (xs ++ ys) = cat xs ++ cat ys := by
  unfold cat
  rw [List.map_append, List.flatten_append]
theorem lab_app (xs ys : List Pr) : lab (xs ++ ys) = lab xs ++ lab ys := List.map_append ..
theorem cat_one (x : Pr) : cat [x] = x.1 := by rw [cat_cons, cat_nil, List.append_nil]
/-- where a row comes to, or the start, or the end -/
inductive Pl where
  | start
  | fin
  | rest (one : Bool) (w : Wd)
  deriving DecidableEq
/-- where the row that is not ahead comes to with a word -/
def behind (a : Bool) (r w : Wd) : Option Pl :=
  if w = r then some .fin
  else if w.isPrefixOf r then some (.rest a (r.drop w.length))
  else if r.isPrefixOf w then some (.rest (!a) (w.drop r.length))
  else none
/-- a step: who takes, its label, where to -/
abbrev Mo := Bool × Nat × Pl
def moves (P S : List Pr) : Pl → List Mo
  | .fin => []
  | .start => P.map fun q => (true, q.2, .rest true q.1)
  | .rest a r => (if a = true then S else P).filterMap fun q => (behind a r q.1).map fun t => (!a, q.2, t)
/-- the labels of both rows with one more -/
def put (t : Bool) (l : Nat) (w : List Nat × List Nat) : List Nat × List Nat := if t = true then (w.1 ++ [l], w.2) else (w.1, w.2 ++ [l])
/-- a way from a place to another one, with its labels behind some -/
inductive Way (P S : List Pr) (o : Pl) : Pl → List Nat × List Nat → Prop where
  | nil : Way P S o o ([], [])
  | step {p : Pl} {w : List Nat × List Nat} {t : Bool} {l : Nat} {q : Pl} : Way P S o p w → (t, l, q) ∈ moves P S p → Way P S o q (put t l w)
theorem behind_cases {a : Bool} {r w : Wd} {t : Pl} (h : behind a r w = some t) : (w = r ∧ t = .fin) ∨ (∃ z, z ≠ [] ∧ r = w ++ z ∧ t = .rest a z) ∨ ∃ z, z ≠ [] ∧ w = r ++ z ∧ t = .rest (!a) z := by
  unfold behind at h
  split at h
  · exact .inl ⟨by assumption, (Option.some.inj h).symm⟩
  · rename_i ne
    split at h
    · rename_i p
      obtain ⟨z, rfl⟩ := List.isPrefixOf_iff_prefix.mp p
      refine .inr (.inl ⟨z, fun e => ?_, rfl, ?_⟩)
      · subst e
        exact ne (List.append_nil _).symm
      · rw [← Option.some.inj h, List.drop_left]
    · split at h
      · rename_i p
        obtain ⟨z, rfl⟩ := List.isPrefixOf_iff_prefix.mp p
        refine .inr (.inr ⟨z, fun e => ?_, rfl, ?_⟩)
        · subst e
          exact ne (List.append_nil _)
        · rw [← Option.some.inj h, List.drop_left]
      · cases h
theorem behind_eq (a : Bool) (r : Wd) : behind a r r = some .fin := if_pos rfl
theorem behind_lt (a : Bool) {r w z : Wd} (h : r = w ++ z) (hz : z ≠ []) : behind a r w = some (.rest a z) := by
  subst h
  unfold behind
  rw [if_neg, if_pos (List.isPrefixOf_iff_prefix.mpr ⟨z, rfl⟩), List.drop_left]
  intro e
  exact hz (List.append_cancel_left ((List.append_nil w).trans e)).symm
theorem behind_gt (a : Bool) {r w z : Wd} (h : w = r ++ z) (hz : z ≠ []) : behind a r w = some (.rest (!a) z) := by
  subst h
  unfold behind
  rw [if_neg, if_neg, if_pos (List.isPrefixOf_iff_prefix.mpr ⟨z, rfl⟩), List.drop_left]
  · intro p
    obtain ⟨y, e⟩ := List.isPrefixOf_iff_prefix.mp p
    rw [List.append_assoc] at e
    have e2 := List.append_cancel_left (e.trans (List.append_nil r).symm)
    exact hz (List.append_eq_nil_iff.mp e2).1
  · intro e
    exact hz (List.append_cancel_left (e.trans (List.append_nil r).symm))
/-- what stands at a place: the rows' texts so far -/
def At (p : Pl) (x y : Wd) : Prop := match p with
  | .start => x = [] ∧ y = []
  | .fin => x = y
  | .rest true r => x = y ++ r
  | .rest false r => y = x ++ r
/-- the words behind the labels of a way -/
theorem way_words {P S : List Pr} {p : Pl} {w : List Nat × List Nat} (h : Way P S .start p w) : ∃ xs ys, (∀ x ∈ xs, x ∈ P) ∧ (∀ y ∈ ys, y ∈ S) ∧ lab xs = w.1 ∧ lab ys = w.2 ∧ At p (cat xs) (cat ys) := by
  induction h with
  | nil => exact ⟨[], [], by simp, by simp, rfl, rfl, rfl, rfl⟩
  | @step p w t l q h m ih =>
    obtain ⟨xs, ys, hx, hy, lx, ly, at_⟩ := ih
    cases p with
    | fin => cases m
    | start =>
      obtain ⟨x, hxP, e⟩ := List.mem_map.mp m
      cases e
      obtain ⟨e1, e2⟩ := at_
      refine ⟨xs ++ [x], ys, fun z hz => ?_, hy, by rw [lab_app, lx]; rfl, ly, ?_⟩
      · rcases List.mem_append.mp hz with h | h
        · exact hx z h
        · rw [List.mem_singleton.mp h]
          exact hxP
      · show cat (xs ++ [x]) = cat ys ++ x.1
        rw [cat_app, e1, e2, cat_one]
    | rest a r =>
      obtain ⟨z, hz, e⟩ := List.mem_filterMap.mp m
      obtain ⟨q', eb, e2⟩ := Option.map_eq_some_iff.mp e
      cases e2
      cases a with
      | true =>
        have hz : z ∈ S := hz
        have at_ : cat xs = cat ys ++ r := at_
        refine ⟨xs, ys ++ [z], hx, fun y hy2 => ?_, lx, by rw [lab_app, ly]; rfl, ?_⟩
        · rcases List.mem_append.mp hy2 with h | h
          · exact hy y h
          · rw [List.mem_singleton.mp h]
            exact hz
        · rw [cat_app, cat_one]
          rcases behind_cases eb with ⟨e3, rfl⟩ | ⟨v, _, e3, rfl⟩ | ⟨v, _, e3, rfl⟩
          · show cat xs = _
            rw [at_, e3]
          · show cat xs = _ ++ v
            rw [at_, e3, List.append_assoc]
          · show _ = cat xs ++ v
            rw [at_, e3, List.append_assoc]
      | false =>
        have hz : z ∈ P := hz
        have at_ : cat ys = cat xs ++ r := at_
        refine ⟨xs ++ [z], ys, fun y hy2 => ?_, hy, by rw [lab_app, lx]; rfl, ly, ?_⟩
        · rcases List.mem_append.mp hy2 with h | h
          · exact hx y h
          · rw [List.mem_singleton.mp h]
            exact hz
        · rw [cat_app, cat_one]
          rcases behind_cases eb with ⟨e3, rfl⟩ | ⟨v, _, e3, rfl⟩ | ⟨v, _, e3, rfl⟩
          · show _ = cat ys
            rw [at_, e3]
          · show cat ys = _ ++ v
            rw [at_, e3, List.append_assoc]
          · show _ = cat ys ++ v
            rw [at_, e3, List.append_assoc]
theorem Way.trans {P S : List Pr} {o p q : Pl} {w v : List Nat × List Nat} (h : Way P S o p w) (k : Way P S p q v) : Way P S o q (w.1 ++ v.1, w.2 ++ v.2) := by
  induction k with
  | nil =>
    rw [List.append_nil, List.append_nil]
    exact h
  | @step r v t l q k m ih =>
    have z := ih.step m
    cases t with
    | true =>
      have e : put true l (w.1 ++ v.1, w.2 ++ v.2) = (w.1 ++ (put true l v).1, w.2 ++ (put true l v).2) := by
        show ((w.1 ++ v.1) ++ [l], _) = (w.1 ++ (v.1 ++ [l]), _)
        rw [List.append_assoc]
        rfl
      exact e ▸ z
    | false =>
      have e : put false l (w.1 ++ v.1, w.2 ++ v.2) = (w.1 ++ (put false l v).1, w.2 ++ (put false l v).2) := by
        show (_, (w.2 ++ v.2) ++ [l]) = (_, w.2 ++ (v.2 ++ [l]))
        rw [List.append_assoc]
        rfl
      exact e ▸ z
/-- from a rest on: the rows' words lead to the end, if what is ahead is taken up -/
theorem way_on {P S : List Pr} (hP : ∀ q ∈ P, q.1 ≠ []) (hS : ∀ q ∈ S, q.1 ≠ []) : ∀ (n : Nat) (a : Bool) (r : Wd) (xs ys : List Pr), xs.length + ys.length ≤ n → r ≠ [] → (∀ x ∈ xs, x ∈ P) → (∀ y ∈ ys, y ∈ S) → (if a = true then r ++ cat xs = cat ys else r ++ cat ys = cat xs) →
    ∃ xs1 xs2 ys1 ys2, xs = xs1 ++ xs2 ∧ ys = ys1 ++ ys2 ∧ Way P S (.rest a r) .fin (lab xs1, lab ys1) ∧ cat xs2 = cat ys2
  | 0, a, r, xs, ys, hn, hr, hx, hy, e => by
    have e1 : xs = [] := List.eq_nil_of_length_eq_zero (by omega)
    have e2 : ys = [] := List.eq_nil_of_length_eq_zero (by omega)
    subst e1 e2
    cases a with
    | true =>
      have e : r ++ [] = [] := e
      rw [List.append_nil] at e
      exact absurd e hr
    | false =>
      have e : r ++ [] = [] := e
      rw [List.append_nil] at e
      exact absurd e hr
  | n + 1, true, r, xs, ys, hn, hr, hx, hy, e => by
    have e : r ++ cat xs = cat ys := e
    cases ys with
    | nil =>
      rw [cat_nil] at e
      exact absurd (List.append_eq_nil_iff.mp e).1 hr
    | cons y ys =>
      rw [cat_cons] at e
      have hyS := hy y List.mem_cons_self
      have hys := fun z hz => hy z (List.mem_cons_of_mem _ hz)
      rw [List.length_cons] at hn
      have mv : ∀ {t : Pl}, behind true r y.1 = some t → (false, y.2, t) ∈ moves P S (.rest true r) := fun {t} h => List.mem_filterMap.mpr ⟨y, hyS, by rw [h]; rfl⟩
      rcases List.append_eq_append_iff.mp e with ⟨z, e1, e2⟩ | ⟨z, e1, e2⟩
      · -- y.1 = r ++ z
        by_cases hz : z = []
        · subst hz
          rw [List.append_nil] at e1
          refine ⟨[], xs, [y], ys, rfl, rfl, ?_, by rw [e2]; rfl⟩
          have h := Way.step (P := P) (S := S) (.nil (o := .rest true r)) (mv (by rw [e1]; exact behind_eq true r))
          exact h
        · obtain ⟨x1, x2, y1, y2, ex, ey, k, e3⟩ := way_on hP hS n false z xs ys (by omega) hz hx hys (by show z ++ cat ys = cat xs; exact e2.symm)
          refine ⟨x1, x2, y :: y1, y2, ex, by rw [ey]; rfl, ?_, e3⟩
          have h := (Way.step (P := P) (S := S) (.nil (o := .rest true r)) (mv (behind_gt true e1 hz))).trans k
          exact h
      · -- r = y.1 ++ z
        by_cases hz : z = []
        · subst hz
          rw [List.append_nil] at e1
          refine ⟨[], xs, [y], ys, rfl, rfl, ?_, e2.symm⟩
          have h := Way.step (P := P) (S := S) (.nil (o := .rest true r)) (mv (by rw [← e1]; exact behind_eq true r))
          exact h
        · obtain ⟨x1, x2, y1, y2, ex, ey, k, e3⟩ := way_on hP hS n true z xs ys (by omega) hz hx hys (by show z ++ cat xs = cat ys; exact e2.symm)
          refine ⟨x1, x2, y :: y1, y2, ex, by rw [ey]; rfl, ?_, e3⟩
          have h := (Way.step (P := P) (S := S) (.nil (o := .rest true r)) (mv (behind_lt true e1 hz))).trans k
          exact h
  | n + 1, false, r, xs, ys, hn, hr, hx, hy, e => by
    have e : r ++ cat ys = cat xs := e
    cases xs with
    | nil =>
      rw [cat_nil] at e
      exact absurd (List.append_eq_nil_iff.mp e).1 hr
    | cons x xs =>
      rw [cat_cons] at e
      have hxP := hx x List.mem_cons_self
      have hxs := fun z hz => hx z (List.mem_cons_of_mem _ hz)
      rw [List.length_cons] at hn
      have mv : ∀ {t : Pl}, behind false r x.1 = some t → (true, x.2, t) ∈ moves P S (.rest false r) := fun {t} h => List.mem_filterMap.mpr ⟨x, hxP, by rw [h]; rfl⟩
      rcases List.append_eq_append_iff.mp e with ⟨z, e1, e2⟩ | ⟨z, e1, e2⟩
      · by_cases hz : z = []
        · subst hz
          rw [List.append_nil] at e1
          refine ⟨[x], xs, [], ys, rfl, rfl, ?_, by rw [e2]; rfl⟩
          have h := Way.step (P := P) (S := S) (.nil (o := .rest false r)) (mv (by rw [e1]; exact behind_eq false r))
          exact h
        · obtain ⟨x1, x2, y1, y2, ex, ey, k, e3⟩ := way_on hP hS n true z xs ys (by omega) hz hxs hy (by show z ++ cat xs = cat ys; exact e2.symm)
          refine ⟨x :: x1, x2, y1, y2, by rw [ex]; rfl, ey, ?_, e3⟩
          have h := (Way.step (P := P) (S := S) (.nil (o := .rest false r)) (mv (behind_gt false e1 hz))).trans k
          exact h
      · by_cases hz : z = []
        · subst hz
          rw [List.append_nil] at e1
          refine ⟨[x], xs, [], ys, rfl, rfl, ?_, e2⟩
          have h := Way.step (P := P) (S := S) (.nil (o := .rest false r)) (mv (by rw [← e1]; exact behind_eq false r))
          exact h
        · obtain ⟨x1, x2, y1, y2, ex, ey, k, e3⟩ := way_on hP hS n false z xs ys (by omega) hz hxs hy (by show z ++ cat ys = cat xs; exact e2.symm)
          refine ⟨x :: x1, x2, y1, y2, by rw [ex]; rfl, ey, ?_, e3⟩
          have h := (Way.step (P := P) (S := S) (.nil (o := .rest false r)) (mv (behind_lt false e1 hz))).trans k
          exact h
/-- all meetings are alike -/
def Alike (P S : List Pr) : Prop := ∀ w, Way P S .start .fin w → w.1 = w.2
/-- the words tell the labels -/
def Uni (P S : List Pr) : Prop := ∀ xs ys : List Pr, (∀ x ∈ xs, x ∈ P) → (∀ y ∈ ys, y ∈ S) → cat xs = cat ys → lab xs = lab ys
theorem cat_empty {ys : List Pr} (h : ∀ y ∈ ys, y.1 ≠ []) (e : cat ys = []) : ys = [] := by
  cases ys with
  | nil => rfl
  | cons y ys =>
    rw [cat_cons] at e
    exact absurd (List.append_eq_nil_iff.mp e).1 (h y List.mem_cons_self)
theorem uni_of {P S : List Pr} (hP : ∀ q ∈ P, q.1 ≠ []) (hS : ∀ q ∈ S, q.1 ≠ []) (h : Alike P S) : ∀ (n : Nat) (xs ys : List Pr), xs.length + ys.length ≤ n → (∀ x ∈ xs, x ∈ P) → (∀ y ∈ ys, y ∈ S) → cat xs = cat ys → lab xs = lab ys
  | n, [], ys, hn, hx, hy, e => by
    have e2 : ys = [] := cat_empty (fun y m => hS y (hy y m)) e.symm
    rw [e2]
  | 0, x :: xs, ys, hn, hx, hy, e => by
    rw [List.length_cons] at hn
    omega
  | n + 1, x :: xs, ys, hn, hx, hy, e => by
    have hxP := hx x List.mem_cons_self
    have hxs := fun z hz => hx z (List.mem_cons_of_mem _ hz)
    rw [cat_cons] at e
    obtain ⟨x1, x2, y1, y2, ex, ey, k, e2⟩ := way_on hP hS (xs.length + ys.length) true x.1 xs ys (Nat.le_refl _) (hP x hxP) hxs hy (by show x.1 ++ cat xs = cat ys; exact e)
    have h0 : Way P S .start (.rest true x.1) ([x.2], []) := Way.step (P := P) (S := S) (.nil (o := .start)) (t := true) (l := x.2) (q := .rest true x.1) (List.mem_map.mpr ⟨x, hxP, rfl⟩)
    have e3 : [x.2] ++ lab x1 = [] ++ lab y1 := h _ (h0.trans k)
    have hl : x1.length + x2.length = xs.length := by rw [ex, List.length_append]
    have hl2 : y1.length + y2.length = ys.length := by rw [ey, List.length_append]
    rw [List.length_cons] at hn
    have ih := uni_of hP hS h n x2 y2 (by omega) (fun z m => hxs z (by rw [ex]; exact List.mem_append_right _ m)) (fun z m => hy z (by rw [ey]; exact List.mem_append_right _ m)) e2
    show x.2 :: lab xs = lab ys
    rw [ex, ey, lab_app, lab_app, ih]
    show ([x.2] ++ lab x1) ++ _ = _
    rw [e3]
    rfl
theorem alike_iff {P S : List Pr} (hP : ∀ q ∈ P, q.1 ≠ []) (hS : ∀ q ∈ S, q.1 ≠ []) : Alike P S ↔ Uni P S := by
  constructor
  · exact fun h xs ys hx hy e => uni_of hP hS h (xs.length + ys.length) xs ys (Nat.le_refl _) hx hy e
  · intro h w k
    obtain ⟨xs, ys, hx, hy, lx, ly, e⟩ := way_words k
    rw [← lx, ← ly]
    exact h xs ys hx hy e
/-! ### leads -/
def lead (w : List Nat × List Nat) : Option (Bool × List Nat) :=
  if w.2.isPrefixOf w.1 then some (true, w.1.drop w.2.length) else if w.1.isPrefixOf w.2 then some (false, w.2.drop w.1.length) else none
theorem lead_one (b d : List Nat) : lead (b ++ d, b) = some (true, d) := by
  unfold lead
  rw [if_pos (List.isPrefixOf_iff_prefix.mpr ⟨d, rfl⟩), List.drop_left]
theorem lead_two (a : List Nat) {d : List Nat} (h : d ≠ []) : lead (a, a ++ d) = some (false, d) := by
  unfold lead
  rw [if_neg, if_pos (List.isPrefixOf_iff_prefix.mpr ⟨d, rfl⟩), List.drop_left]
  intro p
  obtain ⟨y, e⟩ := List.isPrefixOf_iff_prefix.mp p
  have e : a ++ d ++ y = a := e
  rw [List.append_assoc] at e
  exact h (List.append_eq_nil_iff.mp (List.append_cancel_left (e.trans (List.append_nil a).symm))).1
theorem lead_some {w : List Nat × List Nat} {k : Bool × List Nat} (h : lead w = some k) : (k.1 = true ∧ w.1 = w.2 ++ k.2) ∨ (k.1 = false ∧ k.2 ≠ [] ∧ w.2 = w.1 ++ k.2) := by
  obtain ⟨a, b⟩ := w
  unfold lead at h
  split at h
  · rename_i p
    obtain ⟨y, e⟩ := List.isPrefixOf_iff_prefix.mp p
    have e : b ++ y = a := e
    subst e
    rw [← Option.some.inj h]
    exact .inl ⟨rfl, by show b ++ y = b ++ (b ++ y).drop b.length; rw [List.drop_left]⟩
  · rename_i np
    split at h
    · rename_i p
      obtain ⟨y, e⟩ := List.isPrefixOf_iff_prefix.mp p
      have e : a ++ y = b := e
      subst e
      rw [← Option.some.inj h]
      refine .inr ⟨rfl, ?_, by show a ++ y = a ++ (a ++ y).drop a.length; rw [List.drop_left]⟩
      show (a ++ y).drop a.length ≠ []
      rw [List.drop_left]
      intro e
      subst e
      exact np (List.isPrefixOf_iff_prefix.mpr ⟨[], by show a ++ [] ++ [] = a; simp⟩)
    · cases h
theorem lead_cancel (c a b : List Nat) : lead (c ++ a, c ++ b) = lead (a, b) := by
  unfold lead
  have e : ∀ x y : List Nat, (c ++ x).isPrefixOf (c ++ y) = x.isPrefixOf y := fun x y => by
    rw [Bool.eq_iff_iff, List.isPrefixOf_iff_prefix, List.isPrefixOf_iff_prefix, List.prefix_append_right_inj]
  have e2 : ∀ x y : List Nat, (c ++ x).drop (c ++ y).length = x.drop y.length := fun x y => by
    rw [List.length_append, ← List.drop_drop, List.drop_left]
  show (if (c ++ b).isPrefixOf (c ++ a) = true then some (true, (c ++ a).drop (c ++ b).length) else if (c ++ a).isPrefixOf (c ++ b) = true then some (false, (c ++ b).drop (c ++ a).length) else none) = _
  rw [e, e, e2, e2]
/-- with one more, a lead tells the next -/
def nextL (t : Bool) (l : Nat) (k : Bool × List Nat) : Option (Bool × List Nat) := lead (put t l (if k.1 = true then (k.2, []) else ([], k.2)))
theorem lead_put {w : List Nat × List Nat} {k : Bool × List Nat} (h : lead w = some k) (t : Bool) (l : Nat) : lead (put t l w) = nextL t l k := by
  obtain ⟨a, b⟩ := w
  obtain ⟨k1, d⟩ := k
  rcases lead_some h with ⟨e1, e2⟩ | ⟨e1, _, e2⟩
  · obtain rfl : k1 = true := e1
    obtain rfl : a = b ++ d := e2
    cases t with
    | true =>
      show lead ((b ++ d) ++ [l], b) = lead (d ++ [l], [])
      rw [List.append_assoc]
      have := lead_cancel b (d ++ [l]) []
      rw [List.append_nil] at this
      exact this
    | false => exact lead_cancel b d [l]
  · obtain rfl : k1 = false := e1
    obtain rfl : b = a ++ d := e2
    cases t with
    | true => exact lead_cancel a [l] d
    | false =>
      show lead (a, (a ++ d) ++ [l]) = lead ([], d ++ [l])
      rw [List.append_assoc]
      have := lead_cancel a [] (d ++ [l])
      rw [List.append_nil] at this
      exact this
theorem lead_even {w : List Nat × List Nat} (h : lead w = some (true, [])) : w.1 = w.2 := by
  rcases lead_some h with ⟨_, e⟩ | ⟨e, _⟩
  · rw [e]
    exact List.append_nil _
  · cases e
theorem even_lead {w : List Nat × List Nat} (h : w.1 = w.2) : lead w = some (true, []) := by
  obtain ⟨a, b⟩ := w
  have h : a = b := h
  subst h
  have := lead_one a []
  rw [List.append_nil] at this
  exact this
/-- what is known of a place by the way that is kept to it -/
def known (W : Pl → List Nat × List Nat) : Pl → Option (Bool × List Nat)
  | .fin => some (true, [])
  | p => lead (W p)
/-- where every step into a living place has the lead that is known, all meetings are alike -/
theorem alike_of {P S : List Pr} {W : Pl → List Nat × List Nat} {L : Pl → Prop} (h0 : W .start = ([], [])) (hL : ∀ p v, Way P S p .fin v → L p)
    (hc : ∀ p w, Way P S .start p w → ∀ t l q, (t, l, q) ∈ moves P S p → L q → ∃ k, lead (put t l (W p)) = some k ∧ known W q = some k) : Alike P S := by
  have key : ∀ p w, Way P S .start p w → ∀ v, Way P S p .fin v → ∃ k, lead w = some k ∧ known W p = some k := by
    intro p w h
    induction h with
    | nil =>
      intro v _
      exact ⟨(true, []), even_lead rfl, by show lead (W .start) = _; rw [h0]; exact even_lead rfl⟩
    | @step p w t l q h m ih =>
      intro v k
      have hp : Way P S p .fin _ := (Way.step (P := P) (S := S) (.nil (o := p)) m).trans k
      obtain ⟨k0, e1, e2⟩ := ih _ hp
      have pf : known W p = lead (W p) := by
        cases p with
        | fin => cases m
        | start => rfl
        | rest a r => rfl
      rw [pf] at e2
      obtain ⟨k1, e3, e4⟩ := hc p w h t l q m (hL q v k)
      exact ⟨k1, by rw [lead_put e1, ← lead_put e2, e3], e4⟩
  intro w h
  obtain ⟨k, e1, e2⟩ := key .fin w h _ .nil
  have e2 : some (true, []) = some k := e2
  rw [← Option.some.inj e2] at e1
  exact lead_even e1
/-- labels that end alike behind the same rest have the same lead -/
theorem lead_back {a b v : List Nat × List Nat} (h1 : a.1 ++ v.1 = a.2 ++ v.2) (h2 : b.1 ++ v.1 = b.2 ++ v.2) : ∃ k, lead a = some k ∧ lead b = some k := by
  obtain ⟨a1, a2⟩ := a
  obtain ⟨b1, b2⟩ := b
  obtain ⟨v1, v2⟩ := v
  have h1 : a1 ++ v1 = a2 ++ v2 := h1
  have h2 : b1 ++ v1 = b2 ++ v2 := h2
  rcases List.append_eq_append_iff.mp h1 with ⟨z, e1, e2⟩ | ⟨z, e1, e2⟩
  · -- a2 = a1 ++ z, v1 = z ++ v2
    subst e1 e2
    rw [← List.append_assoc] at h2
    have e3 : b2 = b1 ++ z := (List.append_cancel_right h2).symm
    subst e3
    by_cases hz : z = []
    · subst hz
      exact ⟨(true, []), even_lead (by show a1 = a1 ++ []; rw [List.append_nil]), even_lead (by show b1 = b1 ++ []; rw [List.append_nil])⟩
    · exact ⟨_, lead_two a1 hz, lead_two b1 hz⟩
  · -- a1 = a2 ++ z, v2 = z ++ v1
    subst e1 e2
    rw [← List.append_assoc] at h2
    have e3 : b1 = b2 ++ z := List.append_cancel_right h2
    subst e3
    exact ⟨_, lead_one a2 z, lead_one b2 z⟩
/-! ### what is left where words begin with one another -/
end MZ
set_option Elab.async false
set_option linter.all false
/-! Places gone through one by one, as the program goes through them. -/
namespace MZ
/-- the places met, with those of some steps behind them -/
def addTo (Q : List Pl) (f : List Mo) : List Pl := f.foldl (fun Q m => if m.2.2 ∈ Q then Q else Q ++ [m.2.2]) Q
theorem addTo_cons (Q : List Pl) (m : Mo) (f : List Mo) : addTo Q (m :: f) = addTo (if m.2.2 ∈ Q then Q else Q ++ [m.2.2]) f := rfl
theorem addTo_has : ∀ (f : List Mo) (Q : List Pl) (p : Pl), p ∈ addTo Q f ↔ p ∈ Q ∨ ∃ m ∈ f, m.2.2 = p
  | [], Q, p => by
    show p ∈ Q ↔ _
    simp
  | m :: f, Q, p => by
    rw [addTo_cons, addTo_has f]
    by_cases h : m.2.2 ∈ Q
    · rw [if_pos h]
      constructor
      · rintro (a | ⟨x, hx, e⟩)
        · exact .inl a
        · exact .inr ⟨x, List.mem_cons_of_mem _ hx, e⟩
      · rintro (a | ⟨x, hx, e⟩)
        · exact .inl a
        · rcases List.mem_cons.mp hx with rfl | hx
          · exact .inl (e ▸ h)
          · exact .inr ⟨x, hx, e⟩
    · rw [if_neg h]
      constructor
      · rintro (a | ⟨x, hx, e⟩)
        · rcases List.mem_append.mp a with a | a
          · exact .inl a
          · exact .inr ⟨m, List.mem_cons_self, (List.mem_singleton.mp a).symm⟩
        · exact .inr ⟨x, List.mem_cons_of_mem _ hx, e⟩
      · rintro (a | ⟨x, hx, e⟩)
        · exact .inl (List.mem_append_left _ a)
        · rcases List.mem_cons.mp hx with rfl | hx
          · exact .inl (List.mem_append_right _ (by rw [e]; exact List.mem_singleton_self _))
          · exact .inr ⟨x, hx, e⟩
theorem addTo_nd : ∀ (f : List Mo) (Q : List Pl), Q.Nodup → (addTo Q f).Nodup
  | [], Q, h => h
  | m :: f, Q, h => by
    rw [addTo_cons]
    refine addTo_nd f _ ?_
    by_cases z : m.2.2 ∈ Q
    · rw [if_pos z]
      exact h
    · rw [if_neg z]
      refine List.nodup_append.mpr ⟨h, by simp, fun x hx y hy e => ?_⟩
      rw [List.mem_singleton.mp hy] at e
      exact z (e ▸ hx)
theorem addTo_pre : ∀ (f : List Mo) (Q : List Pl), ∃ R, addTo Q f = Q ++ R
  | [], Q => ⟨[], (List.append_nil Q).symm⟩
  | m :: f, Q => by
    rw [addTo_cons]
    by_cases z : m.2.2 ∈ Q
    · rw [if_pos z]
      exact addTo_pre f Q
    · rw [if_neg z]
      obtain ⟨R, e⟩ := addTo_pre f (Q ++ [m.2.2])
      exact ⟨m.2.2 :: R, by rw [e, List.append_assoc]; rfl⟩
/-- the first n places of Q are gone through -/
structure Bfs (P S : List Pr) (o : Pl) (Q : List Pl) (n : Nat) : Prop where
  nd : Q.Nodup
  head : Q[0]? = some o
  le : n ≤ Q.length
  reach : ∀ p ∈ Q, ∃ w, Way P S o p w
  closed : ∀ i, i < n → ∀ p, Q[i]? = some p → ∀ m ∈ moves P S p, m.2.2 ∈ Q
theorem Bfs.start (P S : List Pr) (o : Pl) : Bfs P S o [o] 0 := ⟨by simp, rfl, Nat.zero_le _, fun p h => by rw [List.mem_singleton.mp h]; exact ⟨_, .nil⟩, fun i h => absurd h (Nat.not_lt_zero _)⟩
theorem Bfs.step {P S : List Pr} {o p : Pl} {Q : List Pl} {n : Nat} (b : Bfs P S o Q n) (h : Q[n]? = some p) : Bfs P S o (addTo Q (moves P S p)) (n + 1) := by
  obtain ⟨hn, ep⟩ := List.getElem?_eq_some_iff.mp h
  obtain ⟨R, eR⟩ := addTo_pre (moves P S p) Q
  have hp : p ∈ Q := ep ▸ List.getElem_mem hn
  have low : ∀ i, i < Q.length → (addTo Q (moves P S p))[i]? = Q[i]? := fun i hi => by rw [eR, List.getElem?_append_left hi]
  refine ⟨addTo_nd _ _ b.nd, ?_, ?_, fun q hq => ?_, fun i hi q e m hm => ?_⟩
  · rw [low 0 (by omega)]
    exact b.head
  · rw [eR, List.length_append]
    omega
  · rcases (addTo_has _ _ _).mp hq with a | ⟨m, hm, rfl⟩
    · exact b.reach q a
    · obtain ⟨w, k⟩ := b.reach p hp
      exact ⟨_, k.step (t := m.1) (l := m.2.1) (q := m.2.2) hm⟩
  · rw [low i (by omega)] at e
    by_cases hi2 : i < n
    · exact (addTo_has _ _ _).mpr (.inl (b.closed i hi2 q e m hm))
    · have : i = n := by omega
      subst this
      rw [h] at e
      cases e
      exact (addTo_has _ _ _).mpr (.inr ⟨m, hm, rfl⟩)
theorem Bfs.all {P S : List Pr} {o : Pl} {Q : List Pl} (b : Bfs P S o Q Q.length) (p : Pl) : p ∈ Q ↔ ∃ w, Way P S o p w := by
  constructor
  · exact b.reach p
  · rintro ⟨w, h⟩
    induction h with
    | nil => exact (List.getElem?_eq_some_iff.mp b.head).2 ▸ List.getElem_mem _
    | @step p w t l q _ m ih =>
      obtain ⟨i, hi, e⟩ := List.getElem_of_mem ih
      exact b.closed i hi p (by rw [List.getElem?_eq_getElem hi, e]) _ m
/-! ### how many places there are -/
def tails : Wd → List Wd
  | [] => []
  | c :: r => (c :: r) :: tails r
theorem tails_len : ∀ w : Wd, (tails w).length = w.length
  | [] => rfl
  | c :: r => by
    show (tails r).length + 1 = r.length + 1
    rw [tails_len r]
theorem tails_has : ∀ (w a z : Wd), w = a ++ z → z ≠ [] → z ∈ tails w
  | [], a, z, e, hz => absurd (List.append_eq_nil_iff.mp e.symm).2 hz
  | c :: r, [], z, e, hz => by
    have e : c :: r = z := e
    rw [← e]
    exact List.mem_cons_self
  | c :: r, d :: a, z, e, hz => List.mem_cons_of_mem _ (tails_has r a z (List.cons.inj e).2 hz)
/-- all places there may be -/
def uni (P S : List Pr) : List Pl := .start :: .fin :: ((P.flatMap fun q => (tails q.1).map (.rest true)) ++ S.flatMap fun q => (tails q.1).map (.rest false))
def sumL (P : List Pr) : Nat := (P.map fun q => q.1.length).sum
theorem flat_len (P : List Pr) (a : Bool) : (P.flatMap fun q => (tails q.1).map (Pl.rest a)).length = sumL P := by
  rw [List.length_flatMap]
  unfold sumL
  congr 1
  exact List.map_congr_left fun q _ => by rw [List.length_map, tails_len]
theorem uni_len (P S : List Pr) : (uni P S).length = 2 + sumL P + sumL S := by
  show (_ ++ _ : List Pl).length + 1 + 1 = _
  rw [List.length_append, flat_len, flat_len]
  omega
theorem reach_uni {P S : List Pr} (hP : ∀ q ∈ P, q.1 ≠ []) {p : Pl} {w : List Nat × List Nat} (h : Way P S .start p w) : p ∈ uni P S ∧ match p with
    | .rest true r => r ≠ [] ∧ ∃ q ∈ P, ∃ a, q.1 = a ++ r
    | .rest false r => r ≠ [] ∧ ∃ q ∈ S, ∃ a, q.1 = a ++ r
    | _ => True := by
  have key : (match p with
    | .rest true r => r ≠ [] ∧ ∃ q ∈ P, ∃ a, q.1 = a ++ r
    | .rest false r => r ≠ [] ∧ ∃ q ∈ S, ∃ a, q.1 = a ++ r
    | _ => True) := by
    induction h with
    | nil => trivial
    | @step p w t l q _ m ih =>
      cases p with
      | fin => cases m
      | start =>
        obtain ⟨x, hx, e⟩ := List.mem_map.mp m
        cases e
        exact ⟨hP x hx, x, hx, [], rfl⟩
      | rest a r =>
        obtain ⟨z, hz, e⟩ := List.mem_filterMap.mp m
        obtain ⟨q', eb, e2⟩ := Option.map_eq_some_iff.mp e
        cases e2
        cases a with
        | true =>
          have hz : z ∈ S := hz
          obtain ⟨_, q0, hq0, a0, e0⟩ := ih
          rcases behind_cases eb with ⟨e3, rfl⟩ | ⟨v, nv, e3, rfl⟩ | ⟨v, nv, e3, rfl⟩
          · trivial
          · exact ⟨nv, q0, hq0, a0 ++ z.1, by rw [e0, e3, List.append_assoc]⟩
          · exact ⟨nv, z, hz, r, e3⟩
        | false =>
          have hz : z ∈ P := hz
          obtain ⟨_, q0, hq0, a0, e0⟩ := ih
          rcases behind_cases eb with ⟨e3, rfl⟩ | ⟨v, nv, e3, rfl⟩ | ⟨v, nv, e3, rfl⟩
          · trivial
          · exact ⟨nv, q0, hq0, a0 ++ z.1, by rw [e0, e3, List.append_assoc]⟩
          · exact ⟨nv, z, hz, r, e3⟩
  refine ⟨?_, key⟩
  cases p with
  | start => exact List.mem_cons_self
  | fin => exact List.mem_cons_of_mem _ List.mem_cons_self
  | rest a r =>
    refine List.mem_cons_of_mem _ (List.mem_cons_of_mem _ ?_)
    cases a with
    | true =>
      obtain ⟨nr, q, hq, a, e⟩ := key
      exact List.mem_append_left _ (List.mem_flatMap.mpr ⟨q, hq, List.mem_map.mpr ⟨r, tails_has _ a r e nr, rfl⟩⟩)
    | false =>
      obtain ⟨nr, q, hq, a, e⟩ := key
      exact List.mem_append_right _ (List.mem_flatMap.mpr ⟨q, hq, List.mem_map.mpr ⟨r, tails_has _ a r e nr, rfl⟩⟩)
theorem nd_le {α : Type} [DecidableEq α] : ∀ {a b : List α}, a.Nodup → (∀ x ∈ a, x ∈ b) → a.length ≤ b.length
  | [], _, _, _ => Nat.zero_le _
  | x :: a, b, nd, h => by
    have hx := h x List.mem_cons_self
    have z := nd_le (a := a) (b := b.erase x) (List.nodup_cons.mp nd).2 fun y hy => (List.mem_erase_of_ne (fun e => (List.nodup_cons.mp nd).1 (by rw [← e]; exact hy))).mpr (h y (List.mem_cons_of_mem _ hy))
    rw [List.length_erase_of_mem hx] at z
    have := List.length_pos_of_mem hx
    rw [List.length_cons]
    omega
theorem Bfs.few {P S : List Pr} {Q : List Pl} {n : Nat} (hP : ∀ q ∈ P, q.1 ≠ []) (b : Bfs P S .start Q n) : Q.length ≤ 2 + sumL P + sumL S := by
  rw [← uni_len]
  exact nd_le b.nd fun p hp => by
    obtain ⟨w, h⟩ := b.reach p hp
    exact (reach_uni hP h).1
/-! ### what lives -/
theorem way_first {P S : List Pr} {o q : Pl} {w : List Nat × List Nat} (h : Way P S o q w) : o = q ∨ ∃ m ∈ moves P S o, ∃ v, Way P S m.2.2 q v := by
  induction h with
  | nil => exact .inl rfl
  | @step p w t l q _ m ih =>
    rcases ih with rfl | ⟨m0, h0, v, k⟩
    · exact .inr ⟨_, m, _, .nil⟩
    · exact .inr ⟨m0, h0, _, k.step m⟩
/-- some places that live; the end among them -/
structure Liv (P S : List Pr) (L : List Pl) : Prop where
  fin : Pl.fin ∈ L
  live : ∀ p ∈ L, ∃ v, Way P S p .fin v
theorem Liv.start (P S : List Pr) : Liv P S [.fin] := ⟨List.mem_singleton_self _, fun p h => by rw [List.mem_singleton.mp h]; exact ⟨_, .nil⟩⟩
theorem Liv.add {P S : List Pr} {L : List Pl} {p : Pl} {m : Mo} (h : Liv P S L) (hm : m ∈ moves P S p) (hl : m.2.2 ∈ L) : Liv P S (L ++ [p]) := by
  refine ⟨List.mem_append_left _ h.fin, fun q hq => ?_⟩
  rcases List.mem_append.mp hq with a | a
  · exact h.live q a
  · rw [List.mem_singleton.mp a]
    obtain ⟨v, k⟩ := h.live _ hl
    exact ⟨_, (Way.step (P := P) (S := S) (.nil (o := p)) (t := m.1) (l := m.2.1) (q := m.2.2) hm).trans k⟩
/-- where nothing is left to add, all that lives is there -/
theorem Liv.all {P S : List Pr} {Q L : List Pl} (b : Bfs P S .start Q Q.length) (h : Liv P S L) (c : ∀ p ∈ Q, p ∉ L → ∀ m ∈ moves P S p, m.2.2 ∉ L) {p : Pl} (hp : p ∈ Q) {v : List Nat × List Nat} (k : Way P S p .fin v) : p ∈ L := by
  have key : ∀ {q : Pl} {v : List Nat × List Nat}, Way P S p q v → q ∈ L → p ∈ L := by
    intro q v k
    induction k with
    | nil => exact id
    | @step r w t l q k2 m ih =>
      intro hq
      refine ih (Classical.byContradiction fun np => c r ?_ np _ m hq)
      obtain ⟨w0, k0⟩ := (b.all p).mp hp
      exact (b.all r).mpr ⟨_, k0.trans k2⟩
  exact key k h.fin
/-! ### ways kept -/
/-- the places of a search in their order, each with a way to it -/
structure Wys (P S : List Pr) (o : Pl) (Q : List Pl) (W : List (Pl × (List Nat × List Nat))) : Prop where
  keys : W.map (·.1) = Q
  way : ∀ q ∈ W, Way P S o q.1 q.2
/-- with the steps of a place that is reached by a way -/
def addW (w : List Nat × List Nat) (W : List (Pl × (List Nat × List Nat))) (f : List Mo) : List (Pl × (List Nat × List Nat)) :=
  f.foldl (fun W m => if m.2.2 ∈ W.map (·.1) then W else W ++ [(m.2.2, put m.1 m.2.1 w)]) W
theorem addW_cons (w : List Nat × List Nat) (W : List (Pl × (List Nat × List Nat))) (m : Mo) (f : List Mo) : addW w W (m :: f) = addW w (if m.2.2 ∈ W.map (·.1) then W else W ++ [(m.2.2, put m.1 m.2.1 w)]) f := rfl
theorem addW_keys (w : List Nat × List Nat) : ∀ (f : List Mo) (W : List (Pl × (List Nat × List Nat))), (addW w W f).map (·.1) = addTo (W.map (·.1)) f
  | [], W => rfl
  | m :: f, W => by
    rw [addW_cons, addTo_cons, addW_keys w f]
    by_cases h : m.2.2 ∈ W.map (·.1)
    · rw [if_pos h, if_pos h]
    · rw [if_neg h, if_neg h, List.map_append]
      rfl
theorem addW_way {P S : List Pr} {o p : Pl} {w : List Nat × List Nat} (h : Way P S o p w) : ∀ (f : List Mo) (W : List (Pl × (List Nat × List Nat))), (∀ m ∈ f, m ∈ moves P S p) → (∀ q ∈ W, Way P S o q.1 q.2) → ∀ q ∈ addW w W f, Way P S o q.1 q.2
  | [], W, _, hW => hW
  | m :: f, W, hf, hW => by
    rw [addW_cons]
    refine addW_way h f _ (fun x hx => hf x (List.mem_cons_of_mem _ hx)) ?_
    by_cases z : m.2.2 ∈ W.map (·.1)
    · rw [if_pos z]
      exact hW
    · rw [if_neg z]
      intro q hq
      rcases List.mem_append.mp hq with a | a
      · exact hW q a
      · rw [List.mem_singleton.mp a]
        exact h.step (hf m List.mem_cons_self)
theorem Wys.start (P S : List Pr) (o : Pl) : Wys P S o [o] [(o, ([], []))] := ⟨rfl, fun q h => by rw [List.mem_singleton.mp h]; exact .nil⟩
theorem Wys.step {P S : List Pr} {o p : Pl} {Q : List Pl} {W : List (Pl × (List Nat × List Nat))} {w : List Nat × List Nat} (h : Wys P S o Q W) (hw : (p, w) ∈ W) : Wys P S o (addTo Q (moves P S p)) (addW w W (moves P S p)) :=
  ⟨by rw [addW_keys, h.keys], addW_way (h.way _ hw) _ _ (fun _ z => z) h.way⟩
/-- the way that is kept to a place -/
def wayTo (W : List (Pl × (List Nat × List Nat))) (p : Pl) : List Nat × List Nat := ((W.find? fun q => decide (q.1 = p)).map (·.2)).getD ([], [])
theorem wayTo_has {P S : List Pr} {o p : Pl} {Q : List Pl} {W : List (Pl × (List Nat × List Nat))} (h : Wys P S o Q W) (hp : p ∈ Q) : (p, wayTo W p) ∈ W ∧ Way P S o p (wayTo W p) := by
  have m : (p, wayTo W p) ∈ W := by
    rw [← h.keys] at hp
    obtain ⟨q, hq, rfl⟩ := List.mem_map.mp hp
    unfold wayTo
    cases e : W.find? fun z => decide (z.1 = q.1) with
    | none =>
      have := List.find?_eq_none.mp e q hq
      simp at this
    | some z =>
      have h1 : z.1 = q.1 := by simpa using List.find?_some e
      have h2 := List.mem_of_find?_eq_some e
      show (q.1, z.2) ∈ W
      rw [← h1]
      exact h2
  exact ⟨m, h.way _ m⟩
/-! ### a meeting that is not alike -/
/-- a step into a living place whose lead is not known there -/
def oddM (W : List (Pl × (List Nat × List Nat))) (p : Pl) (m : Mo) : Bool :=
  match lead (put m.1 m.2.1 (wayTo W p)) with
  | none => true
  | some k => decide (known (wayTo W) m.2.2 ≠ some k)
/-- none at all: all meetings are alike -/
theorem alike_no {P S : List Pr} {Q L : List Pl} {W : List (Pl × (List Nat × List Nat))} (b : Bfs P S .start Q Q.length) (h : Wys P S .start Q W) (h0 : wayTo W .start = ([], [])) (hL : ∀ p ∈ Q, ∀ v, Way P S p .fin v → p ∈ L)
    (c : ∀ p ∈ Q, ∀ m ∈ moves P S p, m.2.2 ∈ L → oddM W p m = false) : Alike P S := by
  refine alike_of (W := wayTo W) (L := fun p => p ∈ Q → p ∈ L) h0 (fun p v k hq => hL p hq v k) fun p w k t l q m hl => ?_
  have hp : p ∈ Q := (b.all p).mpr ⟨w, k⟩
  have hq : q ∈ Q := (b.all q).mpr ⟨_, k.step m⟩
  have z := c p hp (t, l, q) m (hl hq)
  unfold oddM at z
  cases e : lead (put t l (wayTo W p)) with
  | none =>
    have z : (match lead (put t l (wayTo W p)) with | none => true | some k => decide (known (wayTo W) q ≠ some k)) = false := z
    rw [e] at z
    cases z
  | some k =>
    have z : (match lead (put t l (wayTo W p)) with | none => true | some k => decide (known (wayTo W) q ≠ some k)) = false := z
    rw [e] at z
    refine ⟨k, rfl, ?_⟩
    have z : decide (known (wayTo W) q ≠ some k) = false := z
    simpa using z
/-- one of them: the meeting that is made of it, or of the way that is kept, is not alike -/
theorem odd_meets {P S : List Pr} {Q : List Pl} {W : List (Pl × (List Nat × List Nat))} {p : Pl} {m : Mo} {v : List Nat × List Nat} (b : Bfs P S .start Q Q.length) (h : Wys P S .start Q W) (hp : p ∈ Q) (hm : m ∈ moves P S p) (k : Way P S m.2.2 .fin v) (z : oddM W p m = true) :
    Way P S .start .fin ((put m.1 m.2.1 (wayTo W p)).1 ++ v.1, (put m.1 m.2.1 (wayTo W p)).2 ++ v.2) ∧ Way P S .start .fin ((wayTo W m.2.2).1 ++ v.1, (wayTo W m.2.2).2 ++ v.2) ∧
    ((put m.1 m.2.1 (wayTo W p)).1 ++ v.1 = (put m.1 m.2.1 (wayTo W p)).2 ++ v.2 → (wayTo W m.2.2).1 ++ v.1 ≠ (wayTo W m.2.2).2 ++ v.2) := by
  obtain ⟨_, kp⟩ := wayTo_has h hp
  have ks : Way P S .start m.2.2 (put m.1 m.2.1 (wayTo W p)) := kp.step (t := m.1) (l := m.2.1) (q := m.2.2) hm
  obtain ⟨_, kq⟩ := wayTo_has h ((b.all m.2.2).mpr ⟨_, ks⟩)
  refine ⟨ks.trans k, kq.trans k, fun e1 e2 => ?_⟩
  obtain ⟨d, l1, l2⟩ := lead_back (v := v) e1 e2
  unfold oddM at z
  rw [l1] at z
  have z : decide (known (wayTo W) m.2.2 ≠ some d) = true := z
  have z := of_decide_eq_true z
  by_cases ef : m.2.2 = .fin
  · rw [ef] at k
    have ev : v = ([], []) := by
      rcases way_first k with _ | ⟨x, hx, _⟩
      · cases k with
        | nil => rfl
        | @step r w t l _ k2 mm =>
          exfalso
          have : ∀ {o r : Pl} {w : List Nat × List Nat}, Way P S o r w → o = .fin → r = .fin := by
            intro o r w kk
            induction kk with
            | nil => exact id
            | @step r w t l q _ mm ih =>
              intro eo
              rw [ih eo] at mm
              cases mm
          rw [this k2 rfl] at mm
          cases mm
      · cases hx
    rw [ev] at e1
    have e1 : (put m.1 m.2.1 (wayTo W p)).1 ++ [] = (put m.1 m.2.1 (wayTo W p)).2 ++ [] := e1
    rw [List.append_nil, List.append_nil] at e1
    rw [even_lead e1] at l1
    cases l1
    rw [ef] at z
    exact z rfl
  · refine z ?_
    cases e : m.2.2 with
    | fin => exact absurd e ef
    | start =>
      rw [e] at l2
      exact l2
    | rest a r =>
      rw [e] at l2
      exact l2
end MZ
set_option Elab.async false
set_option linter.all false
set_option maxRecDepth 100000
set_option maxHeartbeats 4000000
/-! {k: v} with one pair, k a tuple. -/
namespace L2
open PySem PySem.Spec PyProof.Rows
end L2
set_option Elab.async false
set_option linter.all false
set_option maxRecDepth 100000
set_option maxHeartbeats 4000000
/-! A key looked for among entries of any kinds, tuples beside flat ones. -/
namespace MX
open PySem PySem.Spec PySem.SeqAt PyProof.Rows
section
variable {prog : Program} {w : World} {A : Around} {E : Value → Shared → Prop} {s : Shared} {d : Addr} {o : Obj} {es : Array DictEntry} {ep : Nat} {v : Value} {hh : Int} {m : DictEntry → Bool}
/-- what the search of v, whose hash is hh, meets: m says which entry is equal to v -/
structure Look (prog : Program) (w : World) (A : Around) (s : Shared) (es : Array DictEntry) (v : Value) (hh : Int) (m : DictEntry → Bool) : Prop where
  eqv : ∀ e ∈ es, EqAt A s e.key v (m e)
  hash : ∀ e ∈ es, m e = true → e.hash = hh
  same : ∀ e ∈ es, e.key = v → e.hash = hh
  quiet : QuietAt prog w 8 s v
  quiets : ∀ e ∈ es, QuietAt prog w 8 s e.key
  txts : ∀ x t, v = .str x t → ∀ e ∈ es, isExactStrKey e.key = true → e.key.isStr x = m e
  one : ∀ i j (hi : i < es.size) (hj : j < es.size), m es[i] = true → m es[j] = true → i = j
theorem Look.find (M : Look prog w A s es v hh m) {i : Nat} (hi : i < es.size) (h : m es[i] = true) : es.findIdx? m = some i :=
  Array.findIdx?_eq_some_iff_getElem.mpr ⟨hi, h, fun j hj => by
    intro z
    have := M.one j i (by omega) hi z h
    omega⟩
/-- the places of one hash -/
theorem in_places {i : Nat} (hi : i < es.size) (h : es[i].hash = hh) : i ∈ placesWithHash es.size (fun i => es[i]?.map (·.hash)) hh := by
  unfold placesWithHash
  rw [List.mem_filter]
  refine ⟨List.mem_range.mpr hi, ?_⟩
  show (es[i]?.map (·.hash) == some hh) = true
  rw [Array.getElem?_eq_getElem hi, Option.map_some, h]
  exact beq_self_eq_true _
theorem Look.none (M : Look prog w A s es v hh m) (h : ∀ i ∈ placesWithHash es.size (fun i => es[i]?.map (·.hash)) hh, ∀ hi : i < es.size, m es[i] = false) : es.findIdx? m = none :=
  Array.findIdx?_eq_none_iff.mpr fun e he => by
    obtain ⟨i, hi, rfl⟩ := Array.mem_iff_getElem.mp he
    cases z : m es[i] with
    | false => rfl
    | true =>
      have := h i (in_places hi (M.hash _ (Array.getElem_mem hi) z)) hi
      rw [z] at this
      cases this
end
end MX
set_option Elab.async false
set_option linter.all false
set_option maxRecDepth 100000
set_option maxHeartbeats 4000000
/-! The same, told by keys: flat ones and tuples of such. -/
namespace MX
open PySem PySem.Spec PySem.SeqAt PyProof.Rows
section
variable {prog : Program} {w : World} {A : Around} {E : Value → Shared → Prop} {s : Shared} {d : Addr} {o : Obj} {es : Array DictEntry} {ep : Nat} {v : Value}
/-- an entry -/
def entN (w : World) (x : NestedKey × Value × Value) : DictEntry := ⟨x.1.hash w, x.2.1, x.2.2⟩
/-- the keys stand there -/
def KeysN (h : Heap) (xs : List (NestedKey × Value × Value)) : Prop := ∀ x ∈ xs, NestedIs h x.1 x.2.1 ∧ x.1.depth ≤ 8
end
end MX
set_option Elab.async false
set_option linter.all false
set_option maxRecDepth 100000
set_option maxHeartbeats 4000000
/-! A dict of flat keys and tuples: what stands under a key, a key stored. -/
namespace MX
open PySem PySem.Spec PySem.SeqAt PyProof.Rows
/-- the dict at d: its keys as keys and as values, and what stands under them, in their order -/
def DictN (w : World) (h : Heap) (d : Addr) (xs : List (NestedKey × Value × Value)) : Prop :=
  ∃ o es ep, h.get? d = some o ∧ o.ExactDict ∧ o.data = .dict es ep ∧ es.toList = xs.map (entN w) ∧ KeysN h xs ∧ (xs.map (·.1)).Nodup
def putN (k : NestedKey) (u : Value) (x : NestedKey × Value × Value) : NestedKey × Value × Value := if x.1 = k then (x.1, x.2.1, u) else x
/-- u stored under k, the key v -/
def storeN (xs : List (NestedKey × Value × Value)) (k : NestedKey) (v u : Value) : List (NestedKey × Value × Value) := if k ∈ xs.map (·.1) then xs.map (putN k u) else xs ++ [(k, v, u)]
def atN (xs : List (NestedKey × Value × Value)) (k : NestedKey) : Option Value := (xs.find? fun x => decide (x.1 = k)).map (·.2.2)
section
variable {prog : Program} {w : World} {A : Around} {E : Value → Shared → Prop} {s : Shared} {d : Addr} {o : Obj} {es : Array DictEntry} {ep : Nat} {v u : Value} {k : NestedKey} {xs : List (NestedKey × Value × Value)}
theorem KeysN.keeps {h h' : Heap} (ks : KeysN h xs) (ho : h.get? d = some o) (hd : o.data = .dict es ep) (hs : Heap.SameBut d h h') : KeysN h' xs := fun x hx =>
  ⟨NestedIs.at (fun b ob vs n hb hc => (hs.2 b fun e => by
    subst e
    rw [ho] at hb
    cases hb
    rw [hd] at hc
    cases hc).trans hb) x.1 _ (ks x hx).1, (ks x hx).2⟩
end
end MX
set_option Elab.async false
set_option linter.all false
set_option maxRecDepth 100000
set_option maxHeartbeats 4000000
/-! k in d, d[k], d[k] = u for such a dict. -/
namespace MX
open PySem PySem.Spec PySem.SeqAt PyProof.Rows
section
variable {prog : Program} {w : World} {A : Around} {E : Value → Shared → Prop} {s : Shared} {d : Addr} {v u : Value} {k : NestedKey} {xs : List (NestedKey × Value × Value)}
theorem DictN.typeIs (hm : DictN w s.heap d xs) : s.TypeIs (.ref d) "dict" := let ⟨o, _, _, ho, hc, _⟩ := hm; ⟨o, ho, hc.1⟩
end
end MX
set_option Elab.async false
set_option linter.all false
set_option maxRecDepth 100000
set_option maxHeartbeats 4000000
/-! ~ by an own __invert__. -/
namespace L2
open PySem PySem.Spec PyProof.Rows
end L2
set_option Elab.async false
set_option linter.all false
set_option maxRecDepth 100000
set_option maxHeartbeats 4000000
/-! Own errors made and kept as values. -/
namespace L2
open PySem PySem.Spec PyProof.Rows
end L2
set_option Elab.async false
set_option linter.all false
set_option maxRecDepth 100000
set_option maxHeartbeats 4000000
/-! Dicts of flat keys and tuples, tracked. -/
namespace L2
open PySem PySem.Spec PyProof.Rows MX
/-- the dict at a: each key, what it is as a value, what stands under it -/
def MixO (w : World) (a : Addr) (kvs : List (NestedKey × V × V)) : HO := .ext fun h => kvs.length ≤ sizeLine ∧ (a == sysModules) = false ∧ ∃ xs : List (NestedKey × Value × Value),
  Paired (fun p q => p.1 = q.1 ∧ RelV p.2.1 q.2.1 ∧ RelV p.2.2 q.2.2) kvs xs ∧ ∃ o es ep, h.get? a = some o ∧ o.ExactDict ∧ o.data = .dict es ep ∧ es.toList = xs.map (entN w) ∧ (xs.map (·.1)).Nodup
/-- the key k is the value x: a flat one -/
inductive KeyF : NestedKey → V → Prop
  | none : KeyF .none .non
  | int (i : Int) : KeyF (.num i) (.int i)
  | text (z : Str) : KeyF (.text z) (.str z)
  | bool (b : Bool) : KeyF (.num (if b = true then 1 else 0)) (.bl b)
inductive KeyFs : List NestedKey → List V → Prop
  | nil : KeyFs [] []
  | cons {k : NestedKey} {x : V} {ks : List NestedKey} {xs : List V} : KeyF k x → KeyFs ks xs → KeyFs (k :: ks) (x :: xs)
/-- .. or a tuple of such -/
inductive KeyV (H : Hp) : NestedKey → V → Prop
  | flat {k : NestedKey} {x : V} : KeyF k x → KeyV H k x
  | tup {t : Addr} {ks : List NestedKey} {xs : List V} : H t = some (.tup xs) → KeyFs ks xs → KeyV H (.tup ks) (.ref t)
theorem KeyF.is {h : Heap} {k : NestedKey} {x : V} {u : Value} (f : KeyF k x) (r : RelV x u) : NestedIs h k u ∧ k.depth = 0 := by
  cases f with
  | none => cases r; exact ⟨.none, rfl⟩
  | int i => obtain ⟨t, rfl⟩ := r; exact ⟨.int _ _, rfl⟩
  | text z => obtain ⟨t, rfl⟩ := r; exact ⟨.text _ _, rfl⟩
  | bool b => cases r; exact ⟨.bool rfl, rfl⟩
theorem KeyFs.all {h : Heap} {ks : List NestedKey} {xs : List V} {us : List Value} (f : KeyFs ks xs) (r : Vals xs us) : NestedAll h ks us ∧ NestedKey.depthAll ks = 0 := by
  induction f generalizing us with
  | nil => cases r; exact ⟨.nil, rfl⟩
  | cons g _ ih =>
    cases r with
    | cons r1 r2 =>
      have a := ih r2
      have b := g.is (h := h) r1
      refine ⟨.cons b.1 a.1, ?_⟩
      simp only [NestedKey.depthAll]
      omega
section
variable {X : Cx} {pins : List (Addr × Obj)} {σ : St} {H : Hp} {s : Shared} {k : NestedKey} {x : V} {u : Value}
theorem KeyV.is (I : Inv X pins σ H s) (f : KeyV H k x) (r : RelV x u) : NestedIs s.heap k u ∧ k.depth ≤ 8 := by
  cases f with
  | flat g =>
    have z := g.is (h := s.heap) r
    exact ⟨z.1, by omega⟩
  | tup ht g =>
    obtain rfl : u = Value.ref _ := r
    obtain ⟨_, its, rv, ob⟩ := I.hok _ _ ht
    have z := g.all (h := s.heap) rv
    obtain ⟨o, e1, e2, n, e3⟩ := ob
    exact ⟨.tup e1 e2 e3 (show NestedAll _ _ its.toArray.toList from z.1), by show NestedKey.depthAll _ + 1 ≤ 8; omega⟩
end
/-- one key stored -/
def putM (kvs : List (NestedKey × V × V)) (k : NestedKey) (x v : V) : List (NestedKey × V × V) := if k ∈ kvs.map (·.1) then kvs.map (fun p => if p.1 = k then (p.1, p.2.1, v) else p) else kvs ++ [(k, x, v)]
/-- what stands under a key -/
def atM (kvs : List (NestedKey × V × V)) (k : NestedKey) : Option V := (kvs.find? fun p => decide (p.1 = k)).map (·.2.2)
abbrev PairM (kvs : List (NestedKey × V × V)) (xs : List (NestedKey × Value × Value)) : Prop := Paired (fun p q => p.1 = q.1 ∧ RelV p.2.1 q.2.1 ∧ RelV p.2.2 q.2.2) kvs xs
theorem PairM.keys {kvs : List (NestedKey × V × V)} {xs : List (NestedKey × Value × Value)} (h : PairM kvs xs) : kvs.map (·.1) = xs.map (·.1) := by
  induction h with
  | nil => rfl
  | cons e _ ih => rw [List.map_cons, List.map_cons, e.1, ih]
theorem PairM.len {kvs : List (NestedKey × V × V)} {xs : List (NestedKey × Value × Value)} (h : PairM kvs xs) : kvs.length = xs.length := by
  induction h with
  | nil => rfl
  | cons e _ ih => rw [List.length_cons, List.length_cons, ih]
theorem PairM.at {kvs : List (NestedKey × V × V)} {xs : List (NestedKey × Value × Value)} (h : PairM kvs xs) (k : NestedKey) : RelO (atM kvs k) (atN xs k) := by
  unfold atM atN
  induction h with
  | nil => first | exact True.intro | exact .none | exact ⟨⟩
  | @cons a b l1 l2 e _ ih =>
    rw [List.find?_cons, List.find?_cons, e.1]
    cases decide (b.1 = k) with
    | true => exact e.2.2
    | false => exact ih
theorem PairM.put {kvs : List (NestedKey × V × V)} {xs : List (NestedKey × Value × Value)} (h : PairM kvs xs) {k : NestedKey} {x v : V} {u r : Value} (rx : RelV x u) (rv : RelV v r) : PairM (putM kvs k x v) (storeN xs k u r) := by
  unfold putM storeN
  rw [h.keys]
  split
  · rename_i hin
    clear rx hin
    induction h with
    | nil => exact .nil
    | @cons a b l1 l2 e _ ih =>
      rw [List.map_cons, List.map_cons]
      refine .cons ?_ ih
      unfold putN
      rw [e.1]
      split
      · exact ⟨rfl, e.2.1, rv⟩
      · exact e
  · exact h.snoc ⟨rfl, rx, rv⟩
/-- it is there, and so are its keys -/
structure MixD (w : World) (H : Hp) (a : Addr) (kvs : List (NestedKey × V × V)) : Prop where
  at_ : H a = some (MixO w a kvs)
  keys : ∀ p ∈ kvs, KeyV H p.1 p.2.1
section
variable {X : Cx} {pins : List (Addr × Obj)} {σ : St} {H : Hp} {s : Shared} {a : Addr} {kvs : List (NestedKey × V × V)} {k : NestedKey} {x v : V} {u r : Value} {A : Around} {E : Value → Shared → Prop}
theorem PairM.keysN {xs : List (NestedKey × Value × Value)} (p : PairM kvs xs) (I : Inv X pins σ H s) (hk : ∀ p ∈ kvs, KeyV H p.1 p.2.1) : KeysN s.heap xs := by
  induction p with
  | nil => exact fun y hy => nomatch hy
  | @cons c d l1 l2 e _ ih =>
    intro y hy
    rcases List.mem_cons.mp hy with rfl | z
    · have q := (hk c List.mem_cons_self).is I e.2.1
      rw [e.1] at q
      exact q
    · exact ih (fun p hp => hk p (List.mem_cons_of_mem _ hp)) y z
theorem MixD.dict (I : Inv X pins σ H s) (m : MixD X.w H a kvs) : kvs.length ≤ sizeLine ∧ (a == sysModules) = false ∧ ∃ xs, PairM kvs xs ∧ DictN X.w s.heap a xs := by
  obtain ⟨⟨few, hd, xs, p, o, es, ep, h1, h2, h3, h4, h5⟩, _, _⟩ := I.hok a _ m.at_
  refine ⟨few, hd, xs, p, o, es, ep, h1, h2, h3, h4, PairM.keysN p I m.keys, h5⟩
end
end L2
set_option Elab.async false
set_option linter.all false
set_option maxRecDepth 100000
set_option maxHeartbeats 4000000
/-! d[k] = v, d[k], k in d in terms, for dicts of flat keys and tuples. -/
namespace L2
open PySem PySem.Spec PyProof.Rows MX
/-- the keys stay where the heap only grows -/
theorem KeyV.same {H H2 : Hp} {k : NestedKey} {x : V} (f : KeyV H k x) (s : Same H H2) : KeyV H2 k x := by
  cases f with
  | flat g => exact .flat g
  | tup h g => exact .tup (s _ _ h) g
theorem MixD.same {w : World} {H H2 : Hp} {a : Addr} {kvs : List (NestedKey × V × V)} (m : MixD w H a kvs) (s : Same H H2) : MixD w H2 a kvs := ⟨s _ _ m.at_, fun p hp => (m.keys p hp).same s⟩
/-- stored -/
theorem MixD.put {w : World} {H : Hp} {a : Addr} {kvs : List (NestedKey × V × V)} {k : NestedKey} {x v : V} (m : MixD w H a kvs) (hk : KeyV H k x) : MixD w (upd H a (MixO w a (putM kvs k x v))) a (putM kvs k x v) := by
  have up : ∀ {j : NestedKey} {y : V}, KeyV H j y → KeyV (upd H a (MixO w a (putM kvs k x v))) j y := fun f => by
    cases f with
    | flat g => exact .flat g
    | tup h g =>
      refine .tup ?_ g
      rw [upd_ne fun z => ?_]
      · exact h
      · rw [z, m.at_] at h
        cases h
  refine ⟨upd_same, fun p hp => ?_⟩
  unfold putM at hp
  split at hp
  · obtain ⟨q, hq, rfl⟩ := List.mem_map.mp hp
    have z := up (m.keys q hq)
    split
    · exact z
    · exact z
  · rcases List.mem_append.mp hp with z | z
    · exact up (m.keys p z)
    · obtain rfl := List.mem_singleton.mp z
      exact up hk
theorem MixD.new {w : World} {H : Hp} {a : Addr} : MixD w (upd H a (MixO w a [])) a [] := ⟨upd_same, fun p hp => nomatch hp⟩
end L2
set_option Elab.async false
set_option linter.all false
set_option maxRecDepth 100000
set_option maxHeartbeats 4000000
/-! for k in d, d a dict of flat keys and tuples. -/
namespace L2
open PySem PySem.Spec PyProof.Rows MX
theorem PairM.get {kvs : List (NestedKey × V × V)} {xs : List (NestedKey × Value × Value)} (h : PairM kvs xs) {i : Nat} {p : NestedKey × V × V} (e : kvs[i]? = some p) : ∃ q, xs[i]? = some q ∧ RelV p.2.1 q.2.1 ∧ RelV p.2.2 q.2.2 := by
  induction h generalizing i with
  | nil => simp at e
  | @cons a b l1 l2 r _ ih =>
    cases i with
    | zero =>
      rw [List.getElem?_cons_zero] at e
      cases e
      exact ⟨b, rfl, r.2⟩
    | succ j =>
      rw [List.getElem?_cons_succ] at e ⊢
      exact ih e
end L2
set_option Elab.async false
set_option linter.all false
set_option maxRecDepth 100000
set_option maxHeartbeats 4000000
/-! Dicts whose keys are tuples that may be objects of the module too. -/
namespace L2
open PySem PySem.Spec PyProof.Rows
theorem ent_prog (P P' : Program) (w : World) : (entryOfKey (tupleKind (mixKind P w)) : List Key × Addr × Value → DictEntry) = entryOfKey (tupleKind (mixKind P' w)) := rfl
abbrev P2 (as : List Addr) (kvs : List (List Key × V)) (xs : List (List Key × Addr × Value)) : Prop := as = xs.map (·.2.1) ∧ Paired (fun (p : List Key × V) (q : List Key × Addr × Value) => p.1 = q.1 ∧ RelV p.2 q.2.2) kvs xs
/-- the dict at d: its keys' addresses, its keys and what stands under them -/
def DX (w : World) (d : Addr) (as : List Addr) (kvs : List (List Key × V)) : HO := .ext fun h => kvs.length ≤ sizeLine ∧ (d == sysModules) = false ∧ ∃ (P : Program) (xs : List (List Key × Addr × Value)), P2 as kvs xs ∧
  ∃ o es ep, h.get? d = some o ∧ o.ExactDict ∧ o.data = .dict es ep ∧ es.toList = xs.map (entryOfKey (tupleKind (mixKind P w))) ∧ (xs.map (·.1)).Nodup
/-- the keys stand there -/
abbrev KyA (K : PySem.W.Frag) (H : Hp) (as : List Addr) (kvs : List (List Key × V)) : Prop := Paired (fun a kv => SqT K H a (kv.1.map kV)) as kvs
theorem dx_ok {P : Program} {w : World} {H : Hp} {h : Heap} {d : Addr} {as : List Addr} {kvs : List (List Key × V)} {xs : List (List Key × Addr × Value)} (few : kvs.length ≤ sizeLine) (hd : (d == sysModules) = false) (r : P2 as kvs xs)
    (x : ∃ o es ep, h.get? d = some o ∧ o.ExactDict ∧ o.data = .dict es ep ∧ es.toList = xs.map (entryOfKey (tupleKind (mixKind P w))) ∧ (xs.map (·.1)).Nodup) : ObjOk P w H h d (DX w d as kvs) := by
  refine ⟨⟨few, hd, P, xs, r, x⟩, ?_, fun h1 h2 z k => ?_⟩
  · obtain ⟨o, es, ep, e, _⟩ := x
    exact ⟨o, e⟩
  · obtain ⟨few2, hd2, P2, xs2, r2, o, es, ep, e, q⟩ := z
    exact ⟨few2, hd2, P2, xs2, r2, o, es, ep, k _ e, q⟩
theorem p2_val {as : List Addr} {kvs : List (List Key × V)} {xs : List (List Key × Addr × Value)} (r : P2 as kvs xs) (k : List Key) : RelO (valV kvs k) ((atKey xs k).map (·.2)) := by
  replace r := r.2
  induction r with
  | nil => exact True.intro
  | @cons p q ps qs h t ih =>
    obtain ⟨h1, h2⟩ := h
    by_cases e : p.1 = k
    · have e' : q.1 = k := h1.symm.trans e
      have b : atKey (q :: qs) k = some q.2 := by simp [atKey, List.find?_cons, e']
      rw [valV_pos e, b]; exact h2
    · have e' : ¬ q.1 = k := fun z => e (h1.trans z)
      have b : atKey (q :: qs) k = atKey qs k := by simp [atKey, List.find?_cons, e']
      rw [valV_neg e, b]; exact ih
theorem p2_len {as : List Addr} {kvs : List (List Key × V)} {xs : List (List Key × Addr × Value)} (r : P2 as kvs xs) : kvs.length = xs.length := Paired.length r.2
theorem p2_put {as : List Addr} {kvs : List (List Key × V)} {xs : List (List Key × Addr × Value)} (r : P2 as kvs xs) {k : List Key} {b : Addr} {v : V} {u : Value} (n : valV kvs k = none) (rv : RelV v u) : P2 (as ++ [b]) (kvs ++ [(k, v)]) (storedH xs k b u) := by
  have e := (p2_val r k).isSome_eq
  rw [n, Option.isSome_map] at e
  unfold storedH
  rw [if_neg (by rw [← e]; decide)]
  refine ⟨by rw [r.1, List.map_append]; rfl, Paired.snoc r.2 ⟨rfl, rv⟩⟩
section
variable {X : Cx} {pins : List (Addr × Obj)} {σ : St} {H : Hp} {s : Shared} {d b : Addr} {as : List Addr} {kvs : List (List Key × V)} {k : List Key} {v : V} {u r : Value} {A : Around} {E : Value → Shared → Prop}
theorem Inv.keyT (I : Inv X pins σ H s) (h : SqT X.K H b (k.map kV)) : (tupleKind (mixKind X.prog X.w)).is s.heap k b := by
  obtain ⟨its, r, ⟨o, h1, h2, n, h3⟩, _⟩ := I.tuple h
  exact ⟨o, its.toArray, n, h1, h2, h3, by simpa using items_are r⟩
theorem Inv.keysT (I : Inv X pins σ H s) {xs : List (List Key × Addr × Value)} (ky : KyA X.K H as kvs) (r : P2 as kvs xs) : ∀ x ∈ xs, (tupleKind (mixKind X.prog X.w)).is s.heap x.1 x.2.1 := by
  obtain ⟨e, r⟩ := r
  subst e
  induction r with
  | nil => exact fun x hx => nomatch hx
  | cons h _ ih =>
    rw [List.map_cons] at ky
    cases ky with
    | cons a t =>
      intro x hx
      rcases List.mem_cons.mp hx with rfl | hx
      · rw [h.1] at a
        exact I.keyT a
      · exact ih t x hx
theorem dx_dict (I : Inv X pins σ H s) (e : Rd H d (DX X.w d as kvs)) (ky : KyA X.K H as kvs) : kvs.length ≤ sizeLine ∧ (d == sysModules) = false ∧ ∃ xs, P2 as kvs xs ∧ s.heap.DictOfH (tupleKind (mixKind X.prog X.w)) d xs := by
  obtain ⟨⟨few, hd, P, xs, p, o, es, ep, h1, h2, h3, h4, h5⟩, _, _⟩ := (show ObjOk X.prog X.w H s.heap d (DX X.w d as kvs) from e.ok I.hok)
  refine ⟨few, hd, xs, p, o, es, ep, h1, h2, h3, ?_, I.keysT ky p, h5⟩
  rw [h4, ent_prog P X.prog X.w]
end
/-- what the dict at a holds at the key y -/
def DGetY (w : World) (K : PySem.W.Frag) (H : Hp) (a : Addr) (y : V) (r : Option V) : Prop :=
  ∃ as kvs k b, Rd H a (DX w a as kvs) ∧ KyA K H as kvs ∧ y = .ref b ∧ SqT K H b (k.map kV) ∧ r = valV kvs k
/-- the heap behind a[y] = v, y new -/
def DPutY (w : World) (K : PySem.W.Frag) (H : Hp) (a : Addr) (y v : V) (H' : Hp) : Prop :=
  ∃ as kvs k b, H a = some (DX w a as kvs) ∧ KyA K H as kvs ∧ y = .ref b ∧ SqT K H b (k.map kV) ∧ valV kvs k = none ∧ kvs.length < sizeLine ∧ H' = upd H a (DX w a (as ++ [b]) (kvs ++ [(k, v)]))
def tDGetY (w : World) (K : PySem.W.Frag) (td ty : TE) : TE := fun σ H Q => td σ H fun x H1 => ty σ H1 fun y H2 => ∃ a v, x = .ref a ∧ DGetY w K H2 a y (some v) ∧ Q v H2
def tDInY (w : World) (K : PySem.W.Frag) (ty td : TE) : TE := fun σ H Q => ty σ H fun y H1 => td σ H1 fun x H2 => ∃ a o, x = .ref a ∧ DGetY w K H2 a y o ∧ Q (.bl o.isSome) H2
def tDNotInY (w : World) (K : PySem.W.Frag) (ty td : TE) : TE := fun σ H Q => ty σ H fun y H1 => td σ H1 fun x H2 => ∃ a o, x = .ref a ∧ DGetY w K H2 a y o ∧ Q (.bl (!o.isSome)) H2
def sDPutY (w : World) (K : PySem.W.Frag) (td ty tv : TE) : TS := fun D σ H => tv σ H fun v H1 => td σ H1 fun x H2 => ty σ H2 fun y H3 => ∃ a H4, x = .ref a ∧ DPutY w K H3 a y v H4 ∧ D.nx σ H4
section
variable {X : Cx} {o i value : Expr} {pos pos' : Pos} {td ty tv : TE}
theorem pe_dgetY {w : World} {K : PySem.W.Frag} (hw : X.w = w) (hk : X.K = K) (hu : X.A.units + 1 < cLine) (ho : PE X o td) (hi : PE X i ty) (hs : NoSl i) : PE X (.Subscript o i pos) (tDGetY w K td ty) := by
  subst hw hk
  refine ⟨fun pins s σ H Q I h => ?_⟩
  refine subD_of PySem.F.slot_dict_getitem.lookup hs (thn (ho.run pins s σ H _ I h) fun u s1 ⟨x, H1, I1, rx, q1⟩ => thn (hi.run pins s1 σ H1 _ I1 q1) fun iv s2 ⟨y, H2, I2, ry, a, v, ex, g, q2⟩ => ?_)
  subst ex
  obtain rfl : u = Value.ref a := rx
  obtain ⟨as, kvs, k, b, e, ky, rfl, eb, l⟩ := g
  obtain rfl : iv = Value.ref b := ry
  obtain ⟨z, hd, xs, rel, dd⟩ := dx_dict I2 e ky
  obtain ⟨w', hw, rw'⟩ := RelO.some_of (v := v) (o := (atKey xs k).map (·.2)) (by rw [l]; exact p2_val rel k)
  obtain ⟨p, hp, hp2⟩ := Option.map_eq_some_iff.mp hw
  refine ⟨dd.typeIs, wpAny_getItem_heap (tupleKind_room_in1 hu) (I2.keyT eb) dd hp ?_⟩
  rw [hp2]
  exact ⟨v, H2, I2.tok _, rw', q2⟩
theorem pc_dinY {w : World} {K : PySem.W.Frag} (hw : X.w = w) (hk : X.K = K) (hu : X.A.units + 1 < cLine) (hi : PE X i ty) (ho : PE X o td) : PC X .In i o (tDInY w K ty td) := by
  subst hw hk
  refine ⟨fun pins s σ H Q I h => ?_⟩
  refine thn (hi.run pins s σ H _ I h) fun iv s1 ⟨y, H1, I1, ry, q1⟩ => thn (ho.run pins s1 σ H1 _ I1 q1) fun u s2 ⟨x, H2, I2, rx, a, ov, ex, g, q2⟩ => ?_
  subst ex
  obtain rfl : u = Value.ref a := rx
  obtain ⟨as, kvs, k, b, e, ky, rfl, eb, l⟩ := g
  obtain rfl : iv = Value.ref b := ry
  obtain ⟨z, hd, xs, rel, dd⟩ := dx_dict I2 e ky
  refine wpAny_in_heap (tupleKind_room_in1 hu) (I2.keyT eb) hd dd ?_
  have q := (p2_val rel k).isSome_eq
  rw [Option.isSome_map] at q
  rw [← q, ← l]
  exact ⟨.bl ov.isSome, H2, I2.tok _, rfl, q2⟩
theorem pc_dnotinY {w : World} {K : PySem.W.Frag} (hw : X.w = w) (hk : X.K = K) (hu : X.A.units + 1 < cLine) (hi : PE X i ty) (ho : PE X o td) : PC X .NotIn i o (tDNotInY w K ty td) := by
  subst hw hk
  refine ⟨fun pins s σ H Q I h => ?_⟩
  refine thn (hi.run pins s σ H _ I h) fun iv s1 ⟨y, H1, I1, ry, q1⟩ => thn (ho.run pins s1 σ H1 _ I1 q1) fun u s2 ⟨x, H2, I2, rx, a, ov, ex, g, q2⟩ => ?_
  subst ex
  obtain rfl : u = Value.ref a := rx
  obtain ⟨as, kvs, k, b, e, ky, rfl, eb, l⟩ := g
  obtain rfl : iv = Value.ref b := ry
  obtain ⟨z, hd, xs, rel, dd⟩ := dx_dict I2 e ky
  refine wpAny_notIn_heap (tupleKind_room_in1 hu) (I2.keyT eb) hd dd ?_
  have q := (p2_val rel k).isSome_eq
  rw [Option.isSome_map] at q
  rw [← q, ← l]
  exact ⟨.bl (!ov.isSome), H2, I2.tok _, rfl, q2⟩
theorem ps_dputY {w : World} {K : PySem.W.Frag} (hw : X.w = w) (hk : X.K = K) (hu : X.A.units + 1 < cLine) (ho : PE X o td) (hi : PE X i ty) (hv : PE X value tv) (hs : swapsWith value (some (.Subscript o i pos')) pos.line X.env = pure false) :
    PS X (.Assign [.Subscript o i pos'] value pos) (sDPutY w K td ty tv) := by
  subst hw hk
  refine ⟨fun pins s σ H D I h => ?_⟩
  refine wpAny_Assign_Subscript (thn (hv.run pins s σ H _ I h) fun r s1 ⟨v, H1, I1, rv, q1⟩ => thn (ho.run pins s1 σ H1 _ I1 q1) fun u s2 ⟨x, H2, I2, rx, q2⟩ => thn (hi.run pins s2 σ H2 _ I2 q2) fun iv s3 ⟨y, H3, I3, ry, a, H4, ex, g, q3⟩ => ?_) hs
  subst ex
  obtain rfl : u = Value.ref a := rx
  obtain ⟨as, kvs, k, b, e, ky, rfl, eb, n, l, rfl⟩ := g
  obtain rfl : iv = Value.ref b := ry
  obtain ⟨z, hd, xs, rel, dd⟩ := dx_dict I3 (.inl e) ky
  have hz : xs.length ≤ sizeLine := by rw [← p2_len rel]; exact z
  refine wpAny_setItem_heap (hsz := hz) (tupleKind_room_in1 hu) (I3.keyT eb) dd fun h' dd' hs => ⟨σ, _, ?_, q3⟩
  obtain ⟨q, es, ep, hq, h2, h3, h4, _, h5⟩ := dd'
  exact d_write I3 (by rw [e]; exact True.intro) hs ⟨q, hq⟩ (dx_ok (by rw [List.length_append, List.length_singleton]; omega) hd (p2_put rel n rv) ⟨q, es, ep, hq, h2, h3, h4, h5⟩)
def tDNewY (w : World) : TE := fun _ H Q => ∀ p, H p = none → Q (.ref p) (upd H p (DX w p [] []))
theorem dx_new {X : Cx} {pins : List (Addr × Obj)} {σ : St} {H : Hp} {s : Shared} (I : Inv X pins σ H s) : Inv X pins σ (upd H s.heap.objs.size (DX X.w s.heap.objs.size [] [])) { s with heap := s.heap.push { cls := .type "dict", data := .dict #[] } } :=
  I.laid (a := s.heap.objs.size) (t' := s.toks) (fun _ _ q => Heap.get?_push_of_some _ q) (Nat.le_refl _)
    (dx_ok (P := X.prog) (xs := []) (Nat.zero_le _) (beq_eq_false_iff_ne.mpr (Ne.symm (Nat.ne_of_lt I.big))) ⟨rfl, .nil⟩ ⟨_, #[], 0, Heap.get?_push_size _ rfl, ⟨rfl, rfl, rfl⟩, rfl, rfl, List.nodup_nil⟩)
theorem pe_dnewY {w : World} {pos : Pos} (hw : X.w = w) : PE X (.Dict [] [] pos) (tDNewY w) := by
  subst hw
  exact ⟨fun pins s σ H Q I h =>
  wpAny_Dict_empty ⟨.ref s.heap.objs.size, _, dx_new I, rfl, h _ (I.hok.fresh (Nat.le_refl _))⟩⟩
def tDispY (w : World) (K : PySem.W.Frag) (tk tv : TE) : TE := fun σ H Q => ∀ p, H p = none → tPairs [(tk, tv)] σ (upd H p (DX w p [] [])) fun ps H2 => H2 p = some (DX w p [] []) ∧ ∃ (k : List Key) (b : Addr) (y : V), ps = [(.ref b, y)] ∧ SqT K H2 b (k.map kV) ∧ Q (.ref p) (upd H2 p (DX w p [b] [(k, y)]))
theorem pe_dispY {pos : Pos} {k v : Expr} {tk tv : TE} {w : World} {K : PySem.W.Frag} (hw : X.w = w) (hk : X.K = K) (hu : X.A.units + 1 < cLine) (h : PPs X pos [some k] [v] [(tk, tv)]) : PE X (.Dict [some k] [v] pos) (tDispY w K tk tv) := by
  subst hw hk
  refine ⟨fun pins s σ H Q I q => ?_⟩
  have hn := I.hok.fresh (Nat.le_refl s.heap.objs.size)
  have I1 := dx_new I
  rw [arm_eval_Dict, zip_pairTrees [some k] [v] X.env pos rfl rfl, dictDisplay_pairs _ (by intro z; cases z) (by show 1 < 17; decide)]
  refine wpAny_bind (wpAny_standAt (wpAny_bind ?_))
  unfold subDict
  refine wpAny_bind (wpAny_alloc ?_)
  refine wpAny_bind (wpAny_holding ?_)
  rw [if_pos (show (pairTrees [some k] [v] X.env pos).length ≤ 15 from by show 1 ≤ 15; decide)]
  refine wpAny_bind (thn (h.run pins _ σ _ _ I1 (q _ hn)) fun vs s2 ⟨ps, H2, I2, rel, e, kk, b, y, ep, eb, q2⟩ => ?_)
  subst ep
  obtain ⟨⟨u1, u2⟩, rfl, r1, r2⟩ : ∃ w : Value × Value, vs = [w] ∧ RelV (.ref b) w.1 ∧ RelV y w.2 := by
    cases rel with
    | cons r t =>
      cases t
      exact ⟨_, rfl, r.1, r.2⟩
  cases (show u1 = Value.ref b from r1)
  refine wpAny_holding ?_
  obtain ⟨z, hd, xs, rl, dd⟩ := dx_dict I2 (.inl e) .nil
  obtain rfl : xs = [] := by
    have := p2_len rl
    exact List.length_eq_zero_iff.mp this.symm
  rw [List.forIn_cons]
  refine wpAny_bind (wpAny_bind ?_)
  show wpAny _ _ (do dictSet s.heap.objs.size (.ref b) u2; pure (ForInStep.yield PUnit.unit)) _ _ _
  refine wpAny_bind (wpAny_dictSet_heap (hsz := Nat.zero_le _) (knd := tupleKind (mixKind X.prog X.w)) (show X.A.units < cLine by omega) (I2.keyT eb) dd fun h' dd' hs => ?_)
  refine wpAny_pure ?_
  dsimp only
  rw [List.forIn_nil]
  refine wpAny_pure ?_
  refine wpAny_pure ?_
  refine wpAny_pure ?_
  refine wpAny_pure ⟨.ref s.heap.objs.size, _, ?_, rfl, q2⟩
  obtain ⟨q, es, ep, hq, h2, h3, h4, _, h5⟩ := dd'
  exact d_write I2 (by rw [e]; exact True.intro) hs ⟨q, hq⟩ (dx_ok (by show 1 ≤ sizeLine; decide) hd (p2_put (b := b) rl rfl r2) ⟨q, es, ep, hq, h2, h3, h4, h5⟩)
def rLenX (w : World) (K : PySem.W.Frag) : List V → Hp → VK → Prop := fun xs H Q => ∃ (p : Addr) (as : List Addr) (kvs : List (List Key × V)), xs = [.ref p] ∧ H p = some (DX w p as kvs) ∧ KyA K H as kvs ∧ Q (.int ((kvs.length : Nat) : Int)) H
theorem call_len_dX {w : World} {K : PySem.W.Frag} (hw : X.w = w) (hk : X.K = K) : CallR X (.builtin "len") (rLenX w K) := by
  subst hw hk
  intro pins s σ H xs us Q I r h
  obtain ⟨p, as, kvs, rfl, hp, ky, q⟩ := h
  obtain ⟨u, rfl, rx⟩ := vals1 r
  obtain rfl : u = .ref p := rx
  obtain ⟨z, hd, ys, rel, dd⟩ := dx_dict I (.inl hp) ky
  have hl : kvs.length = ys.length := p2_len rel
  refine call_len_dictH hd dd (by rw [← hl]; rw [sizeLine_eq] at z; omega) ?_
  rw [← hl]
  exact ⟨.int ((kvs.length : Nat) : Int), H, I.tok _, ⟨_, rfl⟩, q⟩
end
/-- the keys of the locked dict at d, in their order -/
def Itx (w : World) (d : Addr) (o : Obj) (as : List Addr) (kvs : List (List Key × V)) : It :=
  ⟨fun i H => H d = some (.frz o (DX w d as kvs)) ∧ i < as.length, fun i H x H' => H' = H ∧ ∃ b, as[i]? = some b ∧ x = .ref b, fun i H => H d = some (.frz o (DX w d as kvs)) ∧ as.length ≤ i⟩
section
variable {X : Cx} {pins : List (Addr × Obj)} {σ : St} {H : Hp} {s : Shared} {d : Addr} {o : Obj} {as : List Addr} {kvs : List (List Key × V)}
theorem Inv.frzX (I : Inv X pins σ H s) (h : H d = some (.frz o (DX X.w d as kvs))) : (d == sysModules) = false ∧ s.heap.get? d = some o ∧ o.ExactDict ∧ ∃ (es : Array DictEntry) (ep : Nat), o.data = .dict es ep ∧ es.size = as.length ∧
    ∀ (i : Nat) (b : Addr), as[i]? = some b → ∃ en : DictEntry, es[i]? = some en ∧ en.key = .ref b := by
  obtain ⟨ho, ⟨few, hs, P, xs, p, o', es, ep, ho', hx, hdt, he, _⟩, _, _⟩ := I.hok d _ h
  rw [ho] at ho'
  cases ho'
  have l1 : es.size = xs.length := by rw [← Array.length_toList, he, List.length_map]
  obtain ⟨rfl, _⟩ := p
  refine ⟨hs, ho, hx, es, ep, hdt, by rw [List.length_map, l1], fun i b e => ?_⟩
  rw [List.getElem?_map] at e
  obtain ⟨q, hq, rfl⟩ := Option.map_eq_some_iff.mp e
  refine ⟨entryOfKey (tupleKind (mixKind P X.w)) q, ?_, rfl⟩
  rw [← Array.getElem?_toList, he, List.getElem?_map, hq]
  rfl
end
section
variable {P : Program} {w : World} {K : PySem.W.Frag} {tg : Expr} {d : Addr} {o : Obj} {es : Array DictEntry} {ep : Nat}
theorem turn_keysX {as : List Addr} {kvs : List (List Key × V)} (it : Addr) (hod : o.data = .dict es ep) : Turn P w K tg (Itx w d o as kvs) [it] it (fun i h => h.IsKeyIter it d i as.length ep) where
  mem := by simp
  obj := fun i h st b hb => by
    obtain rfl : b = it := by simpa using hb
    obtain ⟨oi, e, c, dd⟩ := st
    exact ⟨oi, e, fun v z => by rw [dd] at z; cases z⟩
  keep := fun i h h' st k => st.at fun oi e => k it (by simp) oi e
  item := by
    intro X hP hw hK hc i pins s σ H E I hf st hg
    subst hP hw hK
    obtain ⟨hd, hi⟩ := hg
    obtain ⟨f0, f1, f2, f3, f4, f5⟩ := hf it (by simp)
    obtain ⟨hs, hgd, hx, es', ep', hdt, hsz, ent⟩ := I.frzX hd
    obtain ⟨rfl, rfl⟩ := dict_ep hod hdt
    obtain ⟨b, hb⟩ : ∃ b, as[i]? = some b := ⟨as[i], List.getElem?_eq_getElem hi⟩
    obtain ⟨en, hen, hr⟩ := ent i b hb
    refine next_key_item st hgd hdt hsz hen fun h' st' sb => ?_
    have I1 : Inv X pins σ H { s with heap := h' } := I.turned (t' := s.toks) (fun b ob hb e => (sb.2 b hb).trans e) f0 f1 f3 f4 f5
    obtain ⟨oi, e, c, dd⟩ := id st'
    exact ⟨en.key, rfl, go_of (s := { s with heap := h' }) e c dd (by decide) ⟨.ref b, H, I1, hr, ⟨rfl, b, hb, rfl⟩, st', fun b hb => (hf b hb).1⟩⟩
  done := by
    intro X hP hw hK hc i pins s σ H E I hf st hg
    subst hP hw hK
    obtain ⟨hd, hi⟩ := hg
    obtain ⟨f0, f1, f2, f3, f4, f5⟩ := hf it (by simp)
    obtain ⟨hs, hgd, hx, es', ep', hdt, hsz, ent⟩ := I.frzX hd
    obtain ⟨rfl, rfl⟩ := dict_ep hod hdt
    exact next_key_end (I.ok.hd hc) st hgd hdt hsz hi fun h' eb => ⟨rfl, I.turned (t' := s.toks) (fun b ob hb e => eb b ob hb e) f0 f1 f3 f4 f5⟩
  self := fun A i s Q E st h => wpAny_pyIter_keyiter st h
theorem walk_keysX {as : List Addr} {kvs : List (List Key × V)} : Walk (Itx w d o as kvs) as.length (fun H => H d = some (.frz o (DX w d as kvs))) (fun i H x H' => H' = H ∧ ∃ b, as[i]? = some b ∧ x = .ref b) :=
  ⟨fun _ _ hi q => ⟨q, hi⟩, fun _ q => ⟨q, Nat.le_refl _⟩, fun _ _ _ _ _ _ y => y⟩
def iKeysXt (w : World) (td : TE) : TI := fun σ H R => td σ H fun x H1 => ∃ d o as kvs, x = .ref d ∧ H1 d = some (.frz o (DX w d as kvs)) ∧ R (Itx w d o as kvs) H1
end
section
variable {X : Cx} {tg e : Expr} {td : TE}
/-- for k in d, d locked -/
theorem pi_keysXt {w : World} (hw : X.w = w) (he : PE X e td) : PI X tg e (iKeysXt w td) := by
  subst hw
  refine ⟨fun pins s σ H R I h => ?_⟩
  refine thn (he.run pins s σ H _ I h) fun u s1 ⟨x, H1, I1, rx, d, o, as, kvs, ex, hd, q⟩ => ?_
  subst ex
  obtain rfl : u = Value.ref d := rx
  obtain ⟨hs, hgd, hx, es, ep, hdt, hsz, ent⟩ := I1.frzX hd
  refine iter_keys hs hgd hx hdt (pi_one (tk := s1.toks) I1 _ (turn_keysX _ hdt) ⟨_, Heap.get?_push_size _ rfl, rfl, ?_⟩ q)
  rw [hsz] <;> rfl
end
end L2
set_option Elab.async false
set_option linter.all false
set_option maxRecDepth 100000
set_option maxHeartbeats 8000000
set_option pp.maxSteps 900
/-! Places as tuples of two texts; the small functions of meetings. -/
namespace V8
open PySem PySem.Spec PyProof.Rows L2 MZ
variable {K : PySem.W.Frag} {ω : World}
abbrev s_other_side : Stmt := topS 49
theorem sc_other_side : FnScope ["side"] ["side"] (defScope s_other_side) := ⟨rfl, rfl, rfl, by decide +kernel, rfl, by decide +kernel, by decide +kernel⟩
abbrev s_place_behind : Stmt := topS 50
theorem sc_place_behind : FnScope ["ahead", "rest", "word"] ["ahead", "rest", "word"] (defScope s_place_behind) := ⟨rfl, rfl, rfl, by decide +kernel, rfl, by decide +kernel, by decide +kernel⟩
abbrev s_moves_from : Stmt := topS 51
abbrev n_moves_from : List Str := ["first", "second", "place", "ahead", "rest", "taker", "pairs", "tried", "word", "label", "move"]
theorem sc_moves_from : FnScope ["first", "second", "place", "ahead", "rest", "taker", "pairs", "tried", "word", "label", "move"] ["first", "second", "place"] (defScope s_moves_from) := ⟨rfl, rfl, rfl, by decide +kernel, rfl, by decide +kernel, by decide +kernel⟩
abbrev s_with_label : Stmt := topS 55
theorem sc_with_label : FnScope ["way", "taker", "label", "one", "other"] ["way", "taker", "label"] (defScope s_with_label) := ⟨rfl, rfl, rfl, by decide +kernel, rfl, by decide +kernel, by decide +kernel⟩
abbrev s_lead_of : Stmt := topS 57
theorem sc_lead_of : FnScope ["way", "one", "other"] ["way"] (defScope s_lead_of) := ⟨rfl, rfl, rfl, by decide +kernel, rfl, by decide +kernel, by decide +kernel⟩
/-! ### texts -/
theorem starts_Sx (a b : List Nat) : Txt.startswith (Sx a) (Sx b) = b.isPrefixOf a := by
  unfold Txt.startswith
  rw [PySem.StrLaws.subAt_eq, Sx_len, Sx_len]
  have e : ∀ x : List Nat, (Sx x).cps.toList = x := fun x => by show x.toArray.toList = x; simp
  rw [e, e, List.drop_zero, Bool.eq_iff_iff, Bool.and_eq_true, decide_eq_true_iff, beq_iff_eq, List.isPrefixOf_iff_prefix]
  constructor
  · rintro ⟨_, h⟩
    rw [← h]
    exact List.take_prefix _ _
  · rintro ⟨z, rfl⟩
    exact ⟨by rw [List.length_append]; omega, List.take_left⟩
theorem cut_Sx (a : List Nat) (k : Nat) (h : k ≤ a.length) : cutS (Sx a) (some ((k : Nat) : Int)) none = Sx (a.drop k) := by
  unfold cutS
  rw [HT.sIx_none, HT.sIx_nat, Sx_len, Nat.min_eq_left h]
  have e : (Sx a).cps.toList = a := by show a.toArray.toList = a; simp
  rw [e]
  show Str.mk _ = Str.mk _
  congr 2
  rw [List.take_of_length_le]
  rw [List.length_drop]
  omega
theorem Sx_app (a b : List Nat) : Sx a ++ Sx b = Sx (a ++ b) := by
  show Str.mk (a.toArray ++ b.toArray) = Str.mk (a ++ b).toArray
  simp
theorem Sx_eq (a b : List Nat) : decide (V.str (Sx a) = V.str (Sx b)) = decide (a = b) := decide_eq_decide.mpr ⟨fun e => Sx_inj (V.str.inj e), fun e => by rw [e]⟩
/-! ### places -/
def sideS (b : Bool) : Str := if b = true then "one" else "two"
def plS : Pl → Str × Str
  | .start => ("start", "")
  | .fin => ("end", "")
  | .rest a r => (sideS a, Sx r)
def plV (p : Pl) : List V := [.str (plS p).1, .str (plS p).2]
def plK (p : Pl) : List Key := [Sum.inr (plS p).1, Sum.inr (plS p).2]
theorem side_inj {a b : Bool} (h : sideS a = sideS b) : a = b := by
  cases a <;> cases b
  · rfl
  · exact absurd h (by decide +kernel)
  · exact absurd h (by decide +kernel)
  · rfl
theorem plS_inj {p q : Pl} (h : plS p = plS q) : p = q := by
  have h1 := congrArg Prod.fst h
  have h2 := congrArg Prod.snd h
  have ns : ∀ a : Bool, sideS a ≠ "start" ∧ sideS a ≠ "end" := fun a => by cases a <;> exact ⟨by decide +kernel, by decide +kernel⟩
  cases p with
  | start =>
    cases q with
    | start => rfl
    | fin => exact absurd (show ("start" : Str) = "end" from h1) (by decide +kernel)
    | rest a r => exact absurd (show ("start" : Str) = sideS a from h1).symm (ns a).1
  | fin =>
    cases q with
    | start => exact absurd (show ("end" : Str) = "start" from h1) (by decide +kernel)
    | fin => rfl
    | rest a r => exact absurd (show ("end" : Str) = sideS a from h1).symm (ns a).2
  | rest a r =>
    cases q with
    | start => exact absurd (show sideS a = "start" from h1) (ns a).1
    | fin => exact absurd (show sideS a = "end" from h1) (ns a).2
    | rest b s =>
      rw [side_inj (show sideS a = sideS b from h1), Sx_inj (show Sx r = Sx s from h2)]
theorem plK_inj {p q : Pl} (h : plK p = plK q) : p = q := by
  unfold plK at h
  injection h with h1 h2
  injection h2 with h2 _
  exact plS_inj (Prod.ext (Sum.inr.inj h1) (Sum.inr.inj h2))
/-- what keeps a tuple -/
theorem sq_mono {K : PySem.W.Frag} {H H' : Hp} {b : Addr} {xs : List V} (h : SqT K H b xs) (k : ∀ o, H b = some o → (o = .tup xs ∨ ∃ od, o = .frz od (.tup xs)) → H' b = some o) : SqT K H' b xs := by
  rcases h with (h | ⟨od, h⟩) | h
  · exact .inl (.inl (k _ h (.inl rfl)))
  · exact .inl (.inr ⟨od, k _ h (.inr ⟨od, rfl⟩)⟩)
  · exact .inr h
theorem sq_same {K : PySem.W.Frag} {H H' : Hp} {b : Addr} {xs : List V} (h : SqT K H b xs) (s : Same H H') : SqT K H' b xs := sq_mono h fun o e _ => s _ _ e
theorem sq_ne {K : PySem.W.Frag} {H : Hp} {b D : Addr} {xs : List V} {o u : HO} (h : SqT K H b xs) (hD : H D = some u) (n : u ≠ .tup xs) (n2 : ∀ od, u ≠ .frz od (.tup xs)) : SqT K (upd H D o) b xs := sq_mono h fun v e z => by
  rw [upd_ne fun q => ?_]
  · exact e
  · rw [q, hD] at e
    cases e
    rcases z with z | ⟨od, z⟩
    · exact n z
    · exact n2 od z
theorem sq_lst {K : PySem.W.Frag} {H : Hp} {b D : Addr} {xs ys : List V} {o : HO} (h : SqT K H b xs) (hD : H D = some (.lst ys)) : SqT K (upd H D o) b xs := sq_ne h hD (fun z => nomatch z) (fun _ z => nomatch z)
theorem sq_dx {K : PySem.W.Frag} {ω : World} {H : Hp} {b D : Addr} {xs : List V} {as : List Addr} {kvs : List (List Key × V)} {o : HO} (h : SqT K H b xs) (hD : H D = some (DX ω D as kvs)) : SqT K (upd H D o) b xs := sq_ne h hD (fun z => nomatch z) (fun _ z => nomatch z)
/-- the tuples that the text itself keeps -/
structure CnH (K : PySem.W.Frag) (aS aE aV : Addr) (H : Hp) : Prop where
  st : SqT K H aS (plV .start)
  en : SqT K H aE (plV .fin)
  ev : SqT K H aV [.str (sideS true), .str (Sx [])]
theorem CnH.same {aS aE aV : Addr} {H H' : Hp} (c : CnH K aS aE aV H) (s : Same H H') : CnH K aS aE aV H' := ⟨sq_same c.st s, sq_same c.en s, sq_same c.ev s⟩
structure Tm (mg : Str → Option Value) (aS aE aV : Addr) : Prop extends Blt mg where
  gSTART : GV mg "START" (.ref aS)
  gEND : GV mg "END" (.ref aE)
  gEVEN : GV mg "EVEN" (.ref aV)
  any : mg "any" = none
def spOther : Sp := fun vs H Q _ => ∃ a : Bool, vs = [.str (sideS a)] ∧ Q (.str (sideS (!a))) H
/-- where a word leads, as a value -/
def PlO (K : PySem.W.Frag) (H : Hp) (v : V) : Option Pl → Prop
  | none => v = .non
  | some p => ∃ b, v = .ref b ∧ SqT K H b (plV p)
def spBehind (K : PySem.W.Frag) (aS aE aV : Addr) : Sp := fun vs H Q _ => ∃ (a : Bool) (r w : Wd), vs = [.str (sideS a), .str (Sx r), .str (Sx w)] ∧ CnH K aS aE aV H ∧ r.length ≤ 5 ∧ w.length ≤ 5 ∧ ∀ v H', Same H H' → PlO K H' v (behind a r w) → Q v H'
/-- the labels of both rows, as a tuple -/
def WyT (H : Hp) (b : Addr) (w : List Nat × List Nat) : Prop := H b = some (.tup [.str (Sx w.1), .str (Sx w.2)])
def spLabel : Sp := fun vs H Q _ => ∃ (b : Addr) (w : List Nat × List Nat) (t : Bool) (l : Nat), vs = [.ref b, .str (sideS t), .str (L1 l)] ∧ WyT H b w ∧ w.1.length ≤ 2000 ∧ w.2.length ≤ 2000 ∧ ∀ c H', Same H H' → WyT H' c (put t l w) → Q (.ref c) H'
def LdO (K : PySem.W.Frag) (H : Hp) (v : V) : Option (Bool × List Nat) → Prop
  | none => v = .non
  | some k => ∃ b, v = .ref b ∧ SqT K H b [.str (sideS k.1), .str (Sx k.2)]
def spLead (K : PySem.W.Frag) : Sp := fun vs H Q _ => ∃ (b : Addr) (w : List Nat × List Nat), vs = [.ref b] ∧ WyT H b w ∧ w.1.length ≤ 2000 ∧ w.2.length ≤ 2000 ∧ ∀ v H', Same H H' → LdO K H' v (lead w) → Q v H'
section
variable {P : Program} {w : World} {K : PySem.W.Frag} {mg : Str → Option Value} {base : Heap} {aS aE aV : Addr}
theorem ok_other {f : Addr} {fd : FuncData} (F : Fun K "other_side" "other_side" s_other_side f fd) (T : Tm mg aS aE aV) : FnOk P w K mg base CX0 1 f fd ["side"] spOther := by
  refine F.ok sc_other_side (fun vs H Q E h => ?_) (fun cdv A outer s H vs Q E hr h => ?_)
  · obtain ⟨a, rfl, _⟩ := h
    rfl
  · obtain ⟨a, rfl, q⟩ := h
    refine ⟨_, (pss_one (ps_ret (pe_ifExp (pt_cmpR op_eq (pv 0) pe_str (nomark _)) pe_str pe_str))), ?_⟩
    cases a with
    | true =>
      refine ⟨_, rfl, rfl, _, rfl, ?_⟩
      rw [decide_eq_true (show V.str (sideS true) = V.str "one" from rfl)]
      exact iteT q
    | false =>
      refine ⟨_, rfl, rfl, _, rfl, ?_⟩
      rw [decide_eq_false (show ¬ V.str (sideS false) = V.str "one" from fun e => nomatch side_inj (V.str.inj e : sideS false = sideS true))]
      exact iteF q
theorem ok_behind {f : Addr} {fd : FuncData} (F : Fun K "place_behind" "place_behind" s_place_behind f fd) (T : Tm mg aS aE aV) (D_other_side : Df P w K mg base 1 "other_side" spOther) : FnOk P w K mg base CX0 2 f fd ["ahead", "rest", "word"] (spBehind K aS aE aV) := by
  refine F.ok sc_place_behind (fun vs H Q E h => ?_) (fun cdv A outer s H vs Q E hr h => ?_)
  · obtain ⟨a, r, w, rfl, _⟩ := h
    rfl
  · obtain ⟨a, r, w, rfl, cn, hr9, hw9, q⟩ := h
    refine ⟨_, (pss_cons (ps_if (pt_cmpR op_eq (pv 2) (pv 1) (nomark _))
        (pss_one (ps_ret (pe_gv T.gEND (by rfl))))
        pss_nil)
      (pss_cons (ps_if (pt_truth (pe_bmK (K := K) rfl PySem.F.plainAttrs_str PySem.F.slot_str_startswith PySem.F.type_str_startswith mt_startswith (pv 1) (pa_cons (pv 2) pa_nil)) (by intro _; rfl))
        (pss_one (ps_ret (pe_tup (pa_cons (pv 0) (pa_cons (pe_slice sl_str (pv 1) (po_some (pe_callB call_len_str (by rfl) T.len (by decide +kernel) (pa_cons (pv 2) pa_nil))) po_none) pa_nil)))))
        pss_nil)
      (pss_cons (ps_if (pt_truth (pe_bmK (K := K) rfl PySem.F.plainAttrs_str PySem.F.slot_str_startswith PySem.F.type_str_startswith mt_startswith (pv 2) (pa_cons (pv 1) pa_nil)) (by intro _; rfl))
        (pss_one (ps_ret (pe_tup (pa_cons (pe_c D_other_side hr (by decide) (by rfl) (pa_cons (pv 0) pa_nil)) (pa_cons (pe_slice sl_str (pv 2) (po_some (pe_callB call_len_str (by rfl) T.len (by decide +kernel) (pa_cons (pv 1) pa_nil))) po_none) pa_nil)))))
        pss_nil)
      (pss_one (ps_ret pe_non))))), ?_⟩
    unfold behind at q
    refine ⟨_, rfl, _, rfl, rfl, _, rfl, ?_⟩
    rw [Sx_eq]
    by_cases e : w = r
    · rw [if_pos e] at q
      rw [decide_eq_true e]
      exact iteT (q _ H (Same.refl H) ⟨aE, rfl, cn.en⟩)
    rw [if_neg e] at q
    rw [decide_eq_false e]
    refine iteF ?_
    refine ⟨_, rfl, rfl, _, rfl, _, _, rfl, rfl, _, rfl, ?_⟩
    rw [starts_Sx]
    cases e1 : w.isPrefixOf r with
    | true =>
      rw [if_pos e1] at q
      have lw : w.length ≤ r.length := (List.isPrefixOf_iff_prefix.mp e1).length_le
      refine iteT ⟨_, rfl, _, rfl, _, rfl, Sx w, rfl, by rw [Sx_len, sizeLine_eq]; omega, _, rfl, _, rfl, by rw [Sx_len, sizeLine_eq]; omega, by show 2 ≤ sizeLine; decide, fun b nb => ?_⟩
      rw [Sx_len, cut_Sx r w.length lw]
      exact q _ _ (same_put (s := Same.refl H) nb) ⟨b, rfl, SqT.of upd_same⟩
    | false =>
      rw [if_neg (by rw [e1]; decide)] at q
      refine iteF ?_
      refine ⟨_, rfl, rfl, _, rfl, _, _, rfl, rfl, _, rfl, ?_⟩
      rw [starts_Sx]
      cases e2 : r.isPrefixOf w with
      | true =>
        rw [if_pos e2] at q
        have lw : r.length ≤ w.length := (List.isPrefixOf_iff_prefix.mp e2).length_le
        refine iteT ⟨_, rfl, a, rfl, _, rfl, _, rfl, Sx r, rfl, by rw [Sx_len, sizeLine_eq]; omega, _, rfl, _, rfl, by rw [Sx_len, sizeLine_eq]; omega, by show 2 ≤ sizeLine; decide, fun b nb => ?_⟩
        rw [Sx_len, cut_Sx w r.length lw]
        exact q _ _ (same_put (s := Same.refl H) nb) ⟨b, rfl, SqT.of upd_same⟩
      | false =>
        rw [if_neg (by rw [e2]; decide)] at q
        exact iteF (q _ H (Same.refl H) rfl)
theorem ok_with_label {f : Addr} {fd : FuncData} (F : Fun K "with_label" "with_label" s_with_label f fd) (T : Tm mg aS aE aV) : FnOk P w K mg base CX0 1 f fd ["way", "taker", "label"] spLabel := by
  refine F.ok sc_with_label (fun vs H Q E h => ?_) (fun cdv A outer s H vs Q E hr h => ?_)
  · obtain ⟨b, y, t, l, rfl, _⟩ := h
    rfl
  · obtain ⟨b, y, t, l, rfl, hb, l1, l2, q⟩ := h
    refine ⟨_, (pss_cons (ps_asg (pv 0) (pg_tup (by rfl) (pgs_cons (pg_name (i := 3) sc_with_label.nd rfl (.inl rfl)) (pgs_cons (pg_name (i := 4) sc_with_label.nd rfl (.inl rfl)) pgs_nil))))
      (pss_one (ps_ret (pe_ifExp (pt_cmpR op_eq (pv 1) pe_str (nomark _)) (pe_tup (pa_cons (pe_op op_add_str (pv 3) (pv 2)) (pa_cons (pv 4) pa_nil))) (pe_tup (pa_cons (pv 3) (pa_cons (pe_op op_add_str (pv 4) (pv 2)) pa_nil))))))), ?_⟩
    refine ⟨_, rfl, b, _, rfl, .inl (.inl hb), rfl, _, _, rfl, _, _, rfl, rfl, ?_⟩
    refine ⟨_, rfl, rfl, _, rfl, ?_⟩
    have e1 : (L1 l) = Sx [l] := rfl
    cases t with
    | true =>
      rw [decide_eq_true (show V.str (sideS true) = V.str "one" from rfl)]
      refine iteT ⟨_, rfl, _, rfl, _, _, rfl, rfl, by rw [Sx_len, sizeLine_eq]; show _ + 1 ≤ _; omega, _, rfl, by show 2 ≤ sizeLine; decide, fun c nc => ?_⟩
      rw [e1, Sx_app]
      exact q _ _ (same_put (s := Same.refl H) nc) upd_same
    | false =>
      rw [decide_eq_false (show ¬ V.str (sideS false) = V.str "one" from fun e => nomatch side_inj (V.str.inj e : sideS false = sideS true))]
      refine iteF ⟨_, rfl, _, rfl, _, rfl, _, _, rfl, rfl, by rw [Sx_len, sizeLine_eq]; show _ + 1 ≤ _; omega, by show 2 ≤ sizeLine; decide, fun c nc => ?_⟩
      rw [e1, Sx_app]
      exact q _ _ (same_put (s := Same.refl H) nc) upd_same
theorem ok_lead_of {f : Addr} {fd : FuncData} (F : Fun K "lead_of" "lead_of" s_lead_of f fd) (T : Tm mg aS aE aV) : FnOk P w K mg base CX0 1 f fd ["way"] (spLead K) := by
  refine F.ok sc_lead_of (fun vs H Q E h => ?_) (fun cdv A outer s H vs Q E hr h => ?_)
  · obtain ⟨b, y, rfl, _⟩ := h
    rfl
  · obtain ⟨b, y, rfl, hb, l1, l2, q⟩ := h
    refine ⟨_, (pss_cons (ps_asg (pv 0) (pg_tup (by rfl) (pgs_cons (pg_name (i := 1) sc_lead_of.nd rfl (.inl rfl)) (pgs_cons (pg_name (i := 2) sc_lead_of.nd rfl (.inl rfl)) pgs_nil))))
      (pss_cons (ps_if (pt_truth (pe_bmK (K := K) rfl PySem.F.plainAttrs_str PySem.F.slot_str_startswith PySem.F.type_str_startswith mt_startswith (pv 1) (pa_cons (pv 2) pa_nil)) (by intro _; rfl))
        (pss_one (ps_ret (pe_tup (pa_cons pe_str (pa_cons (pe_slice sl_str (pv 1) (po_some (pe_callB call_len_str (by rfl) T.len (by decide +kernel) (pa_cons (pv 2) pa_nil))) po_none) pa_nil)))))
        pss_nil)
      (pss_cons (ps_if (pt_truth (pe_bmK (K := K) rfl PySem.F.plainAttrs_str PySem.F.slot_str_startswith PySem.F.type_str_startswith mt_startswith (pv 2) (pa_cons (pv 1) pa_nil)) (by intro _; rfl))
        (pss_one (ps_ret (pe_tup (pa_cons pe_str (pa_cons (pe_slice sl_str (pv 2) (po_some (pe_callB call_len_str (by rfl) T.len (by decide +kernel) (pa_cons (pv 1) pa_nil))) po_none) pa_nil)))))
        pss_nil)
      (pss_one (ps_ret pe_non))))), ?_⟩
    unfold lead at q
    refine ⟨_, rfl, b, _, rfl, .inl (.inl hb), rfl, _, _, rfl, _, _, rfl, rfl, ?_⟩
    refine ⟨_, rfl, rfl, _, rfl, _, _, rfl, rfl, _, rfl, ?_⟩
    rw [starts_Sx]
    cases e1 : y.2.isPrefixOf y.1 with
    | true =>
      rw [if_pos e1] at q
      have lw : y.2.length ≤ y.1.length := (List.isPrefixOf_iff_prefix.mp e1).length_le
      refine iteT ⟨_, rfl, _, rfl, Sx y.2, rfl, by rw [Sx_len, sizeLine_eq]; omega, _, rfl, _, rfl, by rw [Sx_len, sizeLine_eq]; omega, by show 2 ≤ sizeLine; decide, fun c nc => ?_⟩
      rw [Sx_len, cut_Sx _ _ lw]
      exact q _ _ (same_put (s := Same.refl H) nc) ⟨c, rfl, SqT.of upd_same⟩
    | false =>
      rw [if_neg (by rw [e1]; decide)] at q
      refine iteF ?_
      refine ⟨_, rfl, rfl, _, rfl, _, _, rfl, rfl, _, rfl, ?_⟩
      rw [starts_Sx]
      cases e2 : y.1.isPrefixOf y.2 with
      | true =>
        rw [if_pos e2] at q
        have lw : y.1.length ≤ y.2.length := (List.isPrefixOf_iff_prefix.mp e2).length_le
        refine iteT ⟨_, rfl, _, rfl, Sx y.1, rfl, by rw [Sx_len, sizeLine_eq]; omega, _, rfl, _, rfl, by rw [Sx_len, sizeLine_eq]; omega, by show 2 ≤ sizeLine; decide, fun c nc => ?_⟩
        rw [Sx_len, cut_Sx _ _ lw]
        exact q _ _ (same_put (s := Same.refl H) nc) ⟨c, rfl, SqT.of upd_same⟩
      | false =>
        rw [if_neg (by rw [e2]; decide)] at q
        exact iteF (q _ H (Same.refl H) rfl)
end
end V8
set_option Elab.async false
set_option linter.all false
set_option maxRecDepth 100000
set_option maxHeartbeats 8000000
set_option pp.maxSteps 900
/-! The steps from a place. -/
namespace V8
open PySem PySem.Spec PyProof.Rows L2 MZ
variable {K : PySem.W.Frag} {ω : World}
theorem via {t : TE} {σ : L2.St} {H : Hp} {R : VK} (A : V → Hp → Prop) (h1 : ∀ R' : VK, (∀ v H', A v H' → R' v H') → t σ H R') (h2 : ∀ v H', A v H' → R v H') : t σ H R := h1 R h2
def PlOk : Pl → Prop
  | .rest _ r => r.length ≤ 5 ∧ ∀ c ∈ r, isLt c
  | _ => True
def PrOk (P : List Pr) : Prop := P.length ≤ 10 ∧ ∀ q ∈ P, q.1.length ≤ 5 ∧ ∀ c ∈ q.1, isLt c
def MoT (K : PySem.W.Frag) (H : Hp) (v : V) (m : Mo) : Prop := ∃ c b, v = .ref c ∧ H c = some (.tup [.str (sideS m.1), .str (L1 m.2.1), .ref b]) ∧ SqT K H b (plV m.2.2)
def MoL (K : PySem.W.Frag) (H : Hp) (v : V) (ms : List Mo) : Prop := ∃ d xs, v = .ref d ∧ H d = some (.lst xs) ∧ Paired (MoT K H) xs ms
def PrT (H : Hp) (v : V) (q : Pr) : Prop := ∃ c, v = .ref c ∧ H c = some (.tup [.str (Sx q.1), .str (L1 q.2)])
def PrL (H : Hp) (a : Addr) (P : List Pr) : Prop := ∃ xs, H a = some (.lst xs) ∧ Paired (PrT H) xs P
theorem MoT.same {H H' : Hp} {v : V} {m : Mo} (h : MoT K H v m) (s : Same H H') : MoT K H' v m := by
  obtain ⟨c, b, e, h1, h2⟩ := h
  exact ⟨c, b, e, s _ _ h1, sq_same h2 s⟩
theorem PrT.same {H H' : Hp} {v : V} {q : Pr} (h : PrT H v q) (s : Same H H') : PrT H' v q := by
  obtain ⟨c, e, h1⟩ := h
  exact ⟨c, e, s _ _ h1⟩
theorem prd_imp {α β : Type} {R S : α → β → Prop} {xs : List α} {ys : List β} (h : Paired R xs ys) (i : ∀ x y, R x y → S x y) : Paired S xs ys := by
  induction h with
  | nil => exact .nil
  | cons r _ ih => exact .cons (i _ _ r) ih
theorem prd_at {α β : Type} {R : α → β → Prop} {xs : List α} {ys : List β} (h : Paired R xs ys) {i : Nat} {x : α} (e : xs[i]? = some x) : ∃ y, ys[i]? = some y ∧ R x y := by
  induction h generalizing i with
  | nil => simp at e
  | @cons a b l m r _ ih =>
    cases i with
    | zero =>
      rw [List.getElem?_cons_zero] at e ⊢
      exact ⟨b, rfl, Option.some.inj e ▸ r⟩
    | succ j =>
      rw [List.getElem?_cons_succ] at e ⊢
      exact ih e
theorem prd_len {α β : Type} {R : α → β → Prop} {xs : List α} {ys : List β} (h : Paired R xs ys) : xs.length = ys.length := Paired.length h
theorem PrL.same {H H' : Hp} {a : Addr} {P : List Pr} (h : PrL H a P) (s : Same H H') : PrL H' a P := by
  obtain ⟨xs, h1, h2⟩ := h
  exact ⟨xs, s _ _ h1, prd_imp h2 fun _ _ r => r.same s⟩
theorem shaped_of {d : PyData} (h : d.canLay0 = true) (h2 : d.depth ≤ 64) : SeqAt.shaped d = true := by
  show (d.canLay0 && decide (d.depth ≤ 64)) = true
  rw [h, decide_eq_true h2]
  rfl
theorem MoT.put {H : Hp} {v : V} {m : Mo} {D : Addr} {ys : List V} {o : HO} (h : MoT K H v m) (hD : H D = some (.lst ys)) : MoT K (upd H D o) v m := by
  obtain ⟨c, b, e, h1, h2⟩ := h
  exact ⟨c, b, e, by rw [upd_ne (ne_of h1 hD (fun z => nomatch z))]; exact h1, sq_lst h2 hD⟩
/-- tried: who takes, the label, and where to, or None -/
def TrT (K : PySem.W.Frag) (a : Bool) (r : Wd) (H : Hp) (v : V) (q : Pr) : Prop := ∃ c z, v = .ref c ∧ H c = some (.tup [.str (sideS (!a)), .str (L1 q.2), z]) ∧ PlO K H z (behind a r q.1)
theorem PlO.same {H H' : Hp} {v : V} {o : Option Pl} (h : PlO K H v o) (s : Same H H') : PlO K H' v o := by
  cases o with
  | none => exact h
  | some p =>
    obtain ⟨b, e, h1⟩ := h
    exact ⟨b, e, sq_same h1 s⟩
theorem PlO.put {H : Hp} {v : V} {q : Option Pl} {D : Addr} {ys : List V} {o : HO} (h : PlO K H v q) (hD : H D = some (.lst ys)) : PlO K (upd H D o) v q := by
  cases q with
  | none => exact h
  | some p =>
    obtain ⟨b, e, h1⟩ := h
    exact ⟨b, e, sq_lst h1 hD⟩
theorem TrT.same {a : Bool} {r : Wd} {H H' : Hp} {v : V} {q : Pr} (h : TrT K a r H v q) (s : Same H H') : TrT K a r H' v q := by
  obtain ⟨c, z, e, h1, h2⟩ := h
  exact ⟨c, z, e, s _ _ h1, h2.same s⟩
theorem TrT.put {a : Bool} {r : Wd} {H : Hp} {v : V} {q : Pr} {D : Addr} {ys : List V} {o : HO} (h : TrT K a r H v q) (hD : H D = some (.lst ys)) : TrT K a r (upd H D o) v q := by
  obtain ⟨c, z, e, h1, h2⟩ := h
  exact ⟨c, z, e, by rw [upd_ne (ne_of h1 hD (fun z => nomatch z))]; exact h1, h2.put hD⟩
def plD (p : Pl) : PyData := .tuple [.str (plS p).1, .str (plS p).2]
theorem pl_shaped {p : Pl} (h : PlOk p) : SeqAt.shaped (plD p) = true := by
  have ok : PyData.strOk (plS p).1 = true ∧ PyData.strOk (plS p).2 = true := by
    cases p with
    | start => exact ⟨by decide +kernel, by decide +kernel⟩
    | fin => exact ⟨by decide +kernel, by decide +kernel⟩
    | rest a r =>
      refine ⟨?_, ok_sx h.2⟩
      cases a with
      | true => exact (show PyData.strOk (sideS true) = true by decide +kernel)
      | false => exact (show PyData.strOk (sideS false) = true by decide +kernel)
  refine shaped_of (by simp only [plD, PyData.canLay0, PyData.canLayAll0, ok.1, ok.2]; rfl) ?_
  simp [plD, PyData.depth, PyData.depthAll]
theorem pl_eqv (p q : Pl) : PyData.eqv (plD p) (plD q) = decide (p = q) := by
  show (PyData.eqv (.str (plS p).1) (.str (plS q).1) && (PyData.eqv (.str (plS p).2) (.str (plS q).2) && true)) = _
  show (decide ((plS p).1 = (plS q).1) && (decide ((plS p).2 = (plS q).2) && true)) = _
  rw [Bool.and_true, Bool.eq_iff_iff, Bool.and_eq_true, decide_eq_true_iff, decide_eq_true_iff, decide_eq_true_iff]
  exact ⟨fun h => plS_inj (Prod.ext h.1 h.2), fun h => by rw [h]; exact ⟨rfl, rfl⟩⟩
theorem pl_dp {K : PySem.W.Frag} {H : Hp} {b : Addr} {p : Pl} (h : SqT K H b (plV p)) : Dp K H (.ref b) (plD p) := .tup h (.cons (.str _) (.cons (.str _) .nil))
def spMoves (K : PySem.W.Frag) (aS aE aV : Addr) : Sp := fun vs H Q _ => ∃ (f1 f2 b : Addr) (P S : List Pr) (p : Pl), vs = [.ref f1, .ref f2, .ref b] ∧ PrL H f1 P ∧ PrL H f2 S ∧ SqT K H b (plV p) ∧ CnH K aS aE aV H ∧ PlOk p ∧ PrOk P ∧ PrOk S ∧
  ∀ v H', Same H H' → MoL K H' v (moves P S p) → (∃ d, v = .ref d ∧ H d = none) → Q v H'
section
variable {P : Program} {w : World} {K : PySem.W.Frag} {mg : Str → Option Value} {base : Heap} {aS aE aV : Addr}
theorem ok_moves {f : Addr} {fd : FuncData} (F : Fun K "moves_from" "moves_from" s_moves_from f fd) (T : Tm mg aS aE aV) (D_other_side : Df P w K mg base 1 "other_side" spOther) (D_place_behind : Df P w K mg base 2 "place_behind" (spBehind K aS aE aV)) : FnOk P w K mg base CX0 3 f fd ["first", "second", "place"] (spMoves K aS aE aV) := by
  refine F.ok sc_moves_from (fun vs H Q E h => ?_) (fun cdv A outer s H vs Q E hr h => ?_)
  · obtain ⟨f1, f2, b, P, S, p, rfl, _⟩ := h
    rfl
  · obtain ⟨f1, f2, b, P1, S1, p, rfl, hP, hS, hb, cn, po, okP, okS, q⟩ := h
    refine ⟨_, (pss_cons (ps_if (pt_cmpR (op_eqDK (K := K) rfl hr.units) (pv 2) (pe_gv T.gEND (by rfl)) (nomark _))
        (pss_one (ps_ret (pe_lst pa_nil)))
        pss_nil)
      (pss_cons (ps_if (pt_cmpR (op_eqDK (K := K) rfl hr.units) (pv 2) (pe_gv T.gSTART (by rfl)) (nomark _))
        (pss_one (ps_ret (pe_lc (own := [("word", 8), ("label", 9)]) (g := gTup K 2 (gCons (gName 8) (gCons (gName 9) gNil))) (by rfl) sc_moves_from.nd (pi_list (pv 0)) (blkOk_by (own := [("word", 8), ("label", 9)]) (N := n_moves_from) (sc := defScope s_moves_from) (by decide +kernel)) (fun _ _ _ _ _ => (pg_tup (by rfl) (pgs_cons (pg_name (i := 8) sc_moves_from.nd rfl (.inl rfl)) (pgs_cons (pg_name (i := 9) sc_moves_from.nd rfl (.inl rfl)) pgs_nil)))) (fun _ _ _ _ _ => pts_nil) (fun _ _ _ _ _ => (pe_tup (pa_cons pe_str (pa_cons (pv 9) (pa_cons (pe_tup (pa_cons pe_str (pa_cons (pv 8) pa_nil))) pa_nil))))))))
        pss_nil)
      (pss_cons (ps_asg (pv 2) (pg_tup (by rfl) (pgs_cons (pg_name (i := 3) sc_moves_from.nd rfl (.inr rfl)) (pgs_cons (pg_name (i := 4) sc_moves_from.nd rfl (.inr rfl)) pgs_nil))))
      (pss_cons (ps_set (i := 5) sc_moves_from.nd rfl (.inr rfl) (pe_c D_other_side hr (by decide) (by rfl) (pa_cons (pv 3) pa_nil)))
      (pss_cons (ps_set (i := 6) sc_moves_from.nd rfl (.inl rfl) (pe_ifExp (pt_cmpR op_eq (pv 5) pe_str (nomark _)) (pv 0) (pv 1)))
      (pss_cons (ps_setLc (i := 7) (own := [("word", 8), ("label", 9)]) (g := gTup K 2 (gCons (gName 8) (gCons (gName 9) gNil))) (by rfl) sc_moves_from.nd rfl rfl (sw_true rfl rfl rfl (by decide +kernel)) (pi_list (pv 6)) (blkOk_by (own := [("word", 8), ("label", 9)]) (N := n_moves_from) (sc := defScope s_moves_from) (by decide +kernel)) (fun _ _ _ _ _ => (pg_tup (by rfl) (pgs_cons (pg_name (i := 8) sc_moves_from.nd rfl (.inl rfl)) (pgs_cons (pg_name (i := 9) sc_moves_from.nd rfl (.inl rfl)) pgs_nil)))) (fun _ _ _ _ _ => pts_nil) (fun _ _ _ _ _ => (pe_tup (pa_cons (pv 5) (pa_cons (pv 9) (pa_cons (pe_c D_place_behind hr (by decide) (by rfl) (pa_cons (pv 3) (pa_cons (pv 4) (pa_cons (pv 8) pa_nil)))) pa_nil))))))
      (pss_one (ps_ret (pe_lc (own := [("move", 10)]) (g := gName 10) (by rfl) sc_moves_from.nd (pi_list (pv 7)) (blkOk_by (own := [("move", 10)]) (N := n_moves_from) (sc := defScope s_moves_from) (by decide +kernel)) (fun _ _ _ _ _ => (pg_name (i := 10) sc_moves_from.nd rfl (.inl rfl))) (fun _ _ _ _ _ => (pts_one (pt_cmpR op_notN (pe_ix (ix_tupK (K := K) rfl) (pv 10) pe_int (fun _ _ => rfl)) pe_non (nomark _)))) (fun _ _ _ _ _ => (pv 10))))))))))), ?_⟩
    refine ⟨_, rfl, plD p, plD .fin, pl_dp hb, pl_dp cn.en, pl_shaped po, pl_shaped True.intro, _, rfl, ?_⟩
    rw [pl_eqv]
    by_cases e : p = .fin
    · subst e
      rw [decide_eq_true rfl]
      refine iteT ⟨Nat.zero_le _, fun d nd => ?_⟩
      exact q _ _ (same_put (s := Same.refl H) nd) ⟨d, [], rfl, upd_same, .nil⟩ ⟨d, rfl, nd⟩
    rw [decide_eq_false e]
    refine iteF ?_
    refine ⟨_, rfl, plD p, plD .start, pl_dp hb, pl_dp cn.st, pl_shaped po, pl_shaped True.intro, _, rfl, ?_⟩
    rw [pl_eqv]
    by_cases e2 : p = .start
    · subst e2
      rw [decide_eq_true rfl]
      obtain ⟨xs, hxs, prs⟩ := hP
      have lx := prd_len prs
      have l30 := okP.1
      refine iteT ⟨_, rfl, f1, rfl, ⟨_, SqL.of hxs⟩, fun D nD => lc_it (walk_list (K := K) (a := f1) (xs := xs)) (fun i H2 => ∃ ys, Paired (MoT K H2) ys ((moves P1 S1 .start).take i) ∧ H2 D = some (.lst ys) ∧ Same H H2) ?_ ?_ ?_ ?_⟩
      · exact ⟨[], .nil, upd_same, same_put (s := Same.refl H) nD⟩
      · rintro i H2 hi ⟨ys, _, _, s2⟩
        exact SqL.of (s2 _ _ hxs)
      · rintro i y H20 H2 hi ⟨ys, pr, hD, s2⟩ ⟨rfl, hy⟩
        obtain ⟨q0, hq0, c, rfl, hc⟩ := prd_at prs hy
        have ly := prd_len pr
        rw [List.length_take] at ly
        refine ⟨c, _, rfl, .inl (.inl (s2 _ _ hc)), rfl, _, _, rfl, _, _, rfl, rfl, ?_⟩
        refine ⟨rfl, _, rfl, _, rfl, by show 2 ≤ sizeLine; decide, fun b2 nb2 => ⟨by show 3 ≤ sizeLine; decide, fun c2 nc2 => ?_⟩⟩
        have sa := same_put (s := Same.refl H2) (o := .tup [.str "one", .str (Sx q0.1)]) nb2
        have hb2 : upd H2 b2 (.tup [.str "one", .str (Sx q0.1)]) b2 = some (.tup (plV (.rest true q0.1))) := upd_same
        have sb := same_put (s := Same.refl _) (o := .tup [.str "one", .str (L1 q0.2), .ref b2]) nc2
        have hb3 := sb _ _ hb2
        have hc2 : upd (upd H2 b2 (.tup [.str "one", .str (Sx q0.1)])) c2 (.tup [.str "one", .str (L1 q0.2), .ref b2]) c2 = some (.tup [.str (sideS true), .str (L1 q0.2), .ref b2]) := upd_same
        have hD2 := sb _ _ (sa _ _ hD)
        have mt : MoT K (upd (upd H2 b2 (.tup [.str "one", .str (Sx q0.1)])) c2 (.tup [.str "one", .str (L1 q0.2), .ref b2])) (.ref c2) (true, q0.2, .rest true q0.1) := ⟨c2, b2, rfl, hc2, SqT.of hb3⟩
        have s3 : Same H2 (upd (upd H2 b2 (.tup [.str "one", .str (Sx q0.1)])) c2 (.tup [.str "one", .str (L1 q0.2), .ref b2])) := fun b o e => sb _ _ (sa _ _ e)
        generalize upd (upd H2 b2 (.tup [.str "one", .str (Sx q0.1)])) c2 (.tup [.str "one", .str (L1 q0.2), .ref b2]) = H3 at hD2 mt s3 ⊢
        refine ⟨_, hD2, by rw [sizeLine_eq]; omega, ys ++ [.ref c2], ?_, upd_same, ?_⟩
        · have et : (moves P1 S1 .start).take (i + 1) = (moves P1 S1 .start).take i ++ [(true, q0.2, .rest true q0.1)] := by
            rw [List.take_add_one]
            show _ ++ ((P1.map _)[i]?).toList = _
            rw [List.getElem?_map, hq0]
            rfl
          rw [et]
          exact (prd_imp pr fun _ _ z => (z.same s3).put hD2).snoc (mt.put hD2)
        · intro b o e
          rw [upd_ne (ne_of_none e nD)]
          exact s3 _ _ (s2 _ _ e)
      rintro H2 ⟨ys, pr, hD, s2⟩
      rw [List.take_of_length_le (by show (P1.map _).length ≤ _; rw [List.length_map, lx]; exact Nat.le_refl _)] at pr
      exact q _ _ s2 ⟨D, ys, rfl, hD, pr⟩ ⟨D, rfl, nD⟩
    rw [decide_eq_false e2]
    refine iteF ?_
    obtain ⟨a, r, rfl⟩ : ∃ a r, p = .rest a r := by
      cases p with
      | start => exact absurd rfl e2
      | fin => exact absurd rfl e
      | rest a r => exact ⟨a, r, rfl⟩
    obtain ⟨r9, _⟩ := po
    refine ⟨_, rfl, b, _, rfl, hb, rfl, _, _, rfl, _, _, rfl, rfl, ?_⟩
    refine ⟨_, rfl, a, rfl, ?_⟩
    -- whose pairs
    refine via (t := tIf (tTest (tOp rEq (tVar 5) (tC (V.str "one")))) (tVar 0) (tVar 1)) (fun v H2 => ∃ f xs, v = .ref f ∧ H = H2 ∧ H f = some (.lst xs) ∧ Paired (PrT H) xs (if a = true then S1 else P1)) (fun R hR => ?_) (fun v H2 z => ?_)
    · refine ⟨_, rfl, rfl, _, rfl, ?_⟩
      cases a with
      | true =>
        rw [decide_eq_false (show ¬ V.str (sideS (!true)) = V.str "one" from fun e => nomatch side_inj (V.str.inj e : sideS false = sideS true))]
        obtain ⟨xs, h1, h2⟩ := hS
        exact iteF ⟨_, rfl, hR _ _ ⟨f2, xs, rfl, rfl, h1, h2⟩⟩
      | false =>
        rw [decide_eq_true (show V.str (sideS (!false)) = V.str "one" from rfl)]
        obtain ⟨xs, h1, h2⟩ := hP
        exact iteT ⟨_, rfl, hR _ _ ⟨f1, xs, rfl, rfl, h1, h2⟩⟩
    obtain ⟨f0, xs, rfl, rfl, hxs, prs⟩ := z
    have okQ : PrOk (if a = true then S1 else P1) := by
      cases a with
      | true => exact okS
      | false => exact okP
    have em : moves P1 S1 (.rest a r) = (if a = true then S1 else P1).filterMap fun q => (behind a r q.1).map fun t => (!a, q.2, t) := rfl
    rw [em] at q
    generalize (if a = true then S1 else P1) = Q1 at prs okQ q
    have lx := prd_len prs
    have l30 := okQ.1
    refine ⟨_, rfl, f0, rfl, ⟨_, SqL.of hxs⟩, fun D nD => lc_it (walk_list (K := K) (a := f0) (xs := xs)) (fun i H2 => ∃ ys, Paired (TrT K a r H2) ys (Q1.take i) ∧ H2 D = some (.lst ys) ∧ Same H H2) ?_ ?_ ?_ ?_⟩
    · exact ⟨[], .nil, upd_same, same_put (s := Same.refl H) nD⟩
    · rintro i H2 hi ⟨ys, _, _, s2⟩
      exact SqL.of (s2 _ _ hxs)
    · rintro i y H20 H2 hi ⟨ys, pr, hD, s2⟩ ⟨rfl, hy⟩
      obtain ⟨q0, hq0, c, rfl, hc⟩ := prd_at prs hy
      have ly := prd_len pr
      rw [List.length_take] at ly
      have hq1 : q0 ∈ Q1 := List.mem_of_getElem? hq0
      refine ⟨c, _, rfl, .inl (.inl (s2 _ _ hc)), rfl, _, _, rfl, _, _, rfl, rfl, ?_⟩
      refine ⟨rfl, _, rfl, _, rfl, _, rfl, _, rfl, _, rfl, a, r, q0.1, rfl, cn.same s2, r9, (okQ.2 q0 hq1).1, fun z H3 s3 hz => ⟨by show 3 ≤ sizeLine; decide, fun c2 nc2 => ?_⟩⟩
      have sb := same_put (s := Same.refl H3) (o := .tup [.str (sideS (!a)), .str (L1 q0.2), z]) nc2
      have hc2 : upd H3 c2 (.tup [.str (sideS (!a)), .str (L1 q0.2), z]) c2 = some (.tup [.str (sideS (!a)), .str (L1 q0.2), z]) := upd_same
      have s4 : Same H2 (upd H3 c2 (.tup [.str (sideS (!a)), .str (L1 q0.2), z])) := fun b o e => sb _ _ (s3 _ _ e)
      have hD2 := s4 _ _ hD
      have mt : TrT K a r (upd H3 c2 (.tup [.str (sideS (!a)), .str (L1 q0.2), z])) (.ref c2) q0 := ⟨c2, z, rfl, hc2, hz.same sb⟩
      generalize upd H3 c2 (.tup [.str (sideS (!a)), .str (L1 q0.2), z]) = H4 at hD2 mt s4 ⊢
      refine ⟨_, hD2, by rw [sizeLine_eq]; omega, ys ++ [.ref c2], ?_, upd_same, ?_⟩
      · rw [List.take_add_one, hq0]
        exact (prd_imp pr fun _ _ z => (z.same s4).put hD2).snoc (mt.put hD2)
      · intro b o e
        rw [upd_ne (ne_of_none e nD)]
        exact s4 _ _ (s2 _ _ e)
    rintro H2 ⟨ys, pr, hD, s2⟩
    rw [List.take_of_length_le (by rw [lx]; exact Nat.le_refl _)] at pr
    have ly := prd_len pr
    -- those that are none left out
    refine ⟨_, rfl, D, rfl, ⟨_, SqL.of hD⟩, fun D3 nD3 => lc_it (walk_list (K := K) (a := D) (xs := ys)) (fun i H3 => ∃ zs, Paired (MoT K H3) zs ((Q1.take i).filterMap fun q => (behind a r q.1).map fun t => (!a, q.2, t)) ∧ H3 D3 = some (.lst zs) ∧ Same H2 H3) ?_ ?_ ?_ ?_⟩
    · exact ⟨[], .nil, upd_same, same_put (s := Same.refl H2) nD3⟩
    · rintro i H3 hi ⟨zs, _, _, s3⟩
      exact SqL.of (s3 _ _ hD)
    · rintro i y H30 H3 hi ⟨zs, prz, hD3, s3⟩ ⟨rfl, hy⟩
      obtain ⟨q0, hq0, c, z, rfl, hc, hz⟩ := prd_at pr hy
      have lz := prd_len prz
      have lz2 : ((Q1.take i).filterMap fun q => (behind a r q.1).map fun t => ((!a, q.2, t) : Mo)).length ≤ 10 := Nat.le_trans (List.length_filterMap_le _ _) (by rw [List.length_take]; omega)
      have ef : (Q1.take (i + 1)).filterMap (fun q => (behind a r q.1).map fun t => ((!a, q.2, t) : Mo)) = ((Q1.take i).filterMap fun q => (behind a r q.1).map fun t => (!a, q.2, t)) ++ ((behind a r q0.1).map fun t => (!a, q0.2, t)).toList := by
        rw [List.take_add_one, hq0, List.filterMap_append]
        congr 1
      refine ⟨rfl, _, rfl, c, _, _, _, rfl, rfl, .inl (.inl (s3 _ _ hc)), atI_nat (j := 2) rfl, ?_⟩
      have hz3 := hz.same s3
      rw [ef]
      cases eb : behind a r q0.1 with
      | none =>
        rw [eb] at hz
        have hz : z = .non := hz
        subst hz
        refine ⟨rfl, false, rfl, iteF ?_⟩
        show ∃ zs, Paired (MoT K H3) zs (_ ++ []) ∧ _
        rw [List.append_nil]
        exact ⟨zs, prz, hD3, s3⟩
      | some t =>
        rw [eb] at hz3
        obtain ⟨b3, rfl, hb3⟩ := hz3
        refine ⟨rfl, true, rfl, iteT ⟨_, rfl, _, hD3, by rw [sizeLine_eq]; omega, zs ++ [.ref c], ?_, upd_same, ?_⟩⟩
        · exact (prd_imp prz fun _ _ z => z.put hD3).snoc (MoT.put ⟨c, b3, rfl, s3 _ _ hc, hb3⟩ hD3)
        · intro b o e
          rw [upd_ne (ne_of_none e nD3)]
          exact s3 _ _ e
    rintro H3 ⟨zs, prz, hD3, s3⟩
    rw [List.take_of_length_le (by omega)] at prz
    exact q _ _ (fun b o e => s3 _ _ (s2 _ _ e)) ⟨D3, zs, rfl, hD3, prz⟩ ⟨D3, rfl, same_none s2 nD3⟩
end
end V8
set_option Elab.async false
set_option linter.all false
set_option maxRecDepth 100000
set_option maxHeartbeats 8000000
set_option pp.maxSteps 900
/-! All places that can be reached, with the steps from each. -/
namespace V8
open PySem PySem.Spec PyProof.Rows L2 MZ
variable {K : PySem.W.Frag} {ω : World}
abbrev s_all_moves : Stmt := topS 52
theorem sc_all_moves : FnScope ["first", "second", "moves", "met", "queue", "place", "found", "_", "target"] ["first", "second"] (defScope s_all_moves) := ⟨rfl, rfl, rfl, by decide +kernel, rfl, by decide +kernel, by decide +kernel⟩
def PlT (K : PySem.W.Frag) (H : Hp) (b : Addr) (p : Pl) : Prop := SqT K H b (plV p)
/-- a dict with places as keys -/
def keysP (kvs : List (List Key × V)) (Q : List Pl) : Prop := kvs.map (·.1) = Q.map plK
/-- the steps of places, as values of a dict -/
def MvD (K : PySem.W.Frag) (P S : List Pr) (H : Hp) (kv : List Key × V) (p : Pl) : Prop := kv.1 = plK p ∧ MoL K H kv.2 (moves P S p)
/-- a dict of all places with their steps -/
def AllM (K : PySem.W.Frag) (ω : World) (P S : List Pr) (Q : List Pl) (H : Hp) (d : Addr) : Prop := ∃ as kvs, H d = some (DX ω d as kvs) ∧ KyA K H as kvs ∧ Paired (MvD K P S H) kvs Q
theorem MoL.same {H H' : Hp} {v : V} {ms : List Mo} (h : MoL K H v ms) (s : Same H H') : MoL K H' v ms := by
  obtain ⟨d, xs, e, h1, h2⟩ := h
  exact ⟨d, xs, e, s _ _ h1, prd_imp h2 fun _ _ r => r.same s⟩
theorem keysP_is {kvs : List (List Key × V)} {Q : List Pl} (h : keysP kvs Q) (p : Pl) : (valV kvs (plK p)).isSome = decide (p ∈ Q) := by
  rw [← valV_any, Bool.eq_iff_iff, List.any_eq_true, decide_eq_true_iff]
  constructor
  · rintro ⟨kv, hkv, e⟩
    have e := of_decide_eq_true e
    have m : plK p ∈ Q.map plK := by
      rw [← h, ← e]
      exact List.mem_map_of_mem hkv
    obtain ⟨q, hq, e2⟩ := List.mem_map.mp m
    exact plK_inj e2 ▸ hq
  · intro hp
    have m : plK p ∈ kvs.map (·.1) := by
      rw [h]
      exact List.mem_map_of_mem hp
    obtain ⟨kv, hkv, e⟩ := List.mem_map.mp m
    exact ⟨kv, hkv, decide_eq_true e⟩
theorem keysP_none {kvs : List (List Key × V)} {Q : List Pl} {p : Pl} (h : keysP kvs Q) (n : p ∉ Q) : valV kvs (plK p) = none := by
  have := keysP_is h p
  rw [decide_eq_false n] at this
  cases e : valV kvs (plK p) with
  | none => rfl
  | some v =>
    rw [e] at this
    cases this
theorem DGetY.t {H : Hp} {a b : Addr} {as : List Addr} {kvs : List (List Key × V)} {k : List Key} (e : H a = some (DX ω a as kvs)) (ky : KyA K H as kvs) (eb : SqT K H b (k.map kV)) : DGetY ω K H a (.ref b) (valV kvs k) := ⟨as, kvs, k, b, .inl e, ky, rfl, eb, rfl⟩
theorem DPutY.t {H : Hp} {a b : Addr} {as : List Addr} {kvs : List (List Key × V)} {k : List Key} {v : V} (e : H a = some (DX ω a as kvs)) (ky : KyA K H as kvs) (eb : SqT K H b (k.map kV)) (n : valV kvs k = none) (hl : kvs.length < sizeLine) :
    DPutY ω K H a (.ref b) v (upd H a (DX ω a (as ++ [b]) (kvs ++ [(k, v)]))) := ⟨as, kvs, k, b, e, ky, rfl, eb, n, hl, rfl⟩
theorem ky_same {H H' : Hp} {as : List Addr} {kvs : List (List Key × V)} (h : KyA K H as kvs) (s : Same H H') : KyA K H' as kvs := prd_imp h fun _ _ z => sq_same z s
theorem keysP_snoc {kvs : List (List Key × V)} {Q : List Pl} {p : Pl} {v : V} (h : keysP kvs Q) : keysP (kvs ++ [(plK p, v)]) (Q ++ [p]) := by
  unfold keysP at h ⊢
  rw [List.map_append, List.map_append, h]
  rfl
theorem keysP_len {kvs : List (List Key × V)} {Q : List Pl} (h : keysP kvs Q) : kvs.length = Q.length := by
  have := congrArg List.length h
  rw [List.length_map, List.length_map] at this
  exact this
/-- places that are reached are short -/
theorem reach_ok {P S : List Pr} (hP : ∀ q ∈ P, q.1 ≠ []) (oP : PrOk P) (oS : PrOk S) {p : Pl} {w : List Nat × List Nat} (h : Way P S .start p w) : PlOk p := by
  have z := (reach_uni hP h).2
  have tail : ∀ {R : List Pr} {r : Wd}, PrOk R → (∃ q ∈ R, ∃ a, q.1 = a ++ r) → r.length ≤ 5 ∧ ∀ c ∈ r, isLt c := fun {R r} o ⟨q, hq, a, e⟩ => by
    obtain ⟨h1, h2⟩ := o.2 q hq
    rw [e, List.length_append] at h1
    exact ⟨by omega, fun c hc => h2 c (by rw [e]; exact List.mem_append_right _ hc)⟩
  cases p with
  | start => trivial
  | fin => trivial
  | rest a r =>
    cases a with
    | true => exact tail oP z.2
    | false => exact tail oS z.2
theorem sum_ok {P : List Pr} (o : PrOk P) : sumL P ≤ 50 := by
  have : ∀ R : List Pr, (∀ q ∈ R, q.1.length ≤ 5) → sumL R ≤ 5 * R.length := by
    intro R
    induction R with
    | nil => intro _; exact Nat.le_refl _
    | cons q R ih =>
      intro h
      have h1 := h q List.mem_cons_self
      have h2 := ih fun x hx => h x (List.mem_cons_of_mem _ hx)
      show q.1.length + sumL R ≤ 5 * (R.length + 1)
      omega
  have h := this P fun q hq => (o.2 q hq).1
  have := o.1
  omega
theorem addTo_snoc (Q : List Pl) (f : List Mo) (m : Mo) : addTo Q (f ++ [m]) = if m.2.2 ∈ addTo Q f then addTo Q f else addTo Q f ++ [m.2.2] := by
  unfold addTo
  rw [List.foldl_append]
  rfl
/-- the search for places, step by step -/
def stepQ (P S : List Pr) (Q : List Pl) (n : Nat) : List Pl := match Q[n]? with
  | none => Q
  | some p => addTo Q (moves P S p)
def runQ (P S : List Pr) : Nat → List Pl
  | 0 => [.start]
  | n + 1 => stepQ P S (runQ P S n) n
theorem runQ_stay {P S : List Pr} {n : Nat} (h : n = (runQ P S n).length) : ∀ k, runQ P S (n + k) = runQ P S n
  | 0 => rfl
  | k + 1 => by
    show stepQ P S (runQ P S (n + k)) (n + k) = _
    rw [runQ_stay h k]
    unfold stepQ
    rw [List.getElem?_eq_none (by omega)]
/-- all places, in the order in which they are met -/
def placesQ (P S : List Pr) : List Pl := runQ P S 120
/-- what the search keeps: the places met, those gone through with their steps -/
structure Srch (K : PySem.W.Frag) (ω : World) (P S : List Pr) (mv mt qu : Addr) (H0 : Hp) (Q : List Pl) (n : Nat) (H : Hp) : Prop where
  b : Bfs P S .start Q n
  run : runQ P S n = Q
  mv_ : ∃ vs ks, H mv = some (DX ω mv vs ks) ∧ KyA K H vs ks ∧ Paired (fun kv p => MvD K P S H kv p ∧ kv.2 ≠ .ref qu) ks (Q.take n)
  mt_ : ∃ ts ms, H mt = some (DX ω mt ts ms) ∧ KyA K H ts ms ∧ keysP ms Q
  qu_ : ∃ as, H qu = some (.lst (as.map V.ref)) ∧ Paired (PlT K H) as Q
  sm : Same H0 H
theorem MvD.up {P S : List Pr} {H H' : Hp} {kv : List Key × V} {p : Pl} (h : MvD K P S H kv p) (s : Same H H') : MvD K P S H' kv p := ⟨h.1, h.2.same s⟩
/-- all but two things stays -/
def But2 (a b : Addr) (H H' : Hp) : Prop := ∀ c u, H c = some u → c ≠ a → c ≠ b → H' c = some u
theorem But2.sq {a b c : Addr} {H H' : Hp} {xs ms : List V} {ts : List Addr} {ks : List (List Key × V)} (h : But2 a b H H') (e : SqT K H c xs) (ha : H a = some (DX ω a ts ks)) (hb : H b = some (.lst ms)) : SqT K H' c xs := sq_mono e fun o eo z => by
  refine h c o eo (fun q => ?_) (fun q => ?_)
  · rw [q, ha] at eo
    cases eo
    rcases z with z | ⟨_, z⟩ <;> cases z
  · rw [q, hb] at eo
    cases eo
    rcases z with z | ⟨_, z⟩ <;> cases z
theorem But2.tup {a b c : Addr} {H H' : Hp} {xs ms : List V} {ts : List Addr} {ks : List (List Key × V)} (h : But2 a b H H') (e : H c = some (.tup xs)) (ha : H a = some (DX ω a ts ks)) (hb : H b = some (.lst ms)) : H' c = some (.tup xs) :=
  h c _ e (ne_of e ha (fun z => nomatch z)) (ne_of e hb (fun z => nomatch z))
theorem MoT.but {a b : Addr} {H H' : Hp} {v : V} {m : Mo} {ms : List V} {ts : List Addr} {ks : List (List Key × V)} (t : MoT K H v m) (h : But2 a b H H') (ha : H a = some (DX ω a ts ks)) (hb : H b = some (.lst ms)) : MoT K H' v m := by
  obtain ⟨c, d, e, h1, h2⟩ := t
  exact ⟨c, d, e, h.tup h1 ha hb, h.sq h2 ha hb⟩
theorem MoL.but {a b : Addr} {H H' : Hp} {v : V} {l : List Mo} {ms : List V} {ts : List Addr} {ks : List (List Key × V)} (t : MoL K H v l) (n : v ≠ .ref b) (h : But2 a b H H') (ha : H a = some (DX ω a ts ks)) (hb : H b = some (.lst ms)) : MoL K H' v l := by
  obtain ⟨d, xs, rfl, h1, h2⟩ := t
  exact ⟨d, xs, rfl, h d _ h1 (ne_of h1 ha (fun z => nomatch z)) (fun z => n (by rw [z])), prd_imp h2 fun _ _ r => r.but h ha hb⟩
def spAll (K : PySem.W.Frag) (ω : World) (aS aE aV : Addr) : Sp := fun vs H Q _ => ∃ (f1 f2 : Addr) (P S : List Pr), vs = [.ref f1, .ref f2] ∧ PrL H f1 P ∧ PrL H f2 S ∧ CnH K aS aE aV H ∧ PrOk P ∧ PrOk S ∧ (∀ q ∈ P, q.1 ≠ []) ∧
  ∀ (d : Addr) (Qs : List Pl) (H' : Hp), Same H H' → H d = none → Bfs P S .start Qs Qs.length → Qs = placesQ P S → AllM K ω P S Qs H' d → Q (.ref d) H'
section
variable {P : Program} {w : World} {K : PySem.W.Frag} {mg : Str → Option Value} {base : Heap} {aS aE aV : Addr}
theorem ok_all_moves {f : Addr} {fd : FuncData} (F : Fun K "all_moves" "all_moves" s_all_moves f fd) (T : Tm mg aS aE aV) (D_moves_from : Df P w K mg base 3 "moves_from" (spMoves K aS aE aV)) : FnOk P w K mg base CX0 4 f fd ["first", "second"] (spAll K w aS aE aV) := by
  refine F.ok sc_all_moves (fun vs H Q E h => ?_) (fun cdv A outer s H vs Q E hr h => ?_)
  · obtain ⟨f1, f2, P, S, rfl, _⟩ := h
    rfl
  · obtain ⟨f1, f2, P1, S1, rfl, hP, hS, cn, okP, okS, nP, q⟩ := h
    refine ⟨_, (pss_cons (ps_set (i := 2) sc_all_moves.nd rfl (.inl rfl) (pe_dnewY (w := w) rfl))
      (pss_cons (ps_set (i := 3) sc_all_moves.nd rfl (.inl rfl) (pe_dispY (w := w) (K := K) rfl rfl (hu_of hr) (pps_cons (pe_gv T.gSTART (by rfl)) pe_bl pps_nil)))
      (pss_cons (ps_set (i := 4) sc_all_moves.nd rfl (.inl rfl) (pe_lst (pa_cons (pe_gv T.gSTART (by rfl)) pa_nil)))
      (pss_cons (ps_while PassesOwn.never (pt_cmpR op_lt (pe_callB (call_len_dX (w := w) (K := K) rfl rfl) (by rfl) T.len (by decide +kernel) (pa_cons (pv 2) pa_nil)) (pe_callB (call_len_seqK (K := K) rfl) (by rfl) T.len (by decide +kernel) (pa_cons (pv 4) pa_nil)) (nomark _))
        (pss_cons (ps_set (i := 5) sc_all_moves.nd rfl (.inl rfl) (pe_ix (ix_listK (K := K) rfl) (pv 4) (pe_callB (call_len_dX (w := w) (K := K) rfl rfl) (by rfl) T.len (by decide +kernel) (pa_cons (pv 2) pa_nil)) (fun _ _ => rfl)))
        (pss_cons (ps_set (i := 6) sc_all_moves.nd rfl (.inl rfl) (pe_c D_moves_from hr (by decide) (by rfl) (pa_cons (pv 0) (pa_cons (pv 1) (pa_cons (pv 5) pa_nil)))))
        (pss_cons (ps_for PassesOwn.never rfl (pi_list (pv 6)) (pg_tup (by rfl) (pgs_cons (pg_name (i := 7) sc_all_moves.nd rfl (.inl rfl)) (pgs_cons (pg_name (i := 7) sc_all_moves.nd rfl (.inl rfl)) (pgs_cons (pg_name (i := 8) sc_all_moves.nd rfl (.inl rfl)) pgs_nil))))
          (pss_one (ps_if (pt_cmp (pc_dnotinY (w := w) (K := K) rfl rfl (hu_of hr) (pv 8) (pv 3)))
            (pss_cons (ps_dputY (w := w) (K := K) rfl rfl (hu_of hr) (pv 3) (pv 8) pe_bl rfl)
            (pss_one (ps_expr (pe_bmK (K := K) rfl PySem.F.plainAttrs_list PySem.F.slot_list_append PySem.F.type_list_append mt_append (pv 4) (pa_cons (pv 8) pa_nil)))))
            pss_nil)))
        (pss_one (ps_dputY (w := w) (K := K) rfl rfl (hu_of hr) (pv 2) (pv 5) (pv 6) rfl))))))
      (pss_one (ps_ret (pv 2))))))), ?_⟩
    refine fun mv nmv => ?_
    have s1 := same_put (s := Same.refl H) (o := DX w mv [] []) nmv
    refine fun mt nmt => ⟨?_, plK .start, aS, .bl true, rfl, ?_, ?_⟩
    · exact upd_same
    · have s2 := same_put (s := s1) (o := DX w mt [] []) nmt
      exact sq_same cn.st s2
    refine ⟨by show 1 ≤ sizeLine; decide, fun qu nqu => ?_⟩
    have mne : mv ≠ mt := ne_of_none (show upd H mv (DX w mv [] []) mv = some (DX w mv [] []) from upd_same) nmt
    rw [upd_upd] at nqu ⊢
    have s2 := same_put (s := s1) (o := DX w mt [aS] [(plK .start, V.bl true)]) nmt
    have s3 := same_put (s := s2) (o := .lst [V.ref aS]) nqu
    have s3' := same_put (s := Same.refl _) (o := .lst [V.ref aS]) nqu
    have hmv := s3' _ _ (show upd (upd H mv (DX w mv [] [])) mt (DX w mt [aS] [(plK .start, V.bl true)]) mv = some (DX w mv [] []) by rw [upd_ne mne]; exact upd_same)
    have hmt := s3' _ _ (show upd (upd H mv (DX w mv [] [])) mt (DX w mt [aS] [(plK .start, V.bl true)]) mt = some (DX w mt [aS] [(plK .start, V.bl true)]) from upd_same)
    have hqu : upd (upd (upd H mv (DX w mv [] [])) mt (DX w mt [aS] [(plK .start, V.bl true)])) qu (.lst [V.ref aS]) qu = some (.lst [V.ref aS]) := upd_same
    show Ends.nx _ _ (upd (upd (upd H mv (DX w mv [] [])) mt (DX w mt [aS] [(plK .start, V.bl true)])) qu (.lst [V.ref aS]))
    have nmtH : H mt = none := same_none s1 nmt
    have nquH : H qu = none := same_none s2 nqu
    generalize upd (upd (upd H mv (DX w mv [] [])) mt (DX w mt [aS] [(plK .start, V.bl true)])) qu (.lst [V.ref aS]) = H1 at s3 hmv hmt hqu ⊢
    clear s3' s2 s1 nqu nmt
    have R0 : Srch K w P1 S1 mv mt qu H [.start] 0 H1 := ⟨Bfs.start P1 S1 .start, rfl, ⟨[], [], hmv, .nil, .nil⟩, ⟨_, _, hmt, .cons (sq_same cn.st s3) .nil, rfl⟩, ⟨[aS], hqu, .cons (sq_same cn.st s3) .nil⟩, s3⟩
    clear hmv hmt hqu s3
    refine ⟨fun m σ H2 => ∃ (Q : List Pl) (n : Nat), m = 120 - n ∧ (∃ v5 v6 v7 v8 : Option V, σ = [some (.ref f1), some (.ref f2), some (.ref mv), some (.ref mt), some (.ref qu), v5, v6, v7, v8]) ∧ Srch K w P1 S1 mv mt qu H Q n H2, ⟨_, [.start], 0, rfl, ⟨_, _, _, _, rfl⟩, R0⟩, ?_⟩
    rintro m σ H2 ⟨Qs, n, rfl, ⟨v5, v6, v7, v8, rfl⟩, R⟩
    obtain ⟨bf, rq, ⟨vs, ks, hmv, kyv, pk⟩, ⟨ts, ms, hmt, kyt, km⟩, ⟨as, hqu, pa⟩, sm⟩ := id R
    have lk := prd_len pk
    rw [List.length_take, Nat.min_eq_left bf.le] at lk
    have la := prd_len pa
    have few := bf.few nP
    have sP := sum_ok okP
    have sS := sum_ok okS
    refine ⟨_, rfl, mv, vs, ks, rfl, hmv, kyv, _, rfl, qu, _, rfl, .inl (SqL.of hqu), _, _, rfl, rfl, _, rfl, ?_⟩
    rw [lk, List.length_map, la]
    by_cases hn : n < Qs.length
    · rw [decide_eq_true (show ((n : Nat) : Int) < ((Qs.length : Nat) : Int) by omega)]
      refine iteT ⟨fun σ' H' => ∃ m', m' < 120 - n ∧ ∃ (Q : List Pl) (n : Nat), m' = 120 - n ∧ (∃ v5 v6 v7 v8 : Option V, σ' = [some (.ref f1), some (.ref f2), some (.ref mv), some (.ref mt), some (.ref qu), v5, v6, v7, v8]) ∧ Srch K w P1 S1 mv mt qu H Q n H', fun _ _ z => z, ?_⟩
      obtain ⟨p, hp⟩ : ∃ p, Qs[n]? = some p := ⟨Qs[n], List.getElem?_eq_getElem hn⟩
      obtain ⟨b, hb, ebp⟩ : ∃ b, as[n]? = some b ∧ PlT K H2 b p := by
        have h1 : n < as.length := by omega
        obtain ⟨y, e1, e2⟩ := prd_at pa (List.getElem?_eq_getElem h1)
        rw [hp] at e1
        cases e1
        exact ⟨_, List.getElem?_eq_getElem h1, e2⟩
      have hpm : p ∈ Qs := List.mem_of_getElem? hp
      obtain ⟨w0, kw⟩ := bf.reach p hpm
      have po := reach_ok nP okP okS kw
      have hbx : (as.map V.ref)[n]? = some (.ref b) := by rw [List.getElem?_map, hb]; rfl
      refine ⟨_, rfl, _, rfl, mv, vs, ks, rfl, hmv, kyv, qu, _, _, _, rfl, rfl, SqL.of hqu, by rw [lk]; exact atI_nat (j := n) hbx, ?_⟩
      refine ⟨_, rfl, _, rfl, _, rfl, f1, f2, b, P1, S1, p, rfl, hP.same sm, hS.same sm, ebp, cn.same sm, po, okP, okS, fun v H3 s3 ml fr => ?_⟩
      have mvqu : mv ≠ qu := ne_of hmv hqu (fun z => nomatch z)
      have mtqu : mt ≠ qu := ne_of hmt hqu (fun z => nomatch z)
      obtain ⟨d0, xs, rfl, hxs, prx⟩ := ml
      have lxs := prd_len prx
      have ml30 : (moves P1 S1 p).length ≤ 10 := by
        cases p with
        | fin => exact Nat.zero_le _
        | start =>
          show (P1.map _).length ≤ 10
          rw [List.length_map]
          exact okP.1
        | rest a r =>
          refine Nat.le_trans (List.length_filterMap_le _ _) ?_
          cases a with
          | true => exact okS.1
          | false => exact okP.1
      have d0qu : d0 ≠ qu := by
        obtain ⟨d, e, n0⟩ := fr
        cases e
        exact fun z => by
          rw [z, hqu] at n0
          cases n0
      refine ⟨_, rfl, d0, rfl, ⟨_, SqL.of hxs⟩, for_it (walk_list (K := K) (a := d0) (xs := xs)) (fun i σ H4 => ∃ (as' ts' : List Addr) (ms' : List (List Key × V)), (∃ v7 v8 : Option V, σ = [some (.ref f1), some (.ref f2), some (.ref mv), some (.ref mt), some (.ref qu), some (.ref b), some (.ref d0), v7, v8]) ∧
        H4 mt = some (DX w mt ts' ms') ∧ KyA K H4 ts' ms' ∧ keysP ms' (addTo Qs ((moves P1 S1 p).take i)) ∧ H4 qu = some (.lst (as'.map V.ref)) ∧ Paired (PlT K H4) as' (addTo Qs ((moves P1 S1 p).take i)) ∧ But2 mt qu H3 H4) ?_ ?_ ?_ ?_⟩
      · exact ⟨as, ts, ms, ⟨_, _, rfl⟩, s3 _ _ hmt, ky_same kyt s3, km, s3 _ _ hqu, prd_imp pa fun _ _ z => sq_same z s3, fun _ _ e _ _ => e⟩
      · rintro i σ H4 hi ⟨as', ts', ms', _, _, _, _, _, _, u⟩
        exact SqL.of (u _ _ hxs (ne_of hxs (s3 _ _ hmt) (fun z => nomatch z)) d0qu)
      · rintro i y σ H40 H4 hi ⟨as', ts', ms', ⟨v7, v8, rfl⟩, hmt4, kyt4, km4, hqu4, pa4, u⟩ ⟨rfl, hy⟩
        obtain ⟨m, hm, mo⟩ := prd_at prx hy
        have mo4 := mo.but u (s3 _ _ hmt) (s3 _ _ hqu)
        obtain ⟨c, b4, rfl, hc4, hb4⟩ := mo4
        have lm := keysP_len km4
        have la4 := prd_len pa4
        have et : (moves P1 S1 p).take (i + 1) = (moves P1 S1 p).take i ++ [m] := by rw [List.take_add_one, hm]; rfl
        have bf1 := (bf.step hp).few nP
        have lq : (addTo Qs ((moves P1 S1 p).take i)).length ≤ 102 := by
          obtain ⟨R1, e1⟩ := addTo_pre ((moves P1 S1 p).drop i) (addTo Qs ((moves P1 S1 p).take i))
          have e2 : addTo Qs (moves P1 S1 p) = addTo (addTo Qs ((moves P1 S1 p).take i)) ((moves P1 S1 p).drop i) := by
            show List.foldl _ _ _ = List.foldl _ (List.foldl _ _ _) _
            rw [← List.foldl_append, List.take_append_drop]
          rw [e2, e1, List.length_append] at bf1
          omega
        refine ⟨c, _, rfl, .inl (.inl hc4), rfl, _, _, rfl, _, _, rfl, _, _, rfl, rfl, ?_⟩
        refine ⟨_, rfl, _, rfl, mt, _, rfl, DGetY.t (k := plK m.2.2) hmt4 kyt4 hb4, _, rfl, ?_⟩
        rw [keysP_is km4, et, addTo_snoc]
        by_cases hin : m.2.2 ∈ addTo Qs ((moves P1 S1 p).take i)
        · rw [decide_eq_true hin, if_pos hin]
          exact iteF ⟨as', ts', ms', ⟨_, _, rfl⟩, hmt4, kyt4, km4, hqu4, pa4, u⟩
        · rw [decide_eq_false hin, if_neg hin]
          refine iteT ⟨_, rfl, _, rfl, mt, _, rfl, DPutY.t (k := plK m.2.2) hmt4 kyt4 hb4 (keysP_none km4 hin) (by rw [lm, sizeLine_eq]; omega), ?_⟩
          have hqu5 : upd H4 mt (DX w mt (ts' ++ [b4]) (ms' ++ [(plK m.2.2, V.bl true)])) qu = some (.lst (as'.map V.ref)) := by rw [upd_ne (Ne.symm mtqu)]; exact hqu4
          refine ⟨_, rfl, .inl ⟨rfl, _, SqL.of hqu5⟩, _, rfl, qu, _, _, rfl, rfl, hqu5, by rw [List.length_map, sizeLine_eq]; omega, ?_⟩
          have up : ∀ {x : Addr} {xs : List V}, SqT K H4 x xs → SqT K (upd (upd H4 mt (DX w mt (ts' ++ [b4]) (ms' ++ [(plK m.2.2, V.bl true)]))) qu (.lst (as'.map V.ref ++ [.ref b4]))) x xs := fun {x xs} h => sq_lst (sq_dx h hmt4) hqu5
          refine ⟨as' ++ [b4], ts' ++ [b4], ms' ++ [(plK m.2.2, V.bl true)], ⟨_, _, rfl⟩, ?_, (prd_imp kyt4 fun _ _ z => up z).snoc (up hb4), keysP_snoc km4, ?_, ?_, ?_⟩
          · rw [upd_ne mtqu]
            exact upd_same
          · rw [upd_same, List.map_append]
            rfl
          · exact (prd_imp pa4 fun _ _ z => up z).snoc (up hb4)
          · intro x o e n1 n2
            rw [upd_ne n2, upd_ne n1]
            exact u _ _ e n1 n2
      rintro σ H4 ⟨as', ts', ms', ⟨v7, v8, rfl⟩, hmt4, kyt4, km4, hqu4, pa4, u⟩
      rw [List.take_of_length_le (by omega)] at km4 pa4
      have hmv4 := u _ _ (s3 _ _ hmv) mne mvqu
      have eb4 : PlT K H4 b p := u.sq (sq_same ebp s3) (s3 _ _ hmt) (s3 _ _ hqu)
      have kyv4 : KyA K H4 vs ks := prd_imp kyv fun _ _ z => u.sq (sq_same z s3) (s3 _ _ hmt) (s3 _ _ hqu)
      have kk : keysP ks (Qs.take n) := by
        unfold keysP
        have : ∀ {l : List (List Key × V)} {q : List Pl}, Paired (fun kv p => MvD K P1 S1 H2 kv p ∧ kv.2 ≠ .ref qu) l q → l.map (·.1) = q.map plK := by
          intro l q h
          induction h with
          | nil => rfl
          | cons r _ ih => rw [List.map_cons, List.map_cons, ih, r.1.1]
        exact this pk
      have np : p ∉ Qs.take n := by
        have nd := bf.nd
        have e : Qs.take (n + 1) = Qs.take n ++ [p] := by rw [List.take_add_one, hp]; rfl
        rw [← List.take_append_drop (n + 1) Qs, e] at nd
        exact fun z => (List.nodup_append.mp (List.nodup_append.mp nd).1).2.2 _ z p (by simp) rfl
      refine ⟨_, rfl, _, rfl, _, rfl, mv, _, rfl, DPutY.t (k := plK p) hmv4 kyv4 eb4 (keysP_none kk np) (by rw [lk, sizeLine_eq]; omega), ?_⟩
      have up : ∀ {x : Addr} {xs : List V}, H4 x = some (.tup xs) → upd H4 mv (DX w mv (vs ++ [b]) (ks ++ [(plK p, V.ref d0)])) x = some (.tup xs) := fun {x xs} h => by
        rw [upd_ne (ne_of h hmv4 (fun z => nomatch z))]
        exact h
      have upS : ∀ {x : Addr} {xs : List V}, SqT K H4 x xs → SqT K (upd H4 mv (DX w mv (vs ++ [b]) (ks ++ [(plK p, V.ref d0)]))) x xs := fun {x xs} h => sq_dx h hmv4
      have upl : ∀ {x : Addr} {xs : List V}, H4 x = some (.lst xs) → upd H4 mv (DX w mv (vs ++ [b]) (ks ++ [(plK p, V.ref d0)])) x = some (.lst xs) := fun {x xs} h => by
        rw [upd_ne (ne_of h hmv4 (fun z => nomatch z))]
        exact h
      have upM : ∀ {v : V} {l : List Mo}, MoL K H4 v l → MoL K (upd H4 mv (DX w mv (vs ++ [b]) (ks ++ [(plK p, V.ref d0)]))) v l := fun {v l} ⟨d, xs, e, h1, h2⟩ => ⟨d, xs, e, upl h1, prd_imp h2 fun _ _ ⟨c, b, e, h3, h4⟩ => ⟨c, b, e, up h3, upS h4⟩⟩
      have ml3 : MoL K H3 (.ref d0) (moves P1 S1 p) := ⟨d0, xs, rfl, hxs, prx⟩
      have nd0 : V.ref d0 ≠ .ref qu := fun z => d0qu (V.ref.inj z)
      have n6 : n < 102 := by omega
      refine ⟨120 - (n + 1), by omega, addTo Qs (moves P1 S1 p), n + 1, rfl, ⟨_, _, _, _, rfl⟩, bf.step hp, (by show stepQ P1 S1 (runQ P1 S1 n) n = _; rw [rq]; unfold stepQ; rw [hp]), ⟨_, _, upd_same, (prd_imp kyv4 fun _ _ z => upS z).snoc (upS eb4), ?_⟩, ⟨ts', ms', ?_, (prd_imp kyt4 fun _ _ z => upS z), km4⟩, ⟨as', upl hqu4, prd_imp pa4 fun _ _ z => upS z⟩, ?_⟩
      · obtain ⟨R1, e1⟩ := addTo_pre (moves P1 S1 p) Qs
        have e2 : (addTo Qs (moves P1 S1 p)).take (n + 1) = Qs.take n ++ [p] := by
          rw [e1, List.take_append_of_le_length (by omega), List.take_add_one, hp]
          rfl
        rw [e2]
        exact (prd_imp pk fun _ _ z => ⟨⟨z.1.1, upM ((z.1.2.same s3).but z.2 u (s3 _ _ hmt) (s3 _ _ hqu))⟩, z.2⟩).snoc ⟨⟨rfl, upM (ml3.but nd0 u (s3 _ _ hmt) (s3 _ _ hqu))⟩, nd0⟩
      · rw [upd_ne (Ne.symm mne)]
        exact hmt4
      · intro x o e
        have e2 := s3 _ _ (sm _ _ e)
        rw [upd_ne (ne_of_none e nmv)]
        exact u _ _ e2 (ne_of_none e nmtH) (ne_of_none e nquH)
    · rw [decide_eq_false (show ¬ ((n : Nat) : Int) < ((Qs.length : Nat) : Int) by omega)]
      have en : n = Qs.length := by
        have := bf.le
        omega
      subst en
      rw [List.take_of_length_le (Nat.le_refl _)] at pk
      refine iteF ⟨_, rfl, q mv Qs H2 sm nmv bf ?_ ⟨vs, ks, hmv, kyv, prd_imp pk fun _ _ z => z.1⟩⟩
      have e1 : Qs.length = (runQ P1 S1 Qs.length).length := by rw [rq]
      have e2 := runQ_stay e1 (120 - Qs.length)
      rw [show Qs.length + (120 - Qs.length) = 120 by omega, rq] at e2
      unfold placesQ
      rw [e2]
end
end V8
set_option Elab.async false
set_option linter.all false
set_option maxRecDepth 100000
set_option maxHeartbeats 8000000
set_option pp.maxSteps 900
/-! The places from which the end can be reached. -/
namespace V8
open PySem PySem.Spec PyProof.Rows L2 MZ
variable {K : PySem.W.Frag} {ω : World}
abbrev s_all_living : Stmt := topS 53
abbrev n_all_living : List Str := ["moves", "living", "again", "place", "taker", "label", "target"]
theorem sc_all_living : FnScope ["moves", "living", "again", "place", "taker", "label", "target"] ["moves"] (defScope s_all_living) := ⟨rfl, rfl, rfl, by decide +kernel, rfl, by decide +kernel, by decide +kernel⟩
/-- a dict with the places that live -/
structure LivD (K : PySem.W.Frag) (ω : World) (P S : List Pr) (Qs L : List Pl) (H : Hp) (d : Addr) : Prop where
  at_ : ∃ as ks, H d = some (DX ω d as ks) ∧ KyA K H as ks ∧ keysP ks L
  liv : Liv P S L
  all : ∀ p ∈ Qs, ∀ v, Way P S p .fin v → p ∈ L
def spLiving (K : PySem.W.Frag) (ω : World) (aS aE aV : Addr) : Sp := fun vs H Q _ => ∃ (d : Addr) (P S : List Pr) (Qs : List Pl), vs = [.ref d] ∧ AllM K ω P S Qs H d ∧ Bfs P S .start Qs Qs.length ∧ CnH K aS aE aV H ∧ Qs.length ≤ 102 ∧ PrOk P ∧ PrOk S ∧
  ∀ (ld : Addr) (L : List Pl) (H' : Hp), Same H H' → H ld = none → LivD K ω P S Qs L H' ld → Q (.ref ld) H'
theorem moves_len {P S : List Pr} (oP : PrOk P) (oS : PrOk S) (p : Pl) : (moves P S p).length ≤ 10 := by
  cases p with
  | fin => exact Nat.zero_le _
  | start =>
    show (P.map _).length ≤ 10
    rw [List.length_map]
    exact oP.1
  | rest a r =>
    refine Nat.le_trans (List.length_filterMap_le _ _) ?_
    cases a with
    | true => exact oS.1
    | false => exact oP.1
theorem val_at : ∀ {kvs : List (List Key × V)} {i : Nat} {k : List Key} {v : V}, (kvs.map (·.1)).Nodup → kvs[i]? = some (k, v) → valV kvs k = some v
  | [], i, k, v, _, e => by simp at e
  | p :: r, 0, k, v, _, e => by
    rw [List.getElem?_cons_zero] at e
    cases e
    exact valV_pos rfl
  | p :: r, i + 1, k, v, nd, e => by
    rw [List.getElem?_cons_succ] at e
    rw [List.map_cons, List.nodup_cons] at nd
    rw [valV_neg fun z => nd.1 (List.mem_map.mpr ⟨_, List.mem_of_getElem? e, z.symm⟩)]
    exact val_at nd.2 e
theorem map_nd : ∀ {Q : List Pl}, Q.Nodup → (Q.map plK).Nodup
  | [], _ => List.nodup_nil
  | p :: r, nd => by
    rw [List.nodup_cons] at nd
    rw [List.map_cons, List.nodup_cons]
    refine ⟨fun z => ?_, map_nd nd.2⟩
    obtain ⟨q, hq, e⟩ := List.mem_map.mp z
    exact nd.1 (plK_inj e ▸ hq)
theorem keysM {P S : List Pr} {H : Hp} {kvs : List (List Key × V)} {Q : List Pl} (h : Paired (MvD K P S H) kvs Q) : keysP kvs Q := by
  unfold keysP
  induction h with
  | nil => rfl
  | cons r _ ih => rw [List.map_cons, List.map_cons, ih, r.1]
/-- what the search for what lives keeps -/
structure LvS (K : PySem.W.Frag) (ω : World) (P S : List Pr) (Qs : List Pl) (ld : Addr) (H0 : Hp) (L : List Pl) (H : Hp) : Prop where
  at_ : ∃ as ks, H ld = some (DX ω ld as ks) ∧ KyA K H as ks ∧ keysP ks L
  liv : Liv P S L
  nd : L.Nodup
  sub : ∀ p ∈ L, p ∈ Pl.fin :: Qs
  sm : Same H0 H
theorem LvS.few {P S : List Pr} {Qs : List Pl} {ld : Addr} {H0 : Hp} {L : List Pl} {H : Hp} (h : LvS K ω P S Qs ld H0 L H) : L.length ≤ Qs.length + 1 := nd_le h.nd h.sub
section
variable {P : Program} {w : World} {K : PySem.W.Frag} {mg : Str → Option Value} {base : Heap} {aS aE aV : Addr}
theorem ok_all_living {f : Addr} {fd : FuncData} (F : Fun K "all_living" "all_living" s_all_living f fd) (T : Tm mg aS aE aV) : FnOk P w K mg base CX0 1 f fd ["moves"] (spLiving K w aS aE aV) := by
  refine F.ok sc_all_living (fun vs H Q E h => ?_) (fun cdv A outer s H vs Q E hr h => ?_)
  · obtain ⟨d, P, S, Qs, rfl, _⟩ := h
    rfl
  · obtain ⟨d, P1, S1, Qs, rfl, ⟨vs, kvs, hd, kyv, pk⟩, bf, cn, few, okP, okS, q⟩ := h
    refine ⟨_, (pss_cons (ps_set (i := 1) sc_all_living.nd rfl (.inr rfl) (pe_dispY (w := w) (K := K) rfl rfl (hu_of hr) (pps_cons (pe_gv T.gEND (by rfl)) pe_bl pps_nil)))
      (pss_cons (ps_set (i := 2) sc_all_living.nd rfl (.inl rfl) pe_bl)
      (pss_cons (ps_while PassesOwn.never (pt_truth (pv 2) (by intro _; rfl))
        (pss_cons (ps_set (i := 2) sc_all_living.nd rfl (.inl rfl) pe_bl)
        (pss_one (ps_lock (ps_for PassesOwn.never rfl (pi_keysXt (w := w) rfl (pv 0)) (pg_name (i := 3) sc_all_living.nd rfl (.inl rfl))
          (pss_one (ps_if (PW.pt (pw_and (pt_cmp (pc_dnotinY (w := w) (K := K) rfl rfl (hu_of hr) (pv 3) (pv 1))) (pw_and1 (pt_val (pe_callB (cr_any rfl) (by rfl) T.any (by decide +kernel) (pa_cons (pe_lc (own := [("taker", 4), ("label", 5), ("target", 6)]) (g := gTup K 3 (gCons (gName 4) (gCons (gName 5) (gCons (gName 6) gNil)))) (by rfl) sc_all_living.nd (pi_list (pe_dgetY (w := w) (K := K) rfl rfl (hu_of hr) (pv 0) (pv 3) (fun _ _ => rfl))) (blkOk_by (own := [("taker", 4), ("label", 5), ("target", 6)]) (N := n_all_living) (sc := defScope s_all_living) (by decide +kernel)) (fun _ _ _ _ _ => (pg_tup (by rfl) (pgs_cons (pg_name (i := 4) sc_all_living.nd rfl (.inl rfl)) (pgs_cons (pg_name (i := 5) sc_all_living.nd rfl (.inl rfl)) (pgs_cons (pg_name (i := 6) sc_all_living.nd rfl (.inl rfl)) pgs_nil))))) (fun _ _ _ _ _ => pts_nil) (fun _ _ _ _ _ => (pe_cmp (pc_dinY (w := w) (K := K) rfl rfl (hu_of hr) (pv 6) (pv 1)) rfl))) pa_nil))))))
            (pss_cons (ps_dputY (w := w) (K := K) rfl rfl (hu_of hr) (pv 1) (pv 3) pe_bl rfl)
            (pss_one (ps_set (i := 2) sc_all_living.nd rfl (.inl rfl) pe_bl)))
            pss_nil)))))))
      (pss_one (ps_ret (pv 1)))))), ?_⟩
    have lkv := prd_len pk
    refine fun ld nld => ⟨?_, plK .fin, aE, .bl true, rfl, ?_, ?_⟩
    · exact upd_same
    · exact sq_same cn.en (same_put (s := Same.refl H) nld)
    rw [upd_upd]
    have s1 := same_put (s := Same.refl H) (o := DX w ld [aE] [(plK .fin, V.bl true)]) nld
    have hld : upd H ld (DX w ld [aE] [(plK .fin, V.bl true)]) ld = some (DX w ld [aE] [(plK .fin, V.bl true)]) := upd_same
    show Ends.nx _ _ (upd H ld (DX w ld [aE] [(plK .fin, V.bl true)]))
    generalize upd H ld (DX w ld [aE] [(plK .fin, V.bl true)]) = H1 at s1 hld ⊢
    have dld : d ≠ ld := ne_of_none hd nld
    have R0 : LvS K w P1 S1 Qs ld H [.fin] H1 := ⟨⟨_, _, hld, .cons (sq_same cn.en s1) .nil, rfl⟩, Liv.start P1 S1, by simp, fun p h => by rw [List.mem_singleton.mp h]; exact List.mem_cons_self, s1⟩
    refine ⟨fun m σ H2 => ∃ (L : List Pl) (g : Bool), m = 2 * (120 - L.length) + (if g = true then 1 else 0) ∧ (∃ v3 v4 v5 v6 : Option V, σ = [some (.ref d), some (.ref ld), some (.bl g), v3, v4, v5, v6]) ∧ LvS K w P1 S1 Qs ld H L H2 ∧
      (g = false → ∀ p ∈ Qs, p ∉ L → ∀ m ∈ moves P1 S1 p, m.2.2 ∉ L), ⟨_, [.fin], true, rfl, ⟨_, _, _, _, rfl⟩, R0, fun z => nomatch z⟩, ?_⟩
    rintro m σ H2 ⟨L, g, rfl, ⟨v3, v4, v5, v6, rfl⟩, R, cl⟩
    have Rf := R.few
    cases g with
    | false =>
      refine ⟨_, rfl, false, rfl, iteF ⟨_, rfl, q ld L H2 R.sm nld ⟨R.at_, R.liv, fun p hp v k => R.liv.all bf (cl rfl) hp k⟩⟩⟩
    | true =>
      refine ⟨_, rfl, true, rfl, iteT ⟨fun σ' H' => ∃ m', m' < 2 * (120 - L.length) + 1 ∧ ∃ (L : List Pl) (g : Bool), m' = 2 * (120 - L.length) + (if g = true then 1 else 0) ∧ (∃ v3 v4 v5 v6 : Option V, σ' = [some (.ref d), some (.ref ld), some (.bl g), v3, v4, v5, v6]) ∧ LvS K w P1 S1 Qs ld H L H' ∧
        (g = false → ∀ p ∈ Qs, p ∉ L → ∀ m ∈ moves P1 S1 p, m.2.2 ∉ L), fun _ _ z => z, ?_⟩⟩
      have hd2 := R.sm _ _ hd
      refine ⟨d, _, hd2, True.intro, fun od => ⟨_, rfl, d, od, vs, kvs, rfl, upd_same, ?_⟩⟩
      have kK := keysM pk
      have ndK : (kvs.map (·.1)).Nodup := by
        rw [kK]
        exact map_nd bf.nd
      obtain ⟨ts, ks, hld2, kyl, kL⟩ := R.at_
      have lvs := prd_len kyv
      have sf : ∀ c u, H2 c = some u → c ≠ d → upd H2 d (.frz od (DX w d vs kvs)) c = some u := fun c u e n => by
        rw [upd_ne n]
        exact e
      refine for_it (walk_keysX (w := w) (d := d) (o := od) (as := vs) (kvs := kvs)) (fun i σ H4 => ∃ (L' : List Pl) (g : Bool) (ts' : List Addr) (ks' : List (List Key × V)), (∃ v3 v4 v5 v6 : Option V, σ = [some (.ref d), some (.ref ld), some (.bl g), v3, v4, v5, v6]) ∧ H4 ld = some (DX w ld ts' ks') ∧ KyA K H4 ts' ks' ∧ keysP ks' L' ∧ Liv P1 S1 L' ∧ L'.Nodup ∧ (∀ p ∈ L', p ∈ Pl.fin :: Qs) ∧
        L.length ≤ L'.length ∧ (g = true → L.length < L'.length) ∧ (g = false → L' = L ∧ ∀ j p, j < i → Qs[j]? = some p → p ∉ L → ∀ m ∈ moves P1 S1 p, m.2.2 ∉ L) ∧ (∀ c u, upd H2 d (.frz od (DX w d vs kvs)) c = some u → c ≠ ld → H4 c = some u)) ?_ ?_ ?_ ?_
      · exact ⟨L, false, ts, ks, ⟨_, _, _, _, rfl⟩, sf _ _ hld2 (Ne.symm dld), prd_imp kyl fun _ _ z => sq_dx z hd2, kL, R.liv, R.nd, R.sub, Nat.le_refl _, (fun z => nomatch z), (fun _ => ⟨rfl, fun j p hj => absurd hj (Nat.not_lt_zero _)⟩), fun _ _ e _ => e⟩
      · rintro i σ H4 hi ⟨L', g, ts', ks', _, _, _, _, _, _, _, _, _, _, u⟩
        exact u _ _ upd_same dld
      · rintro i y σ H40 H4 hi ⟨L', g, ts', ks', ⟨w3, w4, w5, w6, rfl⟩, hld4, kyl4, kL4, lv, nd, sub, le, lt, cl4, u⟩ ⟨rfl, qk, hbk, rfl⟩
        obtain ⟨⟨k, v⟩, hkv, hqk0⟩ := prd_at kyv hbk
        obtain ⟨p, hp, ek, ml⟩ := prd_at pk hkv
        have ek : k = plK p := ek
        subst ek
        have upS : ∀ {x : Addr} {xs : List V}, SqT K H x xs → SqT K H4 x xs := fun {x xs} e => sq_mono (sq_dx (sq_same e R.sm) hd2) fun o eo z => u _ _ eo fun q => by
          rw [q, upd_ne (Ne.symm dld), hld2] at eo
          cases eo
          rcases z with z | ⟨_, z⟩ <;> cases z
        have hqk : SqT K H4 qk (plV p) := upS hqk0
        have kyv4 : KyA K H4 vs kvs := prd_imp kyv fun _ _ z => upS z
        have l4 := nd_le nd sub
        rw [List.length_cons] at l4
        have hd4 := u _ _ upd_same dld
        refine ⟨_, rfl, _, rfl, ld, _, rfl, DGetY.t (k := plK p) hld4 kyl4 hqk, _, rfl, ?_⟩
        rw [keysP_is kL4]
        by_cases hin : p ∈ L'
        · rw [decide_eq_true hin]
          refine iteF ⟨L', g, ts', ks', ⟨_, _, _, _, rfl⟩, hld4, kyl4, kL4, lv, nd, sub, le, lt, fun z => ⟨(cl4 z).1, fun j p' hj e n => ?_⟩, u⟩
          by_cases hj2 : j < i
          · exact (cl4 z).2 j p' hj2 e n
          · have : j = i := by omega
            subst this
            rw [hp] at e
            cases e
            rw [(cl4 z).1] at hin
            exact absurd hin n
        rw [decide_eq_false hin]
        refine iteT ?_
        -- its steps
        have upT : ∀ {x : Addr} {xs : List V}, H x = some (.tup xs) → H4 x = some (.tup xs) := fun {x xs} e => u _ _ (sf _ _ (R.sm _ _ e) (ne_of e hd (fun z => nomatch z))) (ne_of_none e nld)
        obtain ⟨d0, xs, ev, hxs, prx⟩ := ml
        have ev : v = .ref d0 := ev
        subst ev
        have hxs4 : H4 d0 = some (.lst xs) := u _ _ (sf _ _ (R.sm _ _ hxs) (ne_of hxs hd (fun z => nomatch z))) (ne_of_none hxs nld)
        have prx4 : Paired (MoT K H4) xs (moves P1 S1 p) := prd_imp prx fun _ _ ⟨c, b, e, h1, h2⟩ => ⟨c, b, e, upT h1, upS h2⟩
        have lx := prd_len prx4
        have l30 := moves_len okP okS p
        refine ⟨_, rfl, _, rfl, d, _, rfl, ⟨vs, kvs, plK p, qk, .inr ⟨od, hd4⟩, kyv4, rfl, hqk, (val_at ndK hkv).symm⟩, d0, rfl, ⟨_, SqL.of hxs4⟩, fun D nD => lc_it (walk_list (K := K) (a := d0) (xs := xs)) (fun j H5 => H5 = upd H4 D (.lst (((moves P1 S1 p).take j).map fun m => V.bl (decide (m.2.2 ∈ L'))))) rfl ?_ ?_ ?_⟩
        · rintro j H5 hj rfl
          exact SqL.of (by rw [upd_ne (ne_of_none hxs4 nD)]; exact hxs4)
        · rintro j y H5 H6 hj rfl ⟨eH, hy⟩
          rw [eH]
          obtain ⟨m, hm, c, b, rfl, hc, hb⟩ := prd_at prx4 hy
          have s5 := same_put (s := Same.refl H4) (o := .lst (((moves P1 S1 p).take j).map fun m => V.bl (decide (m.2.2 ∈ L')))) nD
          refine ⟨c, _, rfl, .inl (.inl (s5 _ _ hc)), rfl, _, _, rfl, _, _, rfl, _, _, rfl, rfl, ?_⟩
          refine ⟨rfl, _, rfl, _, rfl, ld, _, rfl, DGetY.t (k := plK m.2.2) (s5 _ _ hld4) (ky_same kyl4 s5) (sq_same hb s5), _, upd_same, ?_, ?_⟩
          · rw [List.length_map, List.length_take, sizeLine_eq]
            omega
          · rw [upd_upd, List.take_add_one, hm, keysP_is kL4, List.map_append]
            rfl
        rintro H5 rfl
        rw [List.take_of_length_le (by omega)]
        have s5 := same_put (s := Same.refl H4) (o := .lst ((moves P1 S1 p).map fun m => V.bl (decide (m.2.2 ∈ L')))) nD
        have hD5 : upd H4 D (.lst ((moves P1 S1 p).map fun m => V.bl (decide (m.2.2 ∈ L')))) D = some (.lst ((moves P1 S1 p).map fun m => V.bl (decide (m.2.2 ∈ L')))) := upd_same
        generalize upd H4 D (.lst ((moves P1 S1 p).map fun m => V.bl (decide (m.2.2 ∈ L')))) = H5 at s5 hD5 ⊢
        refine ⟨D, (moves P1 S1 p).map fun m => decide (m.2.2 ∈ L'), rfl, SqL.of (by rw [hD5, List.map_map]; rfl), _, rfl, ?_⟩
        have u5 : ∀ c u', upd H2 d (.frz od (DX w d vs kvs)) c = some u' → c ≠ ld → H5 c = some u' := fun c u' e n => s5 _ _ (u c u' e n)
        cases ea : ((moves P1 S1 p).map fun m => decide (m.2.2 ∈ L')).any id with
        | false =>
          refine iteF ⟨L', g, ts', ks', ⟨_, _, _, _, rfl⟩, s5 _ _ hld4, ky_same kyl4 s5, kL4, lv, nd, sub, le, lt, fun z => ⟨(cl4 z).1, fun j p' hj e n => ?_⟩, u5⟩
          by_cases hj2 : j < i
          · exact (cl4 z).2 j p' hj2 e n
          · have : j = i := by omega
            subst this
            rw [hp] at e
            cases e
            intro m hm hl
            have : ((moves P1 S1 p).map fun m => decide (m.2.2 ∈ L')).any id = true := List.any_eq_true.mpr ⟨decide (m.2.2 ∈ L'), List.mem_map_of_mem hm, by rw [(cl4 z).1]; exact decide_eq_true hl⟩
            rw [ea] at this
            cases this
        | true =>
          obtain ⟨x, hx, ex⟩ := List.any_eq_true.mp ea
          obtain ⟨m, hm, rfl⟩ := List.mem_map.mp hx
          have hml : m.2.2 ∈ L' := of_decide_eq_true ex
          have lks := keysP_len kL4
          refine iteT ⟨_, rfl, _, rfl, ld, _, rfl, DPutY.t (k := plK p) (s5 _ _ hld4) (ky_same kyl4 s5) (sq_same hqk s5) (keysP_none kL4 hin) (by rw [lks, sizeLine_eq]; omega), ?_⟩
          have hpQ : p ∈ Qs := List.mem_of_getElem? hp
          refine ⟨L' ++ [p], true, ts' ++ [qk], ks' ++ [(plK p, V.bl true)], ⟨_, _, _, _, rfl⟩, upd_same, (prd_imp kyl4 fun _ _ z => sq_dx (sq_same z s5) (s5 _ _ hld4)).snoc (sq_dx (sq_same hqk s5) (s5 _ _ hld4)), keysP_snoc kL4, lv.add hm hml, ?_, ?_, ?_, fun _ => ?_, fun z => (nomatch z), ?_⟩
          · exact List.nodup_append.mpr ⟨nd, by simp, fun a ha b hb e => by
              rw [List.mem_singleton.mp hb] at e
              exact hin (e ▸ ha)⟩
          · intro a ha
            rcases List.mem_append.mp ha with h | h
            · exact sub a h
            · rw [List.mem_singleton.mp h]
              exact List.mem_cons_of_mem _ hpQ
          · rw [List.length_append]
            omega
          · rw [List.length_append]
            show L.length < L'.length + 1
            omega
          · intro c u' e n
            rw [upd_ne n]
            exact u5 c u' e n
      rintro σ H4 ⟨L', g, ts', ks', ⟨w3, w4, w5, w6, rfl⟩, hld4, kyl4, kL4, lv, nd, sub, le, lt, cl4, u⟩
      have l4 := nd_le nd sub
      rw [List.length_cons] at l4
      refine ⟨u _ _ upd_same dld, 2 * (120 - L'.length) + (if g = true then 1 else 0), ?_, L', g, rfl, ⟨_, _, _, _, rfl⟩, ⟨⟨ts', ks', by rw [upd_ne (Ne.symm dld)]; exact hld4, prd_imp kyl4 fun _ _ z => sq_ne z (u _ _ upd_same dld) (fun z => nomatch z) (fun _ z => nomatch z), kL4⟩, lv, nd, sub, fun c o e => ?_⟩, fun z p hp n => ?_⟩
      · cases g with
        | true =>
          have := lt rfl
          show _ + 1 < _
          omega
        | false =>
          rw [(cl4 rfl).1]
          show _ + 0 < _
          omega
      · by_cases hc : c = d
        · rw [hc, upd_same]
          rw [hc, hd] at e
          exact e
        · rw [upd_ne hc]
          exact u _ _ (sf _ _ (R.sm _ _ e) hc) (ne_of_none e nld)
      · obtain ⟨e1, c2⟩ := cl4 z
        rw [e1] at n ⊢
        obtain ⟨j, hj, ej⟩ := List.getElem_of_mem hp
        exact c2 j p (by rw [lvs, lkv]; exact hj) (by rw [List.getElem?_eq_getElem hj, ej]) n
end
end V8
set_option Elab.async false
set_option linter.all false
set_option maxRecDepth 100000
set_option maxHeartbeats 8000000
set_option pp.maxSteps 900
/-! A way to each place that can be reached from one. -/
namespace V8
open PySem PySem.Spec PyProof.Rows L2 MZ
variable {K : PySem.W.Frag} {ω : World}
abbrev s_ways_from : Stmt := topS 54
theorem sc_ways_from : FnScope ["moves", "place", "ways", "queue", "done", "reached", "taker", "label", "target"] ["moves", "place"] (defScope s_ways_from) := ⟨rfl, rfl, rfl, by decide +kernel, rfl, by decide +kernel, by decide +kernel⟩
abbrev WyL := List (Pl × (List Nat × List Nat))
def KW (H : Hp) (kv : List Key × V) (q : Pl × (List Nat × List Nat)) : Prop := kv.1 = plK q.1 ∧ ∃ c, kv.2 = .ref c ∧ WyT H c q.2
theorem keysW {H : Hp} {ks : List (List Key × V)} {W : WyL} (h : Paired (KW H) ks W) : keysP ks (W.map (·.1)) := by
  unfold keysP
  induction h with
  | nil => rfl
  | cons r _ ih => rw [List.map_cons, List.map_cons, List.map_cons, ih, r.1]
theorem addW_pre (w : List Nat × List Nat) : ∀ (f : List Mo) (W : WyL), ∃ R, addW w W f = W ++ R
  | [], W => ⟨[], (List.append_nil W).symm⟩
  | m :: f, W => by
    rw [addW_cons]
    by_cases z : m.2.2 ∈ W.map (·.1)
    · rw [if_pos z]
      exact addW_pre w f W
    · rw [if_neg z]
      obtain ⟨R, e⟩ := addW_pre w f (W ++ [(m.2.2, put m.1 m.2.1 w)])
      exact ⟨(m.2.2, put m.1 m.2.1 w) :: R, by rw [e, List.append_assoc]; rfl⟩
theorem addW_snoc (w : List Nat × List Nat) (W : WyL) (f : List Mo) (m : Mo) : addW w W (f ++ [m]) = if m.2.2 ∈ (addW w W f).map (·.1) then addW w W f else addW w W f ++ [(m.2.2, put m.1 m.2.1 w)] := by
  unfold addW
  rw [List.foldl_append]
  rfl
def wlen (w : List Nat × List Nat) : Nat := w.1.length + w.2.length
theorem wput_len (t : Bool) (l : Nat) (w : List Nat × List Nat) : wlen (put t l w) = wlen w + 1 := by
  cases t <;> simp [wlen, put] <;> omega
theorem addW_short {w : List Nat × List Nat} {n : Nat} (hw : wlen w ≤ n) : ∀ (f : List Mo) (W : WyL), (∀ q ∈ W, wlen q.2 ≤ n + 1) → ∀ q ∈ addW w W f, wlen q.2 ≤ n + 1
  | [], W, h => h
  | m :: f, W, h => by
    rw [addW_cons]
    refine addW_short hw f _ fun q hq => ?_
    by_cases z : m.2.2 ∈ W.map (·.1)
    · rw [if_pos z] at hq
      exact h q hq
    · rw [if_neg z] at hq
      rcases List.mem_append.mp hq with a | a
      · exact h q a
      · rw [List.mem_singleton.mp a]
        show wlen (put _ _ _) ≤ _
        rw [wput_len]
        omega
theorem way_one {W : WyL} (nd : (W.map (·.1)).Nodup) {p : Pl} {w v : List Nat × List Nat} (h1 : (p, w) ∈ W) (h2 : (p, v) ∈ W) : w = v := by
  induction W with
  | nil => exact absurd h1 List.not_mem_nil
  | cons q r ih =>
    rw [List.map_cons, List.nodup_cons] at nd
    rcases List.mem_cons.mp h1 with e1 | h1
    · rcases List.mem_cons.mp h2 with e2 | h2
      · rw [← e1] at e2
        exact (congrArg Prod.snd e2).symm
      · exact absurd (List.mem_map.mpr ⟨_, h2, by rw [← e1]⟩) nd.1
    · rcases List.mem_cons.mp h2 with e2 | h2
      · exact absurd (List.mem_map.mpr ⟨_, h1, by rw [← e2]⟩) nd.1
      · exact ih nd.2 h1 h2
/-- the search for ways, step by step -/
def stepW (P S : List Pr) (s : List Pl × WyL) (n : Nat) : List Pl × WyL := match s.1[n]? with
  | none => s
  | some p => (addTo s.1 (moves P S p), addW (wayTo s.2 p) s.2 (moves P S p))
def runW (P S : List Pr) (o : Pl) : Nat → List Pl × WyL
  | 0 => ([o], [(o, ([], []))])
  | n + 1 => stepW P S (runW P S o n) n
theorem run_stay {P S : List Pr} {o : Pl} {n : Nat} (h : n = (runW P S o n).1.length) : ∀ k, runW P S o (n + k) = runW P S o n
  | 0 => rfl
  | k + 1 => by
    show stepW P S (runW P S o (n + k)) (n + k) = _
    rw [run_stay h k]
    unfold stepW
    rw [List.getElem?_eq_none (by omega)]
/-- the ways that the search keeps at last -/
def waysW (P S : List Pr) (o : Pl) : WyL := (runW P S o 120).2
/-- a dict with a way to each place -/
def WysD (K : PySem.W.Frag) (ω : World) (P S : List Pr) (o : Pl) (R : List Pl) (W : WyL) (H : Hp) (d : Addr) : Prop := (∃ as ks, H d = some (DX ω d as ks) ∧ KyA K H as ks ∧ Paired (KW H) ks W) ∧ Wys P S o R W ∧ (∀ q ∈ W, wlen q.2 ≤ 120) ∧ W = waysW P S o
/-- .. read, locked or not -/
def AllR (K : PySem.W.Frag) (ω : World) (P S : List Pr) (Q : List Pl) (H : Hp) (d : Addr) : Prop := ∃ as kvs, Rd H d (DX ω d as kvs) ∧ KyA K H as kvs ∧ Paired (MvD K P S H) kvs Q
theorem AllM.rd {P S : List Pr} {Q : List Pl} {H : Hp} {d : Addr} (h : AllM K ω P S Q H d) : AllR K ω P S Q H d := by
  obtain ⟨as, ks, h1, h2⟩ := h
  exact ⟨as, ks, .inl h1, h2⟩
theorem rd_same {H H' : Hp} {d : Addr} {o : HO} (h : Rd H d o) (s : Same H H') : Rd H' d o := by
  rcases h with h | ⟨od, h⟩
  · exact .inl (s _ _ h)
  · exact .inr ⟨od, s _ _ h⟩
def spWays (K : PySem.W.Frag) (ω : World) : Sp := fun vs H Q _ => ∃ (d b : Addr) (P S : List Pr) (Qs : List Pl) (o : Pl), vs = [.ref d, .ref b] ∧ AllR K ω P S Qs H d ∧ Bfs P S .start Qs Qs.length ∧ PlT K H b o ∧ o ∈ Qs ∧ Qs.length ≤ 102 ∧ PrOk P ∧ PrOk S ∧
  ∀ (wd : Addr) (R : List Pl) (W : WyL) (H' : Hp), Same H H' → H wd = none → Bfs P S o R R.length → WysD K ω P S o R W H' wd → Q (.ref wd) H'
/-- what the search for ways keeps -/
structure WyS (K : PySem.W.Frag) (ω : World) (P S : List Pr) (o : Pl) (wd qu : Addr) (H0 : Hp) (R : List Pl) (W : WyL) (n : Nat) (H : Hp) : Prop where
  b : Bfs P S o R n
  wy : Wys P S o R W
  wd_ : ∃ ts ks, H wd = some (DX ω wd ts ks) ∧ KyA K H ts ks ∧ Paired (KW H) ks W
  qu_ : ∃ as, H qu = some (.lst (as.map V.ref)) ∧ Paired (PlT K H) as R
  sh : ∀ q ∈ W, wlen q.2 ≤ n
  run : runW P S o n = (R, W)
  sm : Same H0 H
section
variable {P : Program} {w : World} {K : PySem.W.Frag} {mg : Str → Option Value} {base : Heap} {aS aE aV : Addr}
theorem ok_ways_from {f : Addr} {fd : FuncData} (F : Fun K "ways_from" "ways_from" s_ways_from f fd) (T : Tm mg aS aE aV) (D_with_label : Df P w K mg base 1 "with_label" spLabel) : FnOk P w K mg base CX0 2 f fd ["moves", "place"] (spWays K w) := by
  refine F.ok sc_ways_from (fun vs H Q E h => ?_) (fun cdv A outer s H vs Q E hr h => ?_)
  · obtain ⟨d, b, P, S, Qs, o, rfl, _⟩ := h
    rfl
  · obtain ⟨d, b0, P1, S1, Qs, o, rfl, ⟨vs, kvs, hd, kyv, pk⟩, bf0, hb0, ho, few, okP, okS, q⟩ := h
    refine ⟨_, (pss_cons (ps_set (i := 2) sc_ways_from.nd rfl (.inl rfl) (pe_dispY (w := w) (K := K) rfl rfl (hu_of hr) (pps_cons (pv 1) (pe_tup (pa_cons pe_str (pa_cons pe_str pa_nil))) pps_nil)))
      (pss_cons (ps_set (i := 3) sc_ways_from.nd rfl (.inl rfl) (pe_lst (pa_cons (pv 1) pa_nil)))
      (pss_cons (ps_set (i := 4) sc_ways_from.nd rfl (.inl rfl) pe_int)
      (pss_cons (ps_while PassesOwn.never (pt_cmpR op_lt (pv 4) (pe_callB (call_len_seqK (K := K) rfl) (by rfl) T.len (by decide +kernel) (pa_cons (pv 3) pa_nil)) (nomark _))
        (pss_cons (ps_set (i := 5) sc_ways_from.nd rfl (.inl rfl) (pe_ix (ix_listK (K := K) rfl) (pv 3) (pv 4) (fun _ _ => rfl)))
        (pss_cons (ps_for PassesOwn.never rfl (pi_list (pe_dgetY (w := w) (K := K) rfl rfl (hu_of hr) (pv 0) (pv 5) (fun _ _ => rfl))) (pg_tup (by rfl) (pgs_cons (pg_name (i := 6) sc_ways_from.nd rfl (.inl rfl)) (pgs_cons (pg_name (i := 7) sc_ways_from.nd rfl (.inl rfl)) (pgs_cons (pg_name (i := 8) sc_ways_from.nd rfl (.inl rfl)) pgs_nil))))
          (pss_one (ps_if (pt_cmp (pc_dnotinY (w := w) (K := K) rfl rfl (hu_of hr) (pv 8) (pv 2)))
            (pss_cons (ps_dputY (w := w) (K := K) rfl rfl (hu_of hr) (pv 2) (pv 8) (pe_c D_with_label hr (by decide) (by rfl) (pa_cons (pe_dgetY (w := w) (K := K) rfl rfl (hu_of hr) (pv 2) (pv 5) (fun _ _ => rfl)) (pa_cons (pv 6) (pa_cons (pv 7) pa_nil)))) rfl)
            (pss_one (ps_expr (pe_bmK (K := K) rfl PySem.F.plainAttrs_list PySem.F.slot_list_append PySem.F.type_list_append mt_append (pv 3) (pa_cons (pv 8) pa_nil)))))
            pss_nil)))
        (pss_one (ps_aug (i := 4) sc_ways_from.nd rfl (.inl rfl) pe_int ip_add)))))
      (pss_one (ps_ret (pv 2))))))), ?_⟩
    have kK := keysM pk
    have ndK : (kvs.map (·.1)).Nodup := by
      rw [kK]
      exact map_nd bf0.nd
    refine fun wd nwd => ⟨_, rfl, by show 2 ≤ sizeLine; decide, fun c nc => ⟨?_, plK o, b0, .ref c, rfl, ?_, ?_⟩⟩
    · rw [upd_ne (ne_of_none (show upd H wd (DX w wd [] []) wd = _ from upd_same) nc)]
      exact upd_same
    · exact sq_same hb0 (same_put (s := same_put (s := Same.refl H) nwd) nc)
    have wdc : wd ≠ c := ne_of_none (show upd H wd (DX w wd [] []) wd = some (DX w wd [] []) from upd_same) nc
    have ncH : H c = none := same_none (same_put (s := Same.refl H) (o := DX w wd [] []) nwd) nc
    have sA : Same H (upd (upd (upd H wd (DX w wd [] [])) c (.tup [.str "", .str ""])) wd (DX w wd [b0] [(plK o, V.ref c)])) := fun x u e => by
      rw [upd_ne (ne_of_none e nwd), upd_ne (ne_of_none e ncH), upd_ne (ne_of_none e nwd)]
      exact e
    have hwd : upd (upd (upd H wd (DX w wd [] [])) c (.tup [.str "", .str ""])) wd (DX w wd [b0] [(plK o, V.ref c)]) wd = some (DX w wd [b0] [(plK o, V.ref c)]) := upd_same
    have hc : WyT (upd (upd (upd H wd (DX w wd [] [])) c (.tup [.str "", .str ""])) wd (DX w wd [b0] [(plK o, V.ref c)])) c ([], []) := by
      show upd _ _ _ c = _
      rw [upd_ne (Ne.symm wdc)]
      exact upd_same
    show Ends.nx _ _ (upd (upd (upd H wd (DX w wd [] [])) c (.tup [.str "", .str ""])) wd (DX w wd [b0] [(plK o, V.ref c)]))
    generalize upd (upd (upd H wd (DX w wd [] [])) c (.tup [.str "", .str ""])) wd (DX w wd [b0] [(plK o, V.ref c)]) = H1 at sA hwd hc ⊢
    refine ⟨_, rfl, by show 1 ≤ sizeLine; decide, fun qu nqu => ?_⟩
    have sq := same_put (s := sA) (o := .lst [V.ref b0]) nqu
    have sq1 := same_put (s := Same.refl H1) (o := .lst [V.ref b0]) nqu
    have nquH : H qu = none := same_none sA nqu
    have wdqu : wd ≠ qu := ne_of_none hwd nqu
    have R0 : WyS K w P1 S1 o wd qu H [o] [(o, ([], []))] 0 (upd H1 qu (.lst [V.ref b0])) := ⟨Bfs.start P1 S1 o, Wys.start P1 S1 o, ⟨_, _, sq1 _ _ hwd, .cons (sq_same hb0 sq) .nil, .cons ⟨rfl, c, rfl, sq1 _ _ hc⟩ .nil⟩, ⟨[b0], upd_same, .cons (sq_same hb0 sq) .nil⟩, fun q h => by rw [List.mem_singleton.mp h]; exact Nat.le_refl _, rfl, sq⟩
    show Ends.nx _ _ (upd H1 qu (.lst [V.ref b0]))
    generalize upd H1 qu (.lst [V.ref b0]) = H2 at R0 ⊢
    clear sq sq1 nqu hc hwd sA ncH wdc nc
    have kept : ∀ {H' : Hp}, Same H H' → Rd H' d (DX w d vs kvs) := fun s => rd_same hd s
    refine ⟨fun m σ H3 => ∃ (R : List Pl) (W : WyL) (n : Nat), m = 120 - n ∧ (∃ v5 v6 v7 v8 : Option V, σ = [some (.ref d), some (.ref b0), some (.ref wd), some (.ref qu), some (.int ((n : Nat) : Int)), v5, v6, v7, v8]) ∧ WyS K w P1 S1 o wd qu H R W n H3, ⟨_, [o], _, 0, rfl, ⟨_, _, _, _, rfl⟩, R0⟩, ?_⟩
    rintro m σ H3 ⟨R, W, n, rfl, ⟨v5, v6, v7, v8, rfl⟩, S⟩
    obtain ⟨bf, wy, ⟨ts, ks, hwd, kyw, pw⟩, ⟨as, hqu, pa⟩, sh, run, sm⟩ := id S
    have la := prd_len pa
    have RQ : ∀ p ∈ R, p ∈ Qs := fun p hp => by
      obtain ⟨v, k⟩ := bf.reach p hp
      obtain ⟨v0, k0⟩ := bf0.reach o ho
      exact (bf0.all p).mpr ⟨_, k0.trans k⟩
    have lR : R.length ≤ 102 := Nat.le_trans (nd_le bf.nd RQ) few
    refine ⟨_, rfl, _, rfl, qu, _, rfl, .inl (SqL.of hqu), _, _, rfl, rfl, _, rfl, ?_⟩
    rw [List.length_map, la]
    by_cases hn : n < R.length
    · rw [decide_eq_true (show ((n : Nat) : Int) < ((R.length : Nat) : Int) by omega)]
      refine iteT ⟨fun σ' H' => ∃ m', m' < 120 - n ∧ ∃ (R : List Pl) (W : WyL) (n : Nat), m' = 120 - n ∧ (∃ v5 v6 v7 v8 : Option V, σ' = [some (.ref d), some (.ref b0), some (.ref wd), some (.ref qu), some (.int ((n : Nat) : Int)), v5, v6, v7, v8]) ∧ WyS K w P1 S1 o wd qu H R W n H', fun _ _ z => z, ?_⟩
      obtain ⟨p, hp⟩ : ∃ p, R[n]? = some p := ⟨R[n], List.getElem?_eq_getElem hn⟩
      obtain ⟨b, hb, ebp⟩ : ∃ b, as[n]? = some b ∧ PlT K H3 b p := by
        have h1 : n < as.length := by omega
        obtain ⟨y, e1, e2⟩ := prd_at pa (List.getElem?_eq_getElem h1)
        rw [hp] at e1
        cases e1
        exact ⟨_, List.getElem?_eq_getElem h1, e2⟩
      have hpm : p ∈ R := List.mem_of_getElem? hp
      obtain ⟨j, hj, ej⟩ := List.getElem_of_mem (RQ p hpm)
      have hjk : j < kvs.length := by rw [prd_len pk]; exact hj
      obtain ⟨p2, e2, ek, ml⟩ := prd_at pk (List.getElem?_eq_getElem hjk)
      rw [List.getElem?_eq_getElem hj, ej] at e2
      cases e2
      have hval : valV kvs (plK p) = some kvs[j].2 := by
        rw [← ek]
        exact val_at ndK (List.getElem?_eq_getElem hjk)
      have hbx : (as.map V.ref)[n]? = some (.ref b) := by rw [List.getElem?_map, hb]; rfl
      -- its way
      obtain ⟨wn, hwn, ewn⟩ : ∃ wn, W[n]? = some (p, wn) ∧ (p, wn) ∈ W := by
        have e := wy.keys
        have e2 := hp
        rw [← e, List.getElem?_map] at e2
        cases hW : W[n]? with
        | none =>
          rw [hW] at e2
          cases e2
        | some z =>
          rw [hW] at e2
          have e3 : z.1 = p := Option.some.inj e2
          refine ⟨z.2, by rw [← e3], ?_⟩
          rw [← e3]
          exact List.mem_of_getElem? hW
      have shn := sh _ ewn
      refine ⟨_, rfl, _, rfl, qu, _, _, _, rfl, rfl, SqL.of hqu, atI_nat (j := n) hbx, ?_⟩
      obtain ⟨d0, xs, ev, hxs, prx⟩ := ml
      have hxs3 := sm _ _ hxs
      have prx3 : Paired (MoT K H3) xs (moves P1 S1 p) := prd_imp prx fun _ _ r => r.same sm
      have lx := prd_len prx3
      have l30 := moves_len okP okS p
      have d0qu : d0 ≠ qu := ne_of_none hxs nquH
      refine ⟨_, rfl, _, rfl, d, _, rfl, ⟨vs, kvs, plK p, b, kept sm, ky_same kyv sm, rfl, ebp, hval.symm⟩, d0, ev, ⟨_, SqL.of hxs3⟩, ?_⟩
      have bfs := bf.step hp
      have fewW : ∀ i, (addW wn W ((moves P1 S1 p).take i)).length ≤ 102 := fun i => by
        have e2 : addW wn W (moves P1 S1 p) = addW wn (addW wn W ((moves P1 S1 p).take i)) ((moves P1 S1 p).drop i) := by
          show List.foldl _ _ _ = List.foldl _ (List.foldl _ _ _) _
          rw [← List.foldl_append, List.take_append_drop]
        obtain ⟨R1, e1⟩ := addW_pre wn ((moves P1 S1 p).drop i) (addW wn W ((moves P1 S1 p).take i))
        have e3 := addW_keys wn (moves P1 S1 p) W
        rw [wy.keys] at e3
        have l1 : (addTo R (moves P1 S1 p)).length ≤ 102 := Nat.le_trans (nd_le bfs.nd fun x hx => by
          obtain ⟨v, k⟩ := bfs.reach x hx
          obtain ⟨v0, k0⟩ := bf0.reach o ho
          exact (bf0.all x).mpr ⟨_, k0.trans k⟩) few
        have l2 := congrArg List.length e3
        rw [List.length_map, e2, e1, List.length_append] at l2
        omega
      refine for_it (walk_list (K := K) (a := d0) (xs := xs)) (fun i σ H4 => ∃ (as' ts' : List Addr) (ks' : List (List Key × V)), (∃ v6 v7 v8 : Option V, σ = [some (.ref d), some (.ref b0), some (.ref wd), some (.ref qu), some (.int ((n : Nat) : Int)), some (.ref b), v6, v7, v8]) ∧
        H4 wd = some (DX w wd ts' ks') ∧ KyA K H4 ts' ks' ∧ Paired (KW H4) ks' (addW wn W ((moves P1 S1 p).take i)) ∧ H4 qu = some (.lst (as'.map V.ref)) ∧ Paired (PlT K H4) as' ((addW wn W ((moves P1 S1 p).take i)).map (·.1)) ∧ But2 wd qu H3 H4) ?_ ?_ ?_ ?_
      · exact ⟨as, ts, ks, ⟨_, _, _, rfl⟩, hwd, kyw, pw, hqu, (by show Paired (PlT K H3) as (W.map (·.1)); rw [wy.keys]; exact pa), fun _ _ e _ _ => e⟩
      · rintro i σ H4 hi ⟨as', ts', ks', _, _, _, _, _, _, u⟩
        exact SqL.of (u _ _ hxs3 (ne_of_none hxs nwd) d0qu)
      · rintro i y σ H40 H4 hi ⟨as', ts', ks', ⟨v6, v7, v8, rfl⟩, hwd4, kyw4, pw4, hqu4, pa4, u⟩ ⟨rfl, hy⟩
        obtain ⟨m, hm, mo⟩ := prd_at prx3 hy
        obtain ⟨c, b4, rfl, hc4, hb4⟩ := mo.but u hwd hqu
        have hb4p : PlT K H4 b p := u.sq ebp hwd hqu
        have kW := keysW pw4
        have lks := prd_len pw4
        have fW := fewW i
        have et : (moves P1 S1 p).take (i + 1) = (moves P1 S1 p).take i ++ [m] := by rw [List.take_add_one, hm]; rfl
        refine ⟨c, _, rfl, .inl (.inl hc4), rfl, _, _, rfl, _, _, rfl, _, _, rfl, rfl, ?_⟩
        refine ⟨_, rfl, _, rfl, wd, _, rfl, DGetY.t (k := plK m.2.2) hwd4 kyw4 hb4, _, rfl, ?_⟩
        rw [keysP_is kW, et, addW_snoc]
        have hWn : (addW wn W ((moves P1 S1 p).take i))[n]? = some (p, wn) := by
          obtain ⟨R1, e1⟩ := addW_pre wn ((moves P1 S1 p).take i) W
          rw [e1, List.getElem?_append_left (List.getElem?_eq_some_iff.mp hwn).1]
          exact hwn
        have ndW : ((addW wn W ((moves P1 S1 p).take i)).map (·.1)).Nodup := by
          rw [addW_keys, wy.keys]
          exact addTo_nd _ _ bf.nd
        generalize addW wn W ((moves P1 S1 p).take i) = W' at pw4 pa4 kW lks fW hWn ndW ⊢
        have la4 := prd_len pa4
        rw [List.length_map] at la4
        by_cases hin : m.2.2 ∈ W'.map (·.1)
        · rw [decide_eq_true hin, if_pos hin]
          exact iteF ⟨as', ts', ks', ⟨_, _, _, rfl⟩, hwd4, kyw4, pw4, hqu4, pa4, u⟩
        · rw [decide_eq_false hin, if_neg hin]
          have hn4 : n < ks'.length := by
            rw [lks]
            exact (List.getElem?_eq_some_iff.mp hWn).1
          obtain ⟨y, e1, e2, cw, e3, hcw⟩ := prd_at pw4 (List.getElem?_eq_getElem hn4)
          rw [hWn] at e1
          cases e1
          have hv4 : valV ks' (plK p) = some (.ref cw) := by
            have := val_at (kvs := ks') (i := n) (k := plK p) (v := .ref cw) (by rw [kW]; exact map_nd ndW) (by rw [List.getElem?_eq_getElem hn4]; exact congrArg some (Prod.ext e2 e3))
            exact this
          have lw1 : wn.1.length ≤ 2000 := by
            have : wn.1.length + wn.2.length ≤ n := shn
            omega
          have lw2 : wn.2.length ≤ 2000 := by
            have : wn.1.length + wn.2.length ≤ n := shn
            omega
          refine iteT ⟨_, rfl, _, rfl, wd, _, rfl, (by rw [← hv4]; exact DGetY.t (k := plK p) hwd4 kyw4 hb4p), _, rfl, _, rfl, cw, wn, m.1, m.2.1, rfl, hcw, lw1, lw2, fun c5 H5 s5 hc5 => ?_⟩
          have hwd5 := s5 _ _ hwd4
          have hqu5 := s5 _ _ hqu4
          refine ⟨_, rfl, _, rfl, wd, _, rfl, DPutY.t (k := plK m.2.2) hwd5 (ky_same kyw4 s5) (sq_same hb4 s5) (keysP_none kW hin) (by rw [lks, sizeLine_eq]; omega), ?_⟩
          have hqu6 : upd H5 wd (DX w wd (ts' ++ [b4]) (ks' ++ [(plK m.2.2, V.ref c5)])) qu = some (.lst (as'.map V.ref)) := by rw [upd_ne (Ne.symm wdqu)]; exact hqu5
          refine ⟨_, rfl, .inl ⟨rfl, _, SqL.of hqu6⟩, _, rfl, qu, _, _, rfl, rfl, hqu6, by rw [List.length_map, sizeLine_eq]; omega, ?_⟩
          have up : ∀ {x : Addr} {xs : List V}, H5 x = some (.tup xs) → upd (upd H5 wd (DX w wd (ts' ++ [b4]) (ks' ++ [(plK m.2.2, V.ref c5)]))) qu (.lst (as'.map V.ref ++ [.ref b4])) x = some (.tup xs) := fun {x xs} h => by
            rw [upd_ne (ne_of h hqu5 (fun z => nomatch z)), upd_ne (ne_of h hwd5 (fun z => nomatch z))]
            exact h
          have upS : ∀ {x : Addr} {xs : List V}, SqT K H4 x xs → SqT K (upd (upd H5 wd (DX w wd (ts' ++ [b4]) (ks' ++ [(plK m.2.2, V.ref c5)]))) qu (.lst (as'.map V.ref ++ [.ref b4]))) x xs := fun {x xs} h => sq_lst (sq_dx (sq_same h s5) hwd5) hqu6
          refine ⟨as' ++ [b4], ts' ++ [b4], ks' ++ [(plK m.2.2, V.ref c5)], ⟨_, _, _, rfl⟩, ?_, (prd_imp kyw4 fun _ _ z => upS z).snoc (upS hb4), ?_, ?_, ?_, ?_⟩
          · rw [upd_ne wdqu]
            exact upd_same
          · exact (prd_imp pw4 fun _ _ ⟨h1, c, h2, h3⟩ => ⟨h1, c, h2, up (s5 _ _ h3)⟩).snoc ⟨rfl, c5, rfl, up hc5⟩
          · rw [upd_same, List.map_append]
            rfl
          · rw [List.map_append]
            exact (prd_imp pa4 fun _ _ h => upS h).snoc (upS hb4)
          · intro x u' e n1 n2
            rw [upd_ne n2, upd_ne n1]
            exact s5 _ _ (u _ _ e n1 n2)
      rintro σ H4 ⟨as', ts', ks', ⟨v6, v7, v8, rfl⟩, hwd4, kyw4, pw4, hqu4, pa4, u⟩
      rw [List.take_of_length_le (by omega)] at pw4 pa4
      have hpu : ((n : Nat) : Int) + 1 = ((n + 1 : Nat) : Int) := by omega
      refine ⟨_, rfl, _, _, rfl, rfl, ?_⟩
      refine ⟨120 - (n + 1), by omega, addTo R (moves P1 S1 p), addW wn W (moves P1 S1 p), n + 1, rfl, ⟨_, _, _, _, by rw [← hpu]; rfl⟩, bfs, wy.step ewn, ⟨ts', ks', hwd4, kyw4, pw4⟩, ⟨as', hqu4, by rw [addW_keys, wy.keys] at pa4; exact pa4⟩, ?_, ?_, ?_⟩
      · exact addW_short shn _ _ fun z hz => by have := sh z hz; omega
      · have ew : wayTo W p = wn := way_one (by rw [wy.keys]; exact bf.nd) (wayTo_has wy hpm).1 ewn
        show stepW P1 S1 (runW P1 S1 o n) n = _
        rw [run]
        unfold stepW
        show (match R[n]? with | none => (R, W) | some p => (addTo R (moves P1 S1 p), addW (wayTo W p) W (moves P1 S1 p))) = _
        rw [hp, ← ew]
      · intro x u' e
        exact u _ _ (sm _ _ e) (ne_of_none e nwd) (ne_of_none e nquH)
    · rw [decide_eq_false (show ¬ ((n : Nat) : Int) < ((R.length : Nat) : Int) by omega)]
      have en : n = R.length := by
        have := bf.le
        omega
      subst en
      refine iteF ⟨_, rfl, q wd R W H3 sm nwd bf ⟨⟨ts, ks, hwd, kyw, pw⟩, wy, fun z hz => by have := sh z hz; omega, ?_⟩⟩
      have e1 : R.length = (runW P1 S1 o R.length).1.length := by rw [run]
      have e2 := run_stay e1 (120 - R.length)
      rw [show R.length + (120 - R.length) = 120 by omega, run] at e2
      unfold waysW
      rw [e2]
end
end V8
set_option Elab.async false
set_option linter.all false
set_option maxRecDepth 100000
set_option maxHeartbeats 8000000
set_option pp.maxSteps 900
/-! Meetings made; a meeting ended; one that is not alike. -/
namespace V8
open PySem PySem.Spec PyProof.Rows L2 MZ
variable {K : PySem.W.Frag} {ω : World}
abbrev s_Meetings_init : Stmt := inClass (topS 48) 0
theorem sc_Meetings_init : FnScope ["self", "first", "second"] ["self", "first", "second"] (defScope s_Meetings_init) := ⟨rfl, rfl, rfl, by decide +kernel, rfl, by decide +kernel, by decide +kernel⟩
abbrev s_ended : Stmt := topS 56
theorem sc_ended : FnScope ["meetings", "way", "place", "one", "other"] ["meetings", "way", "place"] (defScope s_ended) := ⟨rfl, rfl, rfl, by decide +kernel, rfl, by decide +kernel, by decide +kernel⟩
abbrev s_unlike_meeting : Stmt := topS 58
theorem sc_unlike_meeting : FnScope ["meetings", "place", "taker", "label", "target", "way", "lead", "known", "found"] ["meetings"] (defScope s_unlike_meeting) := ⟨rfl, rfl, rfl, by decide +kernel, rfl, by decide +kernel, by decide +kernel⟩
/-- all but instances stays -/
def NI (H H' : Hp) : Prop := ∀ b o, H b = some o → (∀ C dx fs, o ≠ .ins C dx fs) → H' b = some o
theorem NI.ofSame {H H' : Hp} (s : Same H H') : NI H H' := fun b o e _ => s b o e
theorem NI.trans {H H1 H2 : Hp} (a : NI H H1) (b : NI H1 H2) : NI H H2 := fun c o e n => b c o (a c o e n) n
theorem NI.put {H : Hp} {x C dx : Addr} {fs : List (Str × V)} {o : HO} (h : H x = some (.ins C dx fs)) : NI H (upd H x o) := fun b u e n => by
  rw [upd_ne fun z => ?_]
  · exact e
  · rw [z, h] at e
    exact n _ _ _ (Option.some.inj e).symm
theorem sq_ni {H H' : Hp} {b : Addr} {xs : List V} (h : SqT K H b xs) (s : NI H H') : SqT K H' b xs := sq_mono h fun o eo z => s _ _ eo fun C dx fs e => by
  rw [e] at z
  rcases z with z | ⟨_, z⟩ <;> cases z
theorem MoT.ni {H H' : Hp} {v : V} {m : Mo} (h : MoT K H v m) (s : NI H H') : MoT K H' v m := by
  obtain ⟨c, b, e, h1, h2⟩ := h
  exact ⟨c, b, e, s _ _ h1 (fun _ _ _ z => nomatch z), sq_ni h2 s⟩
theorem MoL.ni {H H' : Hp} {v : V} {l : List Mo} (h : MoL K H v l) (s : NI H H') : MoL K H' v l := by
  obtain ⟨d, xs, e, h1, h2⟩ := h
  exact ⟨d, xs, e, s _ _ h1 (fun _ _ _ z => nomatch z), prd_imp h2 fun _ _ r => r.ni s⟩
theorem AllM.ni {P S : List Pr} {Q : List Pl} {H H' : Hp} {d : Addr} (h : AllM K ω P S Q H d) (s : NI H H') : AllM K ω P S Q H' d := by
  obtain ⟨as, ks, h1, ky, h2⟩ := h
  exact ⟨as, ks, s _ _ h1 (fun _ _ _ z => nomatch z), prd_imp ky fun _ _ z => sq_ni z s, prd_imp h2 fun _ _ r => ⟨r.1, r.2.ni s⟩⟩
theorem LivD.ni {P S : List Pr} {Q L : List Pl} {H H' : Hp} {d : Addr} (h : LivD K ω P S Q L H d) (s : NI H H') : LivD K ω P S Q L H' d := by
  obtain ⟨⟨as, ks, h1, ky, h2⟩, b, c⟩ := h
  exact ⟨⟨as, ks, s _ _ h1 (fun _ _ _ z => nomatch z), prd_imp ky fun _ _ z => sq_ni z s, h2⟩, b, c⟩
theorem WysD.ni {P S : List Pr} {o : Pl} {R : List Pl} {W : WyL} {H H' : Hp} {d : Addr} (h : WysD K ω P S o R W H d) (s : NI H H') : WysD K ω P S o R W H' d := by
  obtain ⟨⟨as, ks, h1, ky, h2⟩, b, c⟩ := h
  exact ⟨⟨as, ks, s _ _ h1 (fun _ _ _ z => nomatch z), prd_imp ky fun _ _ z => sq_ni z s, prd_imp h2 fun _ _ ⟨e, c, e2, h3⟩ => ⟨e, c, e2, s _ _ h3 (fun _ _ _ z => nomatch z)⟩⟩, b, c⟩
theorem PrL.ni {H H' : Hp} {a : Addr} {P : List Pr} (h : PrL H a P) (s : NI H H') : PrL H' a P := by
  obtain ⟨xs, h1, h2⟩ := h
  exact ⟨xs, s _ _ h1 (fun _ _ _ z => nomatch z), prd_imp h2 fun _ _ ⟨c, e, h3⟩ => ⟨c, e, s _ _ h3 (fun _ _ _ z => nomatch z)⟩⟩
theorem CnH.ni {aS aE aV : Addr} {H H' : Hp} (c : CnH K aS aE aV H) (s : NI H H') : CnH K aS aE aV H' := ⟨sq_ni c.st s, sq_ni c.en s, sq_ni c.ev s⟩
def fM (mv ld wd : Addr) : List (Str × V) := putF "ways" (.ref wd) (putF "living" (.ref ld) (putF "moves" (.ref mv) []))
theorem fM_m (mv ld wd : Addr) : (fM mv ld wd).lookup ("moves" : Str) = some (.ref mv) := by rfl
theorem fM_l (mv ld wd : Addr) : (fM mv ld wd).lookup ("living" : Str) = some (.ref ld) := by rfl
theorem fM_w (mv ld wd : Addr) : (fM mv ld wd).lookup ("ways" : Str) = some (.ref wd) := by rfl
/-- meetings, as an instance -/
structure MeeA (K : PySem.W.Frag) (ω : World) (CM : Addr) (P S : List Pr) (Qs L R : List Pl) (W : WyL) (H : Hp) (x : Addr) : Prop where
  at_ : ∃ dx mv ld wd, H x = some (.ins CM dx (fM mv ld wd)) ∧ AllM K ω P S Qs H mv ∧ LivD K ω P S Qs L H ld ∧ WysD K ω P S .start R W H wd ∧ mv ≠ ld ∧ mv ≠ wd
  b : Bfs P S .start Qs Qs.length
  r : Bfs P S .start R R.length
  few : Qs.length ≤ 102
  eqQ : Qs = placesQ P S
structure Tn (K : PySem.W.Frag) (mg : Str → Option Value) (aS aE aV CM : Addr) : Prop extends Tm mg aS aE aV where
  cl : Cls K CM
  n1 : NoAttr K CM "moves"
  n2 : NoAttr K CM "living"
  n3 : NoAttr K CM "ways"
def spMee (K : PySem.W.Frag) (ω : World) (aS aE aV CM : Addr) : Sp := fun vs H Q _ => ∃ (x dx f1 f2 : Addr) (P S : List Pr), vs = [.ref x, .ref f1, .ref f2] ∧ H x = some (.ins CM dx []) ∧ PrL H f1 P ∧ PrL H f2 S ∧ CnH K aS aE aV H ∧ PrOk P ∧ PrOk S ∧ (∀ q ∈ P, q.1 ≠ []) ∧
  ∀ (Qs L R : List Pl) (W : WyL) (H' : Hp), (∀ b o, H b = some o → b ≠ x → H' b = some o) → MeeA K ω CM P S Qs L R W H' x → Q .non H'
section
variable {P : Program} {w : World} {K : PySem.W.Frag} {mg : Str → Option Value} {base : Heap} {aS aE aV CM : Addr}
theorem ok_meet {f : Addr} {fd : FuncData} (F : Fun K "__init__" "Meetings.__init__" s_Meetings_init f fd) (T : Tn K mg aS aE aV CM) (D_all_moves : Df P w K mg base 4 "all_moves" (spAll K w aS aE aV)) (D_all_living : Df P w K mg base 1 "all_living" (spLiving K w aS aE aV)) (D_ways_from : Df P w K mg base 2 "ways_from" (spWays K w)) :
    FnOk P w K mg base CX0 5 f fd ["self", "first", "second"] (spMee K w aS aE aV CM) := by
  refine F.ok sc_Meetings_init (fun vs H Q E h => ?_) (fun cdv A outer s H vs Q E hr h => ?_)
  · obtain ⟨x, dx, f1, f2, P, S, rfl, _⟩ := h
    rfl
  · obtain ⟨x, dx, f1, f2, P1, S1, rfl, hx, hP, hS, cn, okP, okS, nP, q⟩ := h
    refine ⟨_, (pss_cons (ps_fld (pv 0) (pe_c D_all_moves hr (by decide) (by rfl) (pa_cons (pv 1) (pa_cons (pv 2) pa_nil))) rfl)
      (pss_cons (ps_fld (pv 0) (pe_c D_all_living hr (by decide) (by rfl) (pa_cons (pe_fldK (K := K) rfl (pv 0) rfl) pa_nil)) rfl)
      (pss_one (ps_fld (pv 0) (pe_c D_ways_from hr (by decide) (by rfl) (pa_cons (pe_fldK (K := K) rfl (pv 0) rfl) (pa_cons (pe_gv T.gSTART (by rfl)) pa_nil))) rfl)))), ?_⟩
    refine ⟨_, rfl, _, rfl, f1, f2, P1, S1, rfl, hP, hS, cn, okP, okS, nP, fun mv Qs H1 s1 nmv bf eqQ am => ?_⟩
    have hx1 := s1 _ _ hx
    refine ⟨_, rfl, x, CM, dx, _, rfl, hx1, T.cl, T.n1, by show 0 < 1000; decide, ?_⟩
    have i2 : NI H1 (upd H1 x (.ins CM dx (putF "moves" (.ref mv) []))) := NI.put hx1
    have hx2 : upd H1 x (.ins CM dx (putF "moves" (.ref mv) [])) x = some (.ins CM dx (putF "moves" (.ref mv) [])) := upd_same
    have k2 : ∀ b o, H b = some o → b ≠ x → upd H1 x (.ins CM dx (putF "moves" (.ref mv) [])) b = some o := fun b o e n => by
      rw [upd_ne n]
      exact s1 _ _ e
    have am2 := am.ni i2
    have cn2 := (cn.same s1).ni i2
    show Ends.nx _ _ (upd H1 x (.ins CM dx (putF "moves" (.ref mv) [])))
    generalize upd H1 x (.ins CM dx (putF "moves" (.ref mv) [])) = H2 at hx2 k2 am2 cn2 ⊢
    have few : Qs.length ≤ 102 := by
      have := bf.few nP
      have := sum_ok okP
      have := sum_ok okS
      omega
    refine ⟨_, rfl, x, CM, dx, _, V.ref mv, rfl, hx2, T.cl, T.n1, rfl, mv, P1, S1, Qs, rfl, am2, bf, cn2, few, okP, okS, fun ld L H3 s3 nld lv => ?_⟩
    have hx3 := s3 _ _ hx2
    refine ⟨_, rfl, x, CM, dx, _, rfl, hx3, T.cl, T.n2, by show 1 < 1000; decide, ?_⟩
    have i4 : NI H3 (upd H3 x (.ins CM dx (putF "living" (.ref ld) (putF "moves" (.ref mv) [])))) := NI.put hx3
    have hx4 : upd H3 x (.ins CM dx (putF "living" (.ref ld) (putF "moves" (.ref mv) []))) x = some (.ins CM dx (putF "living" (.ref ld) (putF "moves" (.ref mv) []))) := upd_same
    have k4 : ∀ b o, H b = some o → b ≠ x → upd H3 x (.ins CM dx (putF "living" (.ref ld) (putF "moves" (.ref mv) []))) b = some o := fun b o e n => by
      rw [upd_ne n]
      exact s3 _ _ (k2 _ _ e n)
    have am4 := (am2.ni (NI.ofSame s3)).ni i4
    have cn4 := (cn2.same s3).ni i4
    have lv4 := lv.ni i4
    show Ends.nx _ _ (upd H3 x (.ins CM dx (putF "living" (.ref ld) (putF "moves" (.ref mv) []))))
    generalize upd H3 x (.ins CM dx (putF "living" (.ref ld) (putF "moves" (.ref mv) []))) = H4 at hx4 k4 am4 cn4 lv4 ⊢
    refine ⟨_, rfl, x, CM, dx, _, V.ref mv, rfl, hx4, T.cl, T.n1, rfl, mv, aS, P1, S1, Qs, .start, rfl, am4.rd, bf, cn4.st, (bf.all .start).mpr ⟨_, .nil⟩, few, okP, okS, fun wd R W H5 s5 nwd bR wy => ?_⟩
    have hx5 := s5 _ _ hx4
    refine ⟨_, rfl, x, CM, dx, _, rfl, hx5, T.cl, T.n3, by show 2 < 1000; decide, ?_⟩
    have i6 : NI H5 (upd H5 x (.ins CM dx (fM mv ld wd))) := NI.put hx5
    refine q Qs L R W _ (fun b o e n => ?_) ⟨⟨dx, mv, ld, wd, upd_same, (am4.ni (NI.ofSame s5)).ni i6, (lv4.ni (NI.ofSame s5)).ni i6, wy.ni i6, ne_of_none am2.choose_spec.choose_spec.1 nld, ne_of_none am4.choose_spec.choose_spec.1 nwd⟩, bf, bR, few, eqQ⟩
    show upd H5 x _ b = _
    rw [upd_ne n]
    exact s5 _ _ (k4 _ _ e n)
end
end V8
set_option Elab.async false
set_option linter.all false
set_option maxRecDepth 100000
set_option maxHeartbeats 8000000
set_option pp.maxSteps 900
/-! A meeting ended. -/
namespace V8
open PySem PySem.Spec PyProof.Rows L2 MZ
variable {K : PySem.W.Frag} {ω : World}
/-- meetings read: the dict of steps locked or not -/
structure MeeR (K : PySem.W.Frag) (ω : World) (CM : Addr) (P S : List Pr) (Qs L R : List Pl) (W : WyL) (H : Hp) (x : Addr) : Prop where
  at_ : ∃ dx mv ld wd, H x = some (.ins CM dx (fM mv ld wd)) ∧ AllR K ω P S Qs H mv ∧ LivD K ω P S Qs L H ld ∧ WysD K ω P S .start R W H wd
  b : Bfs P S .start Qs Qs.length
  r : Bfs P S .start R R.length
  few : Qs.length ≤ 102
theorem AllR.same {P S : List Pr} {Q : List Pl} {H H' : Hp} {d : Addr} (h : AllR K ω P S Q H d) (s : Same H H') : AllR K ω P S Q H' d := by
  obtain ⟨as, ks, h1, ky, h2⟩ := h
  exact ⟨as, ks, rd_same h1 s, ky_same ky s, prd_imp h2 fun _ _ r => r.up s⟩
theorem MeeR.same {CM : Addr} {P S : List Pr} {Qs L R : List Pl} {W : WyL} {H H' : Hp} {x : Addr} (h : MeeR K ω CM P S Qs L R W H x) (s : Same H H') : MeeR K ω CM P S Qs L R W H' x := by
  obtain ⟨⟨dx, mv, ld, wd, h1, h2, h3, h4⟩, b, c, d⟩ := h
  exact ⟨⟨dx, mv, ld, wd, s _ _ h1, h2.same s, h3.ni (NI.ofSame s), h4.ni (NI.ofSame s)⟩, b, c, d⟩
/-- a way and its end -/
def spEnded (K : PySem.W.Frag) (ω : World) (aS aE aV CM : Addr) : Sp := fun vs H Q _ => ∃ (x c b : Addr) (P S : List Pr) (Qs L R : List Pl) (W : WyL) (w : List Nat × List Nat) (p : Pl), vs = [.ref x, .ref c, .ref b] ∧ MeeR K ω CM P S Qs L R W H x ∧ CnH K aS aE aV H ∧ WyT H c w ∧ wlen w ≤ 700 ∧ PlT K H b p ∧ p ∈ Qs ∧ (∃ v, Way P S p .fin v) ∧ PrOk P ∧ PrOk S ∧
  ∀ (e : Addr) (v : List Nat × List Nat) (H' : Hp), Same H H' → Way P S p .fin v → WyT H' e (w.1 ++ v.1, w.2 ++ v.2) → wlen v ≤ 120 → v = wayTo (waysW P S p) .fin → Q (.ref e) H'
theorem wys_at {P S : List Pr} {o : Pl} {R : List Pl} {W : WyL} {H : Hp} {d : Addr} (h : WysD K ω P S o R W H d) (nd : R.Nodup) {p : Pl} (hp : p ∈ R) : ∃ as ks c, H d = some (DX ω d as ks) ∧ KyA K H as ks ∧ valV ks (plK p) = some (.ref c) ∧ WyT H c (wayTo W p) ∧ Way P S o p (wayTo W p) ∧ wlen (wayTo W p) ≤ 120 := by
  obtain ⟨⟨as, ks, h1, ky, h2⟩, wy, sh, _⟩ := h
  obtain ⟨m, k⟩ := wayTo_has wy hp
  obtain ⟨j, hj, e⟩ := List.getElem_of_mem m
  have hjk : j < ks.length := by rw [prd_len h2]; exact hj
  obtain ⟨y, e1, e2, c, e3, hc⟩ := prd_at h2 (List.getElem?_eq_getElem hjk)
  rw [List.getElem?_eq_getElem hj, e] at e1
  cases e1
  have nk : (ks.map (·.1)).Nodup := by
    rw [keysW h2, wy.keys]
    exact map_nd nd
  exact ⟨as, ks, c, h1, ky, val_at nk (by rw [List.getElem?_eq_getElem hjk]; exact congrArg some (Prod.ext e2 e3)), hc, k, sh _ m⟩
section
variable {P : Program} {w : World} {K : PySem.W.Frag} {mg : Str → Option Value} {base : Heap} {aS aE aV CM : Addr}
theorem ok_ended {f : Addr} {fd : FuncData} (F : Fun K "ended" "ended" s_ended f fd) (T : Tn K mg aS aE aV CM) (D_ways_from : Df P w K mg base 2 "ways_from" (spWays K w)) : FnOk P w K mg base CX0 3 f fd ["meetings", "way", "place"] (spEnded K w aS aE aV CM) := by
  refine F.ok sc_ended (fun vs H Q E h => ?_) (fun cdv A outer s H vs Q E hr h => ?_)
  · obtain ⟨x, c, b, P, S, Qs, L, R, W, y, p, rfl, _⟩ := h
    rfl
  · obtain ⟨x, c, b, P1, S1, Qs, L, R, W, y, p, rfl, me, cn, hc, ly, hb, hp, ⟨v0, k0⟩, okP, okS, q⟩ := h
    refine ⟨_, (pss_cons (ps_asg (pe_dgetY (w := w) (K := K) rfl rfl (hu_of hr) (pe_c D_ways_from hr (by decide) (by rfl) (pa_cons (pe_fldK (K := K) rfl (pv 0) rfl) (pa_cons (pv 2) pa_nil))) (pe_gv T.gEND (by rfl)) (fun _ _ => rfl)) (pg_tup (by rfl) (pgs_cons (pg_name (i := 3) sc_ended.nd rfl (.inl rfl)) (pgs_cons (pg_name (i := 4) sc_ended.nd rfl (.inl rfl)) pgs_nil))))
      (pss_one (ps_ret (pe_tup (pa_cons (pe_op op_add_str (pe_ix (ix_tupK (K := K) rfl) (pv 1) pe_int (fun _ _ => rfl)) (pv 3)) (pa_cons (pe_op op_add_str (pe_ix (ix_tupK (K := K) rfl) (pv 1) pe_int (fun _ _ => rfl)) (pv 4)) pa_nil)))))), ?_⟩
    obtain ⟨⟨dx, mv, ld, wd, hx, am, lv, wy⟩, bf, br, few⟩ := id me
    refine ⟨_, rfl, x, CM, dx, _, V.ref mv, rfl, hx, T.cl, T.n1, fM_m mv ld wd, _, rfl, mv, b, P1, S1, Qs, p, rfl, am, bf, hb, hp, few, okP, okS, fun wd2 R2 W2 H2 s2 _ b2 wy2 => ?_⟩
    have hfin : Pl.fin ∈ R2 := (b2.all .fin).mpr ⟨_, k0⟩
    obtain ⟨as, ks, e, h1, ky, h2, h3, k, l3⟩ := wys_at wy2 b2.nd hfin
    have cn2 := cn.same s2
    have hc2 := s2 _ _ hc
    refine ⟨wd2, _, rfl, by rw [← h2]; exact DGetY.t (k := plK .fin) h1 ky cn2.en, e, _, rfl, .inl (.inl h3), rfl, _, _, rfl, _, _, rfl, rfl, ?_⟩
    have l1 : y.1.length + y.2.length ≤ 700 := ly
    have l2 : (wayTo W2 .fin).1.length + (wayTo W2 .fin).2.length ≤ 120 := l3
    refine ⟨_, rfl, c, _, _, _, rfl, rfl, .inl (.inl hc2), atI_nat (j := 0) rfl, _, rfl, _, _, rfl, rfl, by rw [Sx_len, Sx_len, sizeLine_eq]; omega, ?_⟩
    refine ⟨_, rfl, c, _, _, _, rfl, rfl, .inl (.inl hc2), atI_nat (j := 1) rfl, _, rfl, _, _, rfl, rfl, by rw [Sx_len, Sx_len, sizeLine_eq]; omega, by show 2 ≤ sizeLine; decide, fun d nd => ?_⟩
    rw [Sx_app, Sx_app]
    exact q d _ _ (same_put (s := s2) nd) k upd_same l3 (by rw [wy2.2.2.2])
end
end V8
set_option Elab.async false
set_option linter.all false
set_option maxRecDepth 100000
set_option maxHeartbeats 8000000
set_option pp.maxSteps 900
/-! A meeting that is not alike. -/
namespace V8
open PySem PySem.Spec PyProof.Rows L2 MZ
variable {K : PySem.W.Frag} {ω : World}
def LbOk (P : List Pr) : Prop := ∀ q ∈ P, isLt q.2
def LtW (w : List Nat × List Nat) : Prop := (∀ c ∈ w.1, isLt c) ∧ ∀ c ∈ w.2, isLt c
theorem mo_lt {P S : List Pr} (lP : LbOk P) (lS : LbOk S) {p : Pl} {m : Mo} (h : m ∈ moves P S p) : isLt m.2.1 := by
  cases p with
  | fin => cases h
  | start =>
    obtain ⟨q, hq, rfl⟩ := List.mem_map.mp h
    exact lP q hq
  | rest a r =>
    obtain ⟨q, hq, e⟩ := List.mem_filterMap.mp h
    obtain ⟨t, _, rfl⟩ := Option.map_eq_some_iff.mp e
    cases a with
    | true => exact lS q hq
    | false => exact lP q hq
theorem put_lt {w : List Nat × List Nat} (h : LtW w) (t : Bool) {l : Nat} (hl : isLt l) : LtW (put t l w) := by
  cases t with
  | true =>
    refine ⟨fun c hc => ?_, h.2⟩
    rcases List.mem_append.mp hc with a | a
    · exact h.1 c a
    · rw [List.mem_singleton.mp a]
      exact hl
  | false =>
    refine ⟨h.1, fun c hc => ?_⟩
    rcases List.mem_append.mp hc with a | a
    · exact h.2 c a
    · rw [List.mem_singleton.mp a]
      exact hl
theorem way_lt {P S : List Pr} (lP : LbOk P) (lS : LbOk S) {o p : Pl} {w : List Nat × List Nat} (h : Way P S o p w) : LtW w := by
  induction h with
  | nil => exact ⟨fun c h => (List.not_mem_nil h).elim, fun c h => (List.not_mem_nil h).elim⟩
  | step _ m ih => exact put_lt ih _ (mo_lt lP lS m)
theorem way_start {P S : List Pr} {o : Pl} {w : List Nat × List Nat} (h : Way P S o .start w) : w = ([], []) := by
  cases h with
  | nil => rfl
  | @step p w t l q _ m =>
    exfalso
    cases p with
    | fin => cases m
    | start =>
      obtain ⟨q, hq, e⟩ := List.mem_map.mp m
      cases e
    | rest a r =>
      obtain ⟨q, hq, e⟩ := List.mem_filterMap.mp m
      obtain ⟨t, et, e2⟩ := Option.map_eq_some_iff.mp e
      cases e2
      rcases behind_cases et with ⟨_, z⟩ | ⟨_, _, _, z⟩ | ⟨_, _, _, z⟩ <;> cases z
def ldD : Option (Bool × List Nat) → PyData
  | none => .none
  | some k => .tuple [.str (sideS k.1), .str (Sx k.2)]
theorem ld_dp {K : PySem.W.Frag} {H : Hp} {v : V} {o : Option (Bool × List Nat)} (h : LdO K H v o) : Dp K H v (ldD o) := by
  cases o with
  | none =>
    have h : v = .non := h
    subst h
    exact .non
  | some k =>
    obtain ⟨b, rfl, h1⟩ := h
    exact .tup h1 (.cons (.str _) (.cons (.str _) .nil))
theorem lead_lt {w : List Nat × List Nat} (h : LtW w) {k : Bool × List Nat} (e : lead w = some k) : ∀ c ∈ k.2, isLt c := fun c hc => by
  rcases lead_some e with ⟨_, e2⟩ | ⟨_, _, e2⟩
  · exact h.1 c (by rw [e2]; exact List.mem_append_right _ hc)
  · exact h.2 c (by rw [e2]; exact List.mem_append_right _ hc)
theorem ld_shaped {o : Option (Bool × List Nat)} (h : ∀ k, o = some k → ∀ c ∈ k.2, isLt c) : SeqAt.shaped (ldD o) = true := by
  cases o with
  | none => rfl
  | some k =>
    have ok1 : PyData.strOk (sideS k.1) = true := by
      cases k.1 with
      | true => exact (show PyData.strOk (sideS true) = true by decide +kernel)
      | false => exact (show PyData.strOk (sideS false) = true by decide +kernel)
    have ok2 : PyData.strOk (Sx k.2) = true := ok_sx (h k rfl)
    refine shaped_of (by simp only [ldD, PyData.canLay0, PyData.canLayAll0, ok1, ok2]; rfl) ?_
    simp [ldD, PyData.depth, PyData.depthAll]
theorem ld_eqv (k : Bool × List Nat) (o : Option (Bool × List Nat)) : PyData.eqv (ldD (some k)) (ldD o) = decide (o = some k) := by
  cases o with
  | none => rfl
  | some j =>
    show (decide (sideS k.1 = sideS j.1) && (decide (Sx k.2 = Sx j.2) && true)) = _
    rw [Bool.and_true, Bool.eq_iff_iff, Bool.and_eq_true, decide_eq_true_iff, decide_eq_true_iff, decide_eq_true_iff]
    exact ⟨fun h => by rw [Prod.ext (side_inj h.1) (Sx_inj h.2)], fun h => by rw [Option.some.inj h]; exact ⟨rfl, rfl⟩⟩
theorem all_at {P S : List Pr} {Q : List Pl} {H : Hp} {d : Addr} (h : AllR K ω P S Q H d) (nd : Q.Nodup) {p : Pl} (hp : p ∈ Q) : ∃ as kvs v, Rd H d (DX ω d as kvs) ∧ KyA K H as kvs ∧ valV kvs (plK p) = some v ∧ MoL K H v (moves P S p) := by
  obtain ⟨as, ks, h1, ky, h2⟩ := h
  obtain ⟨j, hj, e⟩ := List.getElem_of_mem hp
  have hjk : j < ks.length := by rw [prd_len h2]; exact hj
  obtain ⟨y, e1, e2, ml⟩ := prd_at h2 (List.getElem?_eq_getElem hjk)
  rw [List.getElem?_eq_getElem hj, e] at e1
  cases e1
  have nk : (ks.map (·.1)).Nodup := by
    rw [keysM h2]
    exact map_nd nd
  exact ⟨as, ks, ks[j].2, h1, ky, val_at nk (by rw [List.getElem?_eq_getElem hjk]; exact congrArg some (Prod.ext e2 rfl)), ml⟩
theorem wlen_app (a v : List Nat × List Nat) : wlen (a.1 ++ v.1, a.2 ++ v.2) = wlen a + wlen v := by
  show (a.1 ++ v.1).length + (a.2 ++ v.2).length = (a.1.length + a.2.length) + (v.1.length + v.2.length)
  rw [List.length_append, List.length_append]
  omega
open Classical in
/-- whether the end can be reached -/
noncomputable def livesB (P S : List Pr) (p : Pl) : Bool := decide (∃ v, Way P S p .fin v)
open Classical in
theorem livesB_iff {P S : List Pr} {p : Pl} : livesB P S p = true ↔ ∃ v, Way P S p .fin v := by
  unfold livesB
  exact decide_eq_true_iff
/-- the meeting that is made of an odd step -/
def foundW (P S : List Pr) (p : Pl) (m : Mo) : List Nat × List Nat :=
  if (put m.1 m.2.1 (wayTo (waysW P S .start) p)).1 ++ (wayTo (waysW P S m.2.2) .fin).1 = (put m.1 m.2.1 (wayTo (waysW P S .start) p)).2 ++ (wayTo (waysW P S m.2.2) .fin).2
  then ((wayTo (waysW P S .start) m.2.2).1 ++ (wayTo (waysW P S m.2.2) .fin).1, (wayTo (waysW P S .start) m.2.2).2 ++ (wayTo (waysW P S m.2.2) .fin).2)
  else ((put m.1 m.2.1 (wayTo (waysW P S .start) p)).1 ++ (wayTo (waysW P S m.2.2) .fin).1, (put m.1 m.2.1 (wayTo (waysW P S .start) p)).2 ++ (wayTo (waysW P S m.2.2) .fin).2)
noncomputable def oddB (P S : List Pr) (p : Pl) (m : Mo) : Bool := livesB P S m.2.2 && oddM (waysW P S .start) p m
noncomputable def oddsW (P S : List Pr) : List (Pl × Mo) := (placesQ P S).flatMap fun p => ((moves P S p).filter (oddB P S p)).map fun m => (p, m)
/-- the meeting that is told, as the program finds it -/
noncomputable def unlikeW (P S : List Pr) : Option (List Nat × List Nat) := (oddsW P S).head?.map fun z => foundW P S z.1 z.2
theorem filter_first {α : Type} {f : α → Bool} {l : List α} {i : Nat} {x : α} (e : l[i]? = some x) (h : f x = true) (no : ∀ j y, j < i → l[j]? = some y → f y = false) : ∃ r, l.filter f = x :: r := by
  obtain ⟨hi, ex⟩ := List.getElem?_eq_some_iff.mp e
  refine ⟨(l.drop (i + 1)).filter f, ?_⟩
  have e0 : (l.take i).filter f = [] := List.filter_eq_nil_iff.mpr fun y hy => by
    obtain ⟨j, hj, ey⟩ := List.getElem_of_mem hy
    have hji : j < i := by rw [List.length_take] at hj; omega
    have e1 : l[j]? = some y := by
      rw [List.getElem_take] at ey
      rw [List.getElem?_eq_getElem (by omega), ey]
    rw [no j y hji e1]
    decide
  conv => lhs; rw [← List.take_append_drop i l, List.filter_append, e0, List.drop_eq_getElem_cons hi, List.filter_cons, ex, if_pos h]
  rfl
theorem odds_first {P S : List Pr} {i k : Nat} {p : Pl} {m : Mo} (hp : (placesQ P S)[i]? = some p) (hm : (moves P S p)[k]? = some m) (h : oddB P S p m = true)
    (no : ∀ j p', j < i → (placesQ P S)[j]? = some p' → ∀ m' ∈ moves P S p', oddB P S p' m' = false) (no2 : ∀ j m', j < k → (moves P S p)[j]? = some m' → oddB P S p m' = false) : unlikeW P S = some (foundW P S p m) := by
  obtain ⟨r, er⟩ := filter_first hm h no2
  obtain ⟨hi, ep⟩ := List.getElem?_eq_some_iff.mp hp
  have e0 : ((placesQ P S).take i).flatMap (fun p => ((moves P S p).filter (oddB P S p)).map fun m => (p, m)) = [] := List.flatMap_eq_nil_iff.mpr fun y hy => by
    obtain ⟨j, hj, ey⟩ := List.getElem_of_mem hy
    have hji : j < i := by rw [List.length_take] at hj; omega
    have e1 : (placesQ P S)[j]? = some y := by
      rw [List.getElem_take] at ey
      rw [List.getElem?_eq_getElem (by omega), ey]
    rw [List.filter_eq_nil_iff.mpr fun m' hm' => by rw [no j y hji e1 m' hm']; decide]
    rfl
  have e1 : oddsW P S = (p, m) :: (r.map (fun m => (p, m)) ++ ((placesQ P S).drop (i + 1)).flatMap (fun p => ((moves P S p).filter (oddB P S p)).map fun m => (p, m))) := by
    unfold oddsW
    conv => lhs; rw [← List.take_append_drop i (placesQ P S), List.flatMap_append, e0, List.drop_eq_getElem_cons hi, List.flatMap_cons, ep, er]
    rfl
  unfold unlikeW
  rw [e1]
  rfl
def spUnlike (K : PySem.W.Frag) (ω : World) (aS aE aV CM : Addr) : Sp := fun vs H Q _ => ∃ (x : Addr) (P S : List Pr) (Qs L R : List Pl) (W : WyL), vs = [.ref x] ∧ MeeA K ω CM P S Qs L R W H x ∧ CnH K aS aE aV H ∧ PrOk P ∧ PrOk S ∧ LbOk P ∧ LbOk S ∧ (∀ q ∈ P, q.1 ≠ []) ∧
  (Alike P S → ∀ H', Same H H' → Q .non H') ∧ ∀ (e : Addr) (w : List Nat × List Nat) (H' : Hp), Same H H' → WyT H' e w → Way P S .start .fin w → w.1 ≠ w.2 → wlen w ≤ 260 → unlikeW P S = some w → Q (.ref e) H'
section
variable {P : Program} {w : World} {K : PySem.W.Frag} {mg : Str → Option Value} {base : Heap} {aS aE aV CM : Addr}
theorem ok_unlike {f : Addr} {fd : FuncData} (F : Fun K "unlike_meeting" "unlike_meeting" s_unlike_meeting f fd) (T : Tn K mg aS aE aV CM) (D_with_label : Df P w K mg base 1 "with_label" spLabel) (D_lead_of : Df P w K mg base 1 "lead_of" (spLead K)) (D_ended : Df P w K mg base 3 "ended" (spEnded K w aS aE aV CM)) : FnOk P w K mg base CX0 4 f fd ["meetings"] (spUnlike K w aS aE aV CM) := by
  refine F.ok sc_unlike_meeting (fun vs H Q E h => ?_) (fun cdv A outer s H vs Q E hr h => ?_)
  · obtain ⟨x, P, S, Qs, L, R, W, rfl, _⟩ := h
    rfl
  · obtain ⟨x, P1, S1, Qs, L, R, W, rfl, ⟨⟨dx, mv, ld, wd, hx, ⟨vs, kvs, hd, kyv, pk⟩, lv, wy, nml, nmw⟩, bf, br, few, eqQ⟩, cn, okP, okS, lP, lS, nP, qn, qf⟩ := h
    refine ⟨_, (pss_cons (ps_lock (ps_for PassesOwn.never rfl (pi_keysXt (w := w) rfl (pe_fldK (K := K) rfl (pv 0) rfl)) (pg_name (i := 1) sc_unlike_meeting.nd rfl (.inl rfl))
        (pss_one (ps_for PassesOwn.never rfl (pi_list (pe_dgetY (w := w) (K := K) rfl rfl (hu_of hr) (pe_fldK (K := K) rfl (pv 0) rfl) (pv 1) (fun _ _ => rfl))) (pg_tup (by rfl) (pgs_cons (pg_name (i := 2) sc_unlike_meeting.nd rfl (.inl rfl)) (pgs_cons (pg_name (i := 3) sc_unlike_meeting.nd rfl (.inl rfl)) (pgs_cons (pg_name (i := 4) sc_unlike_meeting.nd rfl (.inl rfl)) pgs_nil))))
          (pss_one (ps_if (pt_cmp (pc_dinY (w := w) (K := K) rfl rfl (hu_of hr) (pv 4) (pe_fldK (K := K) rfl (pv 0) rfl)))
            (pss_cons (ps_set (i := 5) sc_unlike_meeting.nd rfl (.inl rfl) (pe_c D_with_label hr (by decide) (by rfl) (pa_cons (pe_dgetY (w := w) (K := K) rfl rfl (hu_of hr) (pe_fldK (K := K) rfl (pv 0) rfl) (pv 1) (fun _ _ => rfl)) (pa_cons (pv 2) (pa_cons (pv 3) pa_nil)))))
            (pss_cons (ps_set (i := 6) sc_unlike_meeting.nd rfl (.inl rfl) (pe_c D_lead_of hr (by decide) (by rfl) (pa_cons (pv 5) pa_nil)))
            (pss_cons (ps_set (i := 7) sc_unlike_meeting.nd rfl (.inl rfl) (pe_ifExp (pt_cmpR (op_eqDK (K := K) rfl hr.units) (pv 4) (pe_gv T.gEND (by rfl)) (nomark _)) (pe_gv T.gEVEN (by rfl)) (pe_c D_lead_of hr (by decide) (by rfl) (pa_cons (pe_dgetY (w := w) (K := K) rfl rfl (hu_of hr) (pe_fldK (K := K) rfl (pv 0) rfl) (pv 4) (fun _ _ => rfl)) pa_nil))))
            (pss_one (ps_if (PW.pt (pw_or (pt_cmpR op_isN (pv 6) pe_non (nomark _)) (pw_or1 (pt_cmpR (op_neDK (K := K) rfl hr.units) (pv 6) (pv 7) (nomark _)))))
              (pss_cons (ps_set (i := 8) sc_unlike_meeting.nd rfl (.inl rfl) (pe_c D_ended hr (by decide) (by rfl) (pa_cons (pv 0) (pa_cons (pv 5) (pa_cons (pv 4) pa_nil)))))
              (pss_one (ps_ret (pe_ifExp (pt_cmpR op_eq (pe_ix (ix_tupK (K := K) rfl) (pv 8) pe_int (fun _ _ => rfl)) (pe_ix (ix_tupK (K := K) rfl) (pv 8) pe_int (fun _ _ => rfl)) (nomark _)) (pe_c D_ended hr (by decide) (by rfl) (pa_cons (pv 0) (pa_cons (pe_dgetY (w := w) (K := K) rfl rfl (hu_of hr) (pe_fldK (K := K) rfl (pv 0) rfl) (pv 4) (fun _ _ => rfl)) (pa_cons (pv 4) pa_nil)))) (pv 8)))))
              pss_nil)))))
            pss_nil))))))
      (pss_one (ps_ret pe_non))), ?_⟩
    have lkv := prd_len pk
    have lvs := prd_len kyv
    have lv0 : Liv P1 S1 L ∧ ∀ p ∈ Qs, ∀ v, Way P1 S1 p .fin v → p ∈ L := ⟨lv.liv, lv.all⟩
    refine ⟨mv, _, hd, True.intro, fun od => ⟨_, rfl, x, CM, dx, _, V.ref mv, rfl, ?_, T.cl, T.n1, fM_m mv ld wd, mv, od, vs, kvs, rfl, upd_same, ?_⟩⟩
    · rw [upd_ne (ne_of hx hd (fun z => nomatch z))]
      exact hx
    have sf : ∀ c u, H c = some u → c ≠ mv → upd H mv (.frz od (DX w mv vs kvs)) c = some u := fun c u e n => by
      rw [upd_ne n]
      exact e
    have back : ∀ {H' : Hp}, Same (upd H mv (.frz od (DX w mv vs kvs))) H' → Same H (upd H' mv (DX w mv vs kvs)) := fun {H'} s b o e => by
      by_cases hb : b = mv
      · rw [hb, upd_same]
        rw [hb, hd] at e
        exact e
      · rw [upd_ne hb]
        exact s _ _ (sf _ _ e hb)
    have ndK : (kvs.map (·.1)).Nodup := by
      rw [keysM pk]
      exact map_nd bf.nd
    have upS : ∀ {y : Addr} {xs : List V}, SqT K H y xs → SqT K (upd H mv (.frz od (DX w mv vs kvs))) y xs := fun e => sq_dx e hd
    have upT : ∀ {y : Addr} {xs : List V}, H y = some (.tup xs) → upd H mv (.frz od (DX w mv vs kvs)) y = some (.tup xs) := fun e => sf _ _ e (ne_of e hd (fun z => nomatch z))
    have upL : ∀ {y : Addr} {xs : List V}, H y = some (.lst xs) → upd H mv (.frz od (DX w mv vs kvs)) y = some (.lst xs) := fun e => sf _ _ e (ne_of e hd (fun z => nomatch z))
    have pk1 : Paired (MvD K P1 S1 (upd H mv (.frz od (DX w mv vs kvs)))) kvs Qs := prd_imp pk fun _ _ ⟨e, d, xs, e2, h1, h2⟩ => ⟨e, d, xs, e2, upL h1, prd_imp h2 fun _ _ ⟨c, b, e3, h3, h4⟩ => ⟨c, b, e3, upT h3, upS h4⟩⟩
    have kyv1 : KyA K (upd H mv (.frz od (DX w mv vs kvs))) vs kvs := prd_imp kyv fun _ _ z => upS z
    have me1 : MeeR K w CM P1 S1 Qs L R W (upd H mv (.frz od (DX w mv vs kvs))) x := by
      obtain ⟨⟨as, ks, h1, ky1, h2⟩, h3, h4⟩ := lv
      obtain ⟨⟨a2, k2, h5, ky2, h6⟩, h7, h8, h9⟩ := wy
      exact ⟨⟨dx, mv, ld, wd, sf _ _ hx (ne_of hx hd (fun z => nomatch z)), ⟨vs, kvs, .inr ⟨od, upd_same⟩, kyv1, pk1⟩, ⟨⟨as, ks, sf _ _ h1 (Ne.symm nml), prd_imp ky1 fun _ _ z => upS z, h2⟩, h3, h4⟩, ⟨⟨a2, k2, sf _ _ h5 (Ne.symm nmw), prd_imp ky2 fun _ _ z => upS z, prd_imp h6 fun _ _ ⟨e, c, e2, h⟩ => ⟨e, c, e2, upT h⟩⟩, h7, h8, h9⟩⟩, bf, br, few⟩
    have cn1 : CnH K aS aE aV (upd H mv (.frz od (DX w mv vs kvs))) := ⟨upS cn.st, upS cn.en, upS cn.ev⟩
    have hmv1 : upd H mv (.frz od (DX w mv vs kvs)) mv = some (.frz od (DX w mv vs kvs)) := upd_same
    clear upT upS upL pk cn hx sf lv kyv
    generalize upd H mv (.frz od (DX w mv vs kvs)) = H1 at back pk1 me1 cn1 hmv1 kyv1 ⊢
    have wyW := wy.2.1
    have eWW := wy.2.2.2
    have tell : ∀ {i i2 : Nat} {p : Pl} {m : Mo}, Qs[i]? = some p → (moves P1 S1 p)[i2]? = some m → m.2.2 ∈ L → oddM W p m = true → (∀ j p', j < i → Qs[j]? = some p' → ∀ m ∈ moves P1 S1 p', m.2.2 ∈ L → oddM W p' m = false) → (∀ k m', k < i2 → (moves P1 S1 p)[k]? = some m' → m'.2.2 ∈ L → oddM W p m' = false) → unlikeW P1 S1 = some (foundW P1 S1 p m) := fun {i i2 p m} hp hm hl ho n1 n2 => by
      have toL : ∀ {p' : Pl} {m' : Mo}, p' ∈ Qs → m' ∈ moves P1 S1 p' → livesB P1 S1 m'.2.2 = true → m'.2.2 ∈ L := fun {p' m'} hp' hm' hl' => by
        obtain ⟨v, k⟩ := livesB_iff.mp hl'
        obtain ⟨w0, k0⟩ := bf.reach p' hp'
        exact lv0.2 _ ((bf.all _).mpr ⟨_, k0.step (t := m'.1) (l := m'.2.1) (q := m'.2.2) hm'⟩) v k
      have no : ∀ {p' : Pl} {m' : Mo}, p' ∈ Qs → m' ∈ moves P1 S1 p' → (m'.2.2 ∈ L → oddM W p' m' = false) → oddB P1 S1 p' m' = false := fun {p' m'} hp' hm' z => by
        unfold oddB
        cases el : livesB P1 S1 m'.2.2 with
        | false => rfl
        | true => rw [Bool.true_and, ← eWW, z (toL hp' hm' el)]
      rw [eqQ] at hp
      refine odds_first hp hm ?_ (fun j p' hj e m' hm' => ?_) fun j m' hj e => ?_
      · unfold oddB
        rw [livesB_iff.mpr (lv0.1.live _ hl), ← eWW, ho]
        rfl
      · rw [← eqQ] at e
        exact no (List.mem_of_getElem? e) hm' (n1 j p' hj e m' hm')
      · rw [← eqQ] at hp
        exact no (List.mem_of_getElem? hp) (List.mem_of_getElem? e) (n2 j m' hj e)
    have QR : ∀ p, p ∈ Qs → p ∈ R := fun p hp => (br.all p).mpr ((bf.all p).mp hp)
    have h0 : wayTo W .start = ([], []) := way_start (wayTo_has wyW ((br.all .start).mpr ⟨_, .nil⟩)).2
    refine for_it (walk_keysX (w := w) (d := mv) (o := od) (as := vs) (kvs := kvs)) (fun i σ H4 => (∃ v1 v2 v3 v4 v5 v6 v7 v8 : Option V, σ = [some (.ref x), v1, v2, v3, v4, v5, v6, v7, v8]) ∧ Same H1 H4 ∧ ∀ j p, j < i → Qs[j]? = some p → ∀ m ∈ moves P1 S1 p, m.2.2 ∈ L → oddM W p m = false) ?_ ?_ ?_ ?_
    · exact ⟨⟨_, _, _, _, _, _, _, _, rfl⟩, Same.refl _, fun j p hj => absurd hj (Nat.not_lt_zero _)⟩
    · rintro i σ H4 hi ⟨_, s4, _⟩
      exact s4 _ _ hmv1
    · rintro i y σ H40 H4 hi ⟨⟨v1, v2, v3, v4, v5, v6, v7, v8, rfl⟩, s4, no⟩ ⟨rfl, qk, hbk, rfl⟩
      obtain ⟨⟨k, v⟩, hkv, hqk0⟩ := prd_at kyv1 hbk
      obtain ⟨p, hp, ek, ml⟩ := prd_at pk1 hkv
      have ek : k = plK p := ek
      subst ek
      have hqk : PlT K H4 qk p := sq_same hqk0 s4
      have hpQ : p ∈ Qs := List.mem_of_getElem? hp
      have me4 := me1.same s4
      obtain ⟨⟨dx1, mv1, ld1, wd1, hx1, am1, lv1, wy1⟩, _, _, _⟩ := id me4
      obtain ⟨vs1, kv1, v1', hr1, hky1, hv1, d0, xs, ev, hxs, prx⟩ := all_at am1 bf.nd hpQ
      subst ev
      have lx := prd_len prx
      refine ⟨_, rfl, x, CM, dx1, _, V.ref mv1, rfl, hx1, T.cl, T.n1, fM_m mv1 ld1 wd1, _, rfl, mv1, _, rfl, ⟨vs1, kv1, plK p, qk, hr1, hky1, rfl, hqk, hv1.symm⟩, d0, rfl, ⟨_, SqL.of hxs⟩, ?_⟩
      refine for_it (walk_list (K := K) (a := d0) (xs := xs)) (fun i2 σ H5 => (∃ v2 v3 v4 v5 v6 v7 v8 : Option V, σ = [some (.ref x), some (.ref qk), v2, v3, v4, v5, v6, v7, v8]) ∧ Same H4 H5 ∧ ∀ k m, k < i2 → (moves P1 S1 p)[k]? = some m → m.2.2 ∈ L → oddM W p m = false) ?_ ?_ ?_ ?_
      · exact ⟨⟨_, _, _, _, _, _, _, rfl⟩, Same.refl _, fun k m hk => absurd hk (Nat.not_lt_zero _)⟩
      · rintro i2 σ H5 hi2 ⟨_, s5, _⟩
        exact SqL.of (s5 _ _ hxs)
      · rintro i2 y σ H50 H5 hi2 ⟨⟨v2, v3, v4, v5, v6, v7, v8, rfl⟩, s5, no5⟩ ⟨rfl, hy⟩
        obtain ⟨m, hm, mo⟩ := prd_at prx hy
        obtain ⟨c, b4, rfl, hc5, hb5⟩ := mo.same s5
        have hmm : m ∈ moves P1 S1 p := List.mem_of_getElem? hm
        have me5 := me4.same s5
        have cn5 := (cn1.same s4).same s5
        obtain ⟨⟨dx2, mv2, ld2, wd2, hx2, am2, lv2, wy2⟩, _, _, _⟩ := id me5
        obtain ⟨al, kl, hl2, hkl, kL⟩ := lv2.at_
        have next : oddM W p m = false ∨ m.2.2 ∉ L → ∀ k m', k < i2 + 1 → (moves P1 S1 p)[k]? = some m' → m'.2.2 ∈ L → oddM W p m' = false := fun z k m' hk e hL => by
          by_cases hk2 : k < i2
          · exact no5 k m' hk2 e hL
          · have : k = i2 := by omega
            subst this
            rw [hm] at e
            cases e
            rcases z with z | z
            · exact z
            · exact absurd hL z
        refine ⟨c, _, rfl, .inl (.inl hc5), rfl, _, _, rfl, _, _, rfl, _, _, rfl, rfl, ?_⟩
        refine ⟨_, rfl, _, rfl, x, CM, dx2, _, V.ref ld2, rfl, hx2, T.cl, T.n2, fM_l mv2 ld2 wd2, ld2, _, rfl, DGetY.t (k := plK m.2.2) hl2 hkl hb5, _, rfl, ?_⟩
        rw [keysP_is kL]
        by_cases hin : m.2.2 ∈ L
        · rw [decide_eq_true hin]
          refine iteT ?_
          have hqk5 := sq_same hqk s5
          obtain ⟨aw, kw, cw, hw1, hwk, hw2, hw3, kw4, lw5⟩ := wys_at wy2 br.nd (QR p hpQ)
          have lw : (wayTo W p).1.length + (wayTo W p).2.length ≤ 120 := lw5
          refine ⟨_, rfl, x, CM, dx2, _, V.ref wd2, rfl, hx2, T.cl, T.n3, fM_w mv2 ld2 wd2, _, rfl, wd2, _, rfl, (by rw [← hw2]; exact DGetY.t (k := plK p) hw1 hwk hqk5), _, rfl, _, rfl, cw, wayTo W p, m.1, m.2.1, rfl, hw3, by omega, by omega, fun ca H6 s6 hca => ?_⟩
          have kst : Way P1 S1 .start m.2.2 (put m.1 m.2.1 (wayTo W p)) := kw4.step (t := m.1) (l := m.2.1) (q := m.2.2) hmm
          have ltw := way_lt lP lS kst
          have l6 : (put m.1 m.2.1 (wayTo W p)).1.length + (put m.1 m.2.1 (wayTo W p)).2.length ≤ 121 := by
            have := wput_len m.1 m.2.1 (wayTo W p)
            unfold wlen at this
            omega
          have l6w : wlen (put m.1 m.2.1 (wayTo W p)) ≤ 121 := l6
          refine ⟨_, rfl, ca, _, rfl, hca, by omega, by omega, fun lv_ H7 s7 hl7 => ?_⟩
          have hqR : m.2.2 ∈ R := (br.all _).mpr ⟨_, kst⟩
          have s57 : Same H5 H7 := fun b o e => s7 _ _ (s6 _ _ e)
          have me7 := me5.same s57
          have cn7 := cn5.same s57
          have hb7 := sq_same hb5 s57
          obtain ⟨⟨dx7, mv7, ld7, wd7, hx7, am7, lvv7, wy7⟩, _, _, _⟩ := id me7
          obtain ⟨aq0, kq0, cq0, hq10, hqk0, hq20, hq30, kq40, lq50⟩ := wys_at wy7 br.nd hqR
          have lq0 : (wayTo W m.2.2).1.length + (wayTo W m.2.2).2.length ≤ 120 := lq50
          have pok := reach_ok nP okP okS kst
          refine via (t := tIf (tTest (tOp (rEqD K) (tVar 4) (tC (V.ref aE)))) (tC (V.ref aV)) (tCall (spLead K) [] E0 (tCons (tDGetY w K (tFld K (tVar 0) "ways") (tVar 4)) tNil))) (fun kv H8 => Same H7 H8 ∧ LdO K H8 kv (known (wayTo W) m.2.2)) (fun R' hR => ?_) (fun kv H8 z => ?_)
          · refine ⟨_, rfl, plD m.2.2, plD .fin, pl_dp hb7, pl_dp cn7.en, pl_shaped pok, pl_shaped True.intro, _, rfl, ?_⟩
            rw [pl_eqv]
            by_cases ef : m.2.2 = .fin
            · rw [decide_eq_true ef]
              refine iteT (hR _ _ ⟨Same.refl _, ?_⟩)
              rw [ef]
              exact ⟨aV, rfl, cn7.ev⟩
            · rw [decide_eq_false ef]
              refine iteF ⟨_, rfl, x, CM, dx7, _, V.ref wd7, rfl, hx7, T.cl, T.n3, fM_w mv7 ld7 wd7, _, rfl, wd7, _, rfl, (by rw [← hq20]; exact DGetY.t (k := plK m.2.2) hq10 hqk0 hb7), cq0, _, rfl, hq30, by omega, by omega, fun kv H8 s8 h8 => hR _ _ ⟨s8, ?_⟩⟩
              have e : known (wayTo W) m.2.2 = lead (wayTo W m.2.2) := by
                cases eq : m.2.2 with
                | fin => exact absurd eq ef
                | start => rfl
                | rest a r => rfl
              rw [e]
              exact h8
          obtain ⟨s8, hk8⟩ := z
          have s58 : Same H5 H8 := fun b o e => s8 _ _ (s57 _ _ e)
          have hca8 := s8 _ _ (s7 _ _ hca)
          have hb8 := sq_same hb5 s58
          have hl8 : LdO K H8 lv_ (lead (put m.1 m.2.1 (wayTo W p))) := by
            cases e : lead (put m.1 m.2.1 (wayTo W p)) with
            | none =>
              rw [e] at hl7
              exact hl7
            | some k =>
              rw [e] at hl7
              obtain ⟨b, e2, h⟩ := hl7
              exact ⟨b, e2, sq_same h s8⟩
          cases el : lead (put m.1 m.2.1 (wayTo W p)) with
          | none =>
            rw [el] at hl8
            have hl8 : lv_ = .non := hl8
            subst hl8
            have hodd : oddM W p m = true := by
              unfold oddM
              rw [el]
            refine ⟨_, rfl, rfl, true, rfl, iteT ?_⟩
            obtain ⟨v0, k0⟩ := lv0.1.live _ hin
            have hqQ : m.2.2 ∈ Qs := (bf.all _).mpr ⟨_, kst⟩
            refine ⟨_, rfl, _, rfl, _, rfl, x, ca, b4, P1, S1, Qs, L, R, W, put m.1 m.2.1 (wayTo W p), m.2.2, rfl, me5.same s58, cn5.same s58, hca8, by omega, hb8, hqQ, ⟨v0, k0⟩, okP, okS, fun e1 v1 H9 s9 kv1 he1 lv1 ev1 => ?_⟩
            obtain ⟨o1, o2, o3⟩ := odd_meets br wyW (QR p hpQ) hmm kv1 hodd
            have l9 : v1.1.length + v1.2.length ≤ 120 := lv1
            have s59 : Same H5 H9 := fun b o e => s9 _ _ (s58 _ _ e)
            have me9 := me5.same s59
            obtain ⟨⟨dx9, mv9, ld9, wd9, hx9, am9, lvv9, wy9⟩, _, _, _⟩ := id me9
            refine ⟨_, rfl, e1, _, _, _, rfl, rfl, .inl (.inl he1), atI_nat (j := 0) rfl, _, rfl, e1, _, _, _, rfl, rfl, .inl (.inl he1), atI_nat (j := 1) rfl, rfl, _, rfl, ?_⟩
            rw [Sx_eq]
            by_cases eq1 : (put m.1 m.2.1 (wayTo W p)).1 ++ v1.1 = (put m.1 m.2.1 (wayTo W p)).2 ++ v1.2
            · rw [decide_eq_true eq1]
              obtain ⟨aq, kq, cq, hq1, hqky, hq2, hq3, kq4, lq5⟩ := wys_at wy9 br.nd (QR _ hqQ)
              refine iteT ⟨_, rfl, _, rfl, x, CM, dx9, _, V.ref wd9, rfl, hx9, T.cl, T.n3, fM_w mv9 ld9 wd9, _, rfl, wd9, _, rfl, (by rw [← hq2]; exact DGetY.t (k := plK m.2.2) hq1 hqky (sq_same hb5 s59)), _, rfl, x, cq, b4, P1, S1, Qs, L, R, W, wayTo W m.2.2, m.2.2, rfl, me9, cn5.same s59, hq3, by omega, sq_same hb5 s59, hqQ, ⟨v0, k0⟩, okP, okS, fun e2 v2 H10 s10 kv2 he2 lv2 ev2 => ?_⟩
              have ev : v2 = v1 := ev2.trans ev1.symm
              rw [ev] at kv2 he2 lv2
              have sA : Same H1 H10 := fun b o e => s10 _ _ (s59 _ _ (s5 _ _ (s4 _ _ e)))
              have lq : (wayTo W m.2.2).1.length + (wayTo W m.2.2).2.length ≤ 120 := lq5
              exact ⟨sA _ _ hmv1, qf e2 _ _ (back sA) (by show upd _ _ _ _ = _; rw [upd_ne (ne_of he2 (sA _ _ hmv1) (fun z => nomatch z))]; exact he2) o2 (o3 eq1) (by rw [wlen_app]; unfold wlen; omega) (by
                rw [tell hp hm hin hodd no no5]
                unfold foundW
                rw [← eWW, ← ev1, if_pos eq1])⟩
            · rw [decide_eq_false eq1]
              have sA : Same H1 H9 := fun b o e => s59 _ _ (s5 _ _ (s4 _ _ e))
              exact iteF ⟨_, rfl, sA _ _ hmv1, qf e1 _ _ (back sA) (by show upd _ _ _ _ = _; rw [upd_ne (ne_of he1 (sA _ _ hmv1) (fun z => nomatch z))]; exact he1) o1 eq1 (by rw [wlen_app]; unfold wlen; omega) (by
                rw [tell hp hm hin hodd no no5]
                unfold foundW
                rw [← eWW, ← ev1, if_neg eq1])⟩
          | some k =>
            rw [el] at hl8
            have hl9 := hl8
            obtain ⟨bk, rfl, hbk⟩ := hl8
            have hkn : ∀ j, known (wayTo W) m.2.2 = some j → ∀ c ∈ j.2, isLt c := fun j e => by
              cases eq : m.2.2 with
              | fin =>
                rw [eq] at e
                cases e
                exact fun c hc => absurd hc List.not_mem_nil
              | start =>
                rw [eq] at e
                rw [h0] at *
                exact lead_lt (w := wayTo W .start) (way_lt lP lS (wayTo_has wyW ((br.all .start).mpr ⟨_, .nil⟩)).2) e
              | rest a r =>
                rw [eq] at e kq40
                exact lead_lt (way_lt lP lS kq40) e
            refine ⟨_, rfl, rfl, false, rfl, iteF ⟨_, rfl, _, rfl, ldD (some k), ldD (known (wayTo W) m.2.2), ld_dp hl9, ld_dp hk8, ld_shaped (fun j e => by cases e; exact lead_lt ltw el), ld_shaped hkn, _, rfl, ?_⟩⟩
            rw [ld_eqv]
            by_cases ek2 : known (wayTo W) m.2.2 = some k
            · rw [decide_eq_true ek2]
              refine iteF ⟨⟨_, _, _, _, _, _, _, rfl⟩, fun b o e => s58 _ _ (s5 _ _ e), next (.inl ?_)⟩
              unfold oddM
              rw [el]
              exact decide_eq_false fun z => z ek2
            · rw [decide_eq_false ek2]
              have hodd : oddM W p m = true := by
                unfold oddM
                rw [el]
                exact decide_eq_true ek2
              refine iteT ?_
              obtain ⟨v0, k0⟩ := lv0.1.live _ hin
              have hqQ : m.2.2 ∈ Qs := (bf.all _).mpr ⟨_, kst⟩
              refine ⟨_, rfl, _, rfl, _, rfl, x, ca, b4, P1, S1, Qs, L, R, W, put m.1 m.2.1 (wayTo W p), m.2.2, rfl, me5.same s58, cn5.same s58, hca8, by omega, hb8, hqQ, ⟨v0, k0⟩, okP, okS, fun e1 v1 H9 s9 kv1 he1 lv1 ev1 => ?_⟩
              obtain ⟨o1, o2, o3⟩ := odd_meets br wyW (QR p hpQ) hmm kv1 hodd
              have l9 : v1.1.length + v1.2.length ≤ 120 := lv1
              have s59 : Same H5 H9 := fun b o e => s9 _ _ (s58 _ _ e)
              have me9 := me5.same s59
              obtain ⟨⟨dx9, mv9, ld9, wd9, hx9, am9, lvv9, wy9⟩, _, _, _⟩ := id me9
              refine ⟨_, rfl, e1, _, _, _, rfl, rfl, .inl (.inl he1), atI_nat (j := 0) rfl, _, rfl, e1, _, _, _, rfl, rfl, .inl (.inl he1), atI_nat (j := 1) rfl, rfl, _, rfl, ?_⟩
              rw [Sx_eq]
              by_cases eq1 : (put m.1 m.2.1 (wayTo W p)).1 ++ v1.1 = (put m.1 m.2.1 (wayTo W p)).2 ++ v1.2
              · rw [decide_eq_true eq1]
                obtain ⟨aq, kq, cq, hq1, hqky, hq2, hq3, kq4, lq5⟩ := wys_at wy9 br.nd (QR _ hqQ)
                refine iteT ⟨_, rfl, _, rfl, x, CM, dx9, _, V.ref wd9, rfl, hx9, T.cl, T.n3, fM_w mv9 ld9 wd9, _, rfl, wd9, _, rfl, (by rw [← hq2]; exact DGetY.t (k := plK m.2.2) hq1 hqky (sq_same hb5 s59)), _, rfl, x, cq, b4, P1, S1, Qs, L, R, W, wayTo W m.2.2, m.2.2, rfl, me9, cn5.same s59, hq3, by omega, sq_same hb5 s59, hqQ, ⟨v0, k0⟩, okP, okS, fun e2 v2 H10 s10 kv2 he2 lv2 ev2 => ?_⟩
                have ev : v2 = v1 := ev2.trans ev1.symm
                rw [ev] at kv2 he2 lv2
                have sA : Same H1 H10 := fun b o e => s10 _ _ (s59 _ _ (s5 _ _ (s4 _ _ e)))
                have lq : (wayTo W m.2.2).1.length + (wayTo W m.2.2).2.length ≤ 120 := lq5
                exact ⟨sA _ _ hmv1, qf e2 _ _ (back sA) (by show upd _ _ _ _ = _; rw [upd_ne (ne_of he2 (sA _ _ hmv1) (fun z => nomatch z))]; exact he2) o2 (o3 eq1) (by rw [wlen_app]; unfold wlen; omega) (by
                rw [tell hp hm hin hodd no no5]
                unfold foundW
                rw [← eWW, ← ev1, if_pos eq1])⟩
              · rw [decide_eq_false eq1]
                have sA : Same H1 H9 := fun b o e => s59 _ _ (s5 _ _ (s4 _ _ e))
                exact iteF ⟨_, rfl, sA _ _ hmv1, qf e1 _ _ (back sA) (by show upd _ _ _ _ = _; rw [upd_ne (ne_of he1 (sA _ _ hmv1) (fun z => nomatch z))]; exact he1) o1 eq1 (by rw [wlen_app]; unfold wlen; omega) (by
                rw [tell hp hm hin hodd no no5]
                unfold foundW
                rw [← eWW, ← ev1, if_neg eq1])⟩
        · rw [decide_eq_false hin]
          exact iteF ⟨⟨_, _, _, _, _, _, _, rfl⟩, s5, next (.inr hin)⟩
      · rintro σ H5 ⟨⟨v2, v3, v4, v5, v6, v7, v8, rfl⟩, s5, no5⟩
        refine ⟨⟨_, _, _, _, _, _, _, _, rfl⟩, fun b o e => s5 _ _ (s4 _ _ e), fun j p' hj e m hm hl => ?_⟩
        by_cases hj2 : j < i
        · exact no j p' hj2 e m hm hl
        · have : j = i := by omega
          subst this
          rw [hp] at e
          cases e
          obtain ⟨k, hk, ek⟩ := List.getElem_of_mem hm
          exact no5 k m (by rw [lx]; exact hk) (by rw [List.getElem?_eq_getElem hk, ek]) hl
    · rintro σ H4 ⟨⟨v1, v2, v3, v4, v5, v6, v7, v8, rfl⟩, s4, no⟩
      refine ⟨s4 _ _ hmv1, qn ?_ _ (back s4)⟩
      refine alike_no (L := L) br wyW h0 (fun p hp v k => lv0.2 p ((bf.all p).mpr ((br.all p).mp hp)) v k) fun p hp m hm hl => ?_
      obtain ⟨j, hj, ej⟩ := List.getElem_of_mem ((bf.all p).mpr ((br.all p).mp hp))
      exact no j p (by rw [lvs, lkv]; exact hj) (by rw [List.getElem?_eq_getElem hj, ej]) m hm hl
end
end V8
set_option Elab.async false
set_option linter.all false
/-! Lists of texts that are sorted: one order only. -/
namespace MZ
open PySem PySem.Spec PyProof.Rows
theorem pw_perm_eq {α : Type} {r : α → α → Prop} (anti : ∀ a b, r a b → r b a → a = b) : ∀ {l m : List α}, l.Pairwise r → m.Pairwise r → l.Perm m → l = m
  | [], m, _, _, h => (List.Perm.nil_eq h)
  | a :: l, [], _, _, h => absurd (List.Perm.length_eq h) (by simp)
  | a :: l, b :: m, hl, hm, h => by
    have hab : a = b := by
      rcases List.mem_cons.mp (h.mem_iff.mp (List.mem_cons_self (a := a) (l := l))) with e | e
      · exact e
      · rcases List.mem_cons.mp (h.mem_iff.mpr (List.mem_cons_self (a := b) (l := m))) with e2 | e2
        · exact e2.symm
        · exact anti a b (List.rel_of_pairwise_cons hl e2) (List.rel_of_pairwise_cons hm e)
    subst hab
    rw [pw_perm_eq anti (List.Pairwise.of_cons hl) (List.Pairwise.of_cons hm) (List.Perm.cons_inv h)]
def leS (a b : Str) : Prop := ¬ b.cps.toList < a.cps.toList
theorem leS_trans {a b c : Str} (h : leS a b) (k : leS b c) : leS a c := List.not_lt.mpr (List.le_trans (List.not_lt.mp h) (List.not_lt.mp k))
theorem leS_anti (a b : Str) (h : leS a b) (k : leS b a) : a = b := by
  have e := List.le_antisymm (List.not_lt.mp h) (List.not_lt.mp k)
  cases a with
  | mk x =>
    cases b with
    | mk y =>
      have e : x.toList = y.toList := e
      rw [Array.toList_inj.mp e]
theorem rise_pwS : ∀ (l : List Str) (p : Str), risingS p l = true → (p :: l).Pairwise leS
  | [], p, _ => by simp
  | x :: r, p, h => by
    unfold risingS at h
    rw [Bool.and_eq_true] at h
    obtain ⟨h1, h2⟩ := h
    have ih := rise_pwS r x h2
    have hx : leS p x := fun z => by
      rw [ltCps_eq, decide_eq_true z] at h1
      cases h1
    refine List.Pairwise.cons (fun y hy => ?_) ih
    rcases List.mem_cons.mp hy with rfl | hy
    · exact hx
    · exact leS_trans hx (List.rel_of_pairwise_cons ih hy)
theorem sorted_pwS : ∀ {l : List Str}, sortedS l = true → l.Pairwise leS
  | [], _ => List.Pairwise.nil
  | x :: r, h => rise_pwS r x h
theorem sorted_one {l m : List Str} (h : sortedS l = true) (k : sortedS m = true) (p : l.Perm m) : l = m := pw_perm_eq leS_anti (sorted_pwS h) (sorted_pwS k) p
end MZ
set_option Elab.async false
set_option linter.all false
set_option maxRecDepth 100000
set_option maxHeartbeats 8000000
set_option pp.maxSteps 900
/-! The rests. -/
namespace V8
open PySem PySem.Spec PyProof.Rows L2 MZ
variable {K : PySem.W.Frag} {ω : World}
abbrev s_rests_of : Stmt := topS 60
abbrev n_rests_of : List Str := ["meetings", "living", "places", "found", "side", "place", "word", "ahead", "rest"]
theorem sc_rests_of : FnScope ["meetings", "living", "places", "found", "side", "place", "word", "ahead", "rest"] ["meetings", "living"] (defScope s_rests_of) := ⟨rfl, rfl, rfl, by decide +kernel, rfl, by decide +kernel, by decide +kernel⟩
theorem pi_tupK {X : Cx} {K : PySem.W.Frag} {tg l : Expr} {tl : TE} (hK : X.K = K) (hl : PE X l tl) : PI X tg l (iTup K tl) := by
  subst hK
  exact pi_tup hl
def RsV (H : Hp) (v : V) (q : Bool × Wd) : Prop := ∃ c, v = .ref c ∧ H c = some (.tup [.str (sideS q.1), .str (Sx q.2)])
def RsT (H : Hp) (e : Addr) (rs : List (Bool × Wd)) : Prop := ∃ vs, H e = some (.tup vs) ∧ Paired (RsV H) vs rs
theorem prd_app {α β : Type} {R : α → β → Prop} {xs xs' : List α} {ys ys' : List β} (h : Paired R xs ys) (k : Paired R xs' ys') : Paired R (xs ++ xs') (ys ++ ys') := by
  induction h with
  | nil => exact k
  | cons r _ ih => exact .cons r ih
def onSide (s : Bool) : Pl → Bool
  | .rest a _ => decide (a = s)
  | _ => false
def restOf : Pl → Wd
  | .rest _ r => r
  | _ => []
/-- the rests of one side that live, or do not -/
noncomputable def sideQ (P S : List Pr) (g s : Bool) : List Wd := (((placesQ P S).filter fun p => decide (livesB P S p = g)).filter (onSide s)).map restOf
/-- few rests on each side -/
def FewR (P S : List Pr) : Prop := ∀ s, ((placesQ P S).filter (onSide s)).length ≤ 63
/-- the rests that live, or do not, in their order -/
def RsIs (P S : List Pr) (g : Bool) (rs : List (Bool × Wd)) : Prop := ∃ a b : List Wd, rs = a.map (fun r => (true, r)) ++ b.map (fun r => (false, r)) ∧ a.Perm (sideQ P S g true) ∧ b.Perm (sideQ P S g false) ∧ sortedS (a.map Sx) = true ∧ sortedS (b.map Sx) = true
theorem sx_map_inj {a b : List Wd} (h : a.map Sx = b.map Sx) : a = b := by
  induction a generalizing b with
  | nil =>
    cases b with
    | nil => rfl
    | cons _ _ => cases h
  | cons x r ih =>
    cases b with
    | nil => cases h
    | cons y s =>
      rw [List.map_cons, List.map_cons] at h
      injection h with h1 h2
      rw [Sx_inj h1, ih h2]
theorem RsIs.inj {P S : List Pr} {g : Bool} {rs rs' : List (Bool × Wd)} (h : RsIs P S g rs) (k : RsIs P S g rs') : rs = rs' := by
  obtain ⟨a, b, rfl, p1, p2, s1, s2⟩ := h
  obtain ⟨c, d, rfl, q1, q2, t1, t2⟩ := k
  rw [sx_map_inj (sorted_one s1 t1 ((p1.trans q1.symm).map Sx)), sx_map_inj (sorted_one s2 t2 ((p2.trans q2.symm).map Sx))]
theorem filter_swap {α : Type} (f g : α → Bool) (l : List α) : (l.filter f).filter g = (l.filter g).filter f := by
  rw [List.filter_filter, List.filter_filter]
  exact List.filter_congr fun x _ => Bool.and_comm _ _
theorem side_few {P S : List Pr} (h : FewR P S) (g s : Bool) : (sideQ P S g s).length ≤ 63 := by
  unfold sideQ
  rw [List.length_map, filter_swap]
  exact Nat.le_trans (List.length_filter_le _ _) (h s)
theorem RsIs.mem {P S : List Pr} {g : Bool} {rs : List (Bool × Wd)} (h : RsIs P S g rs) {q : Bool × Wd} (hq : q ∈ rs) : Pl.rest q.1 q.2 ∈ placesQ P S ∧ livesB P S (.rest q.1 q.2) = g := by
  have side : ∀ {s : Bool} {r : Wd}, r ∈ sideQ P S g s → Pl.rest s r ∈ placesQ P S ∧ livesB P S (.rest s r) = g := fun {s r} hr => by
    obtain ⟨p, hp, e⟩ := List.mem_map.mp hr
    obtain ⟨hp1, hp2⟩ := List.mem_filter.mp hp
    obtain ⟨hp3, hp4⟩ := List.mem_filter.mp hp1
    cases p with
    | start => cases hp2
    | fin => cases hp2
    | rest a r' =>
      have ea : a = s := of_decide_eq_true hp2
      have er : r' = r := e
      rw [ea, er] at hp3 hp4
      exact ⟨hp3, of_decide_eq_true hp4⟩
  obtain ⟨a, b, rfl, p1, p2, _⟩ := h
  rcases List.mem_append.mp hq with m | m
  · obtain ⟨r, hr, rfl⟩ := List.mem_map.mp m
    exact side (p1.mem_iff.mp hr)
  · obtain ⟨r, hr, rfl⟩ := List.mem_map.mp m
    exact side (p2.mem_iff.mp hr)
theorem RsIs.len {P S : List Pr} {g : Bool} {rs : List (Bool × Wd)} (h : RsIs P S g rs) (f : FewR P S) : rs.length ≤ 126 := by
  obtain ⟨a, b, rfl, p1, p2, _⟩ := h
  have := side_few f g true
  have := side_few f g false
  rw [List.length_append, List.length_map, List.length_map, p1.length_eq, p2.length_eq]
  omega
theorem side_dec (s : Bool) (p : Pl) : decide (V.str (plS p).1 = V.str (sideS s)) = onSide s p := by
  cases p with
  | start => cases s <;> exact decide_eq_false (show ¬ V.str "start" = V.str _ by decide +kernel)
  | fin => cases s <;> exact decide_eq_false (show ¬ V.str "end" = V.str _ by decide +kernel)
  | rest a r =>
    refine decide_eq_decide.mpr ⟨fun e => side_inj (V.str.inj e), fun e => ?_⟩
    show V.str (sideS a) = _
    rw [e]
theorem plS_rest (p : Pl) : (plS p).2 = Sx (restOf p) := by
  cases p <;> rfl
theorem RsV.same {H H' : Hp} {v : V} {q : Bool × Wd} (h : RsV H v q) (s : Same H H') : RsV H' v q := by
  obtain ⟨c, e, h1⟩ := h
  exact ⟨c, e, s _ _ h1⟩
theorem RsV.put {H : Hp} {v : V} {q : Bool × Wd} {D : Addr} {ys : List V} {o : HO} (h : RsV H v q) (hD : H D = some (.lst ys)) : RsV (upd H D o) v q := by
  obtain ⟨c, e, h1⟩ := h
  exact ⟨c, e, by rw [upd_ne (ne_of h1 hD (fun z => nomatch z))]; exact h1⟩
def spRests (K : PySem.W.Frag) (ω : World) (aD CM : Addr) : Sp := fun vs H Q _ => ∃ (x : Addr) (g : Bool) (P S : List Pr) (Qs L R : List Pl) (W : WyL), vs = [.ref x, .bl g] ∧ MeeA K ω CM P S Qs L R W H x ∧ SqT K H aD [.str (sideS true), .str (sideS false)] ∧ PrOk P ∧ PrOk S ∧ FewR P S ∧
  ∀ (e : Addr) (rs : List (Bool × Wd)) (H' : Hp), Same H H' → RsT H' e rs → RsIs P S g rs → Q (.ref e) H'
/-- what is found when so many sides are gone through -/
def PartR (P S : List Pr) (g : Bool) (i : Nat) (rs : List (Bool × Wd)) : Prop := ∃ a b : List Wd, rs = a.map (fun r => (true, r)) ++ b.map (fun r => (false, r)) ∧ (i = 0 → a = []) ∧ (i ≤ 1 → b = []) ∧ (0 < i → a.Perm (sideQ P S g true) ∧ sortedS (a.map Sx) = true) ∧ (1 < i → b.Perm (sideQ P S g false) ∧ sortedS (b.map Sx) = true)
theorem un_mapS {ys : List Str} {xs : List Wd} (h : ys.Perm (xs.map Sx)) : ∃ zs : List Wd, ys = zs.map Sx ∧ zs.Perm xs := by
  have hs : ∀ y ∈ ys, ∃ z : Wd, y = Sx z := fun y hy => by
    obtain ⟨z, _, e⟩ := List.mem_map.mp (h.mem_iff.mp hy)
    exact ⟨z, e.symm⟩
  have ex : ∀ l : List Str, (∀ y ∈ l, ∃ z : Wd, y = Sx z) → ∃ zs : List Wd, l = zs.map Sx := by
    intro l
    induction l with
    | nil => exact fun _ => ⟨[], rfl⟩
    | cons y r ih =>
      intro hl
      obtain ⟨z, rfl⟩ := hl y List.mem_cons_self
      obtain ⟨zs, rfl⟩ := ih fun y hy => hl y (List.mem_cons_of_mem _ hy)
      exact ⟨z :: zs, rfl⟩
  obtain ⟨zs, rfl⟩ := ex ys hs
  refine ⟨zs, rfl, ?_⟩
  have h2 := h.map (fun s : Str => s.cps.toList)
  rw [List.map_map, List.map_map] at h2
  have e : ∀ l : List Wd, l.map ((fun s : Str => s.cps.toList) ∘ Sx) = l := fun l => by
    conv => rhs; rw [← List.map_id l]
    exact List.map_congr_left fun w _ => by show w.toArray.toList = w; simp
  rw [e, e] at h2
  exact h2
section
variable {P : Program} {w : World} {K : PySem.W.Frag} {mg : Str → Option Value} {base : Heap} {aS aE aV aD CM : Addr}
theorem ok_rests {f : Addr} {fd : FuncData} (F : Fun K "rests_of" "rests_of" s_rests_of f fd) (T : Tn K mg aS aE aV CM) (hSD : GV mg "SIDES" (.ref aD)) : FnOk P w K mg base CX0 1 f fd ["meetings", "living"] (spRests K w aD CM) := by
  refine F.ok sc_rests_of (fun vs H Q E h => ?_) (fun cdv A outer s H vs Q E hr h => ?_)
  · obtain ⟨x, g, P, S, Qs, L, R, W, rfl, _⟩ := h
    rfl
  · obtain ⟨x, g, P1, S1, Qs, L, R, W, rfl, ⟨⟨dx, mv, ld, wd, hx, ⟨vs0, kvs, hd, kyv, pk⟩, lv, wy, nml, nmw⟩, bf, br, few, eqQ⟩, hD, okP, okS, fewR, q⟩ := h
    refine ⟨_, (pss_cons (ps_lock (ps_setLc (i := 2) (own := [("place", 5)]) (g := gName 5) (by rfl) sc_rests_of.nd rfl rfl (sw_true rfl rfl rfl (by decide +kernel)) (pi_keysXt (w := w) rfl (pe_fldK (K := K) rfl (pv 0) rfl)) (blkOk_by (own := [("place", 5)]) (N := n_rests_of) (sc := defScope s_rests_of) (by decide +kernel)) (fun _ _ _ _ _ => (pg_name (i := 5) sc_rests_of.nd rfl (.inl rfl))) (fun _ _ _ _ _ => (pts_one (pt_cmpR op_eq (pe_cmp (pc_dinY (w := w) (K := K) rfl rfl (hu_of hr) (pv 5) (pe_fldK (K := K) rfl (pv 0) rfl)) rfl) (pv 1) (nomark _)))) (fun _ _ _ _ _ => (pv 5))))
      (pss_cons (ps_set (i := 3) sc_rests_of.nd rfl (.inl rfl) (pe_lst pa_nil))
      (pss_cons (ps_for PassesOwn.never rfl (pi_tupK (K := K) rfl (pe_gv hSD (by rfl))) (pg_name (i := 4) sc_rests_of.nd rfl (.inr rfl))
        (pss_one (ps_expr (pe_bmK (K := K) rfl PySem.F.plainAttrs_list PySem.F.slot_list_extend PySem.F.type_list_extend mt_extend (pv 3) (pa_cons (pe_lc (own := [("word", 6)]) (g := gName 6) (by rfl) sc_rests_of.nd (pi_list (pe_callB cr_sortedS (by rfl) T.sorted (by decide +kernel) (pa_cons (pe_lc (own := [("ahead", 7), ("rest", 8)]) (g := gTup K 2 (gCons (gName 7) (gCons (gName 8) gNil))) (by rfl) sc_rests_of.nd (pi_list (pv 2)) (blkOk_by (own := [("ahead", 7), ("rest", 8)]) (N := n_rests_of) (sc := defScope s_rests_of) (by decide +kernel)) (fun _ _ _ _ _ => (pg_tup (by rfl) (pgs_cons (pg_name (i := 7) sc_rests_of.nd rfl (.inl rfl)) (pgs_cons (pg_name (i := 8) sc_rests_of.nd rfl (.inl rfl)) pgs_nil)))) (fun _ _ _ _ _ => (pts_one (pt_cmpR op_eq (pv 7) (pv 4) (nomark _)))) (fun _ _ _ _ _ => (pe_callTy call_strS (by rfl) T.str (by decide +kernel) (pa_cons (pv 8) pa_nil)))) pa_nil))) (blkOk_by (own := [("word", 6)]) (N := n_rests_of) (sc := defScope s_rests_of) (by decide +kernel)) (fun _ _ _ _ _ => (pg_name (i := 6) sc_rests_of.nd rfl (.inl rfl))) (fun _ _ _ _ _ => pts_nil) (fun _ _ _ _ _ => (pe_tup (pa_cons (pv 4) (pa_cons (pv 6) pa_nil))))) pa_nil)))))
      (pss_one (ps_ret (pe_callTy (call_tuple_ofK (K := K) rfl) (by rfl) T.tuple (by decide +kernel) (pa_cons (pv 3) pa_nil))))))), ?_⟩
    have lkv := prd_len pk
    have lv0 := prd_len kyv
    refine ⟨mv, _, hd, True.intro, fun od => ⟨_, rfl, x, CM, dx, _, V.ref mv, rfl, ?_, T.cl, T.n1, fM_m mv ld wd, mv, od, vs0, kvs, rfl, upd_same, ?_⟩⟩
    · rw [upd_ne (ne_of hx hd (fun z => nomatch z))]
      exact hx
    obtain ⟨al, kl, hl0, hkl, kL⟩ := lv.at_
    have upS : ∀ {y : Addr} {xs : List V}, SqT K H y xs → SqT K (upd H mv (.frz od (DX w mv vs0 kvs))) y xs := fun e => sq_dx e hd
    have hkl1 : KyA K (upd H mv (.frz od (DX w mv vs0 kvs))) al kl := prd_imp hkl fun _ _ z => upS z
    have kyv1 : KyA K (upd H mv (.frz od (DX w mv vs0 kvs))) vs0 kvs := prd_imp kyv fun _ _ z => upS z
    have sf : ∀ c u, H c = some u → c ≠ mv → upd H mv (.frz od (DX w mv vs0 kvs)) c = some u := fun c u e n => by
      rw [upd_ne n]
      exact e
    have back : ∀ {H' : Hp}, Same (upd H mv (.frz od (DX w mv vs0 kvs))) H' → Same H (upd H' mv (DX w mv vs0 kvs)) := fun {H'} s b o e => by
      by_cases hb : b = mv
      · rw [hb, upd_same]
        rw [hb, hd] at e
        exact e
      · rw [upd_ne hb]
        exact s _ _ (sf _ _ e hb)
    clear upS
    have hx1 := sf _ _ hx (ne_of hx hd (fun z => nomatch z))
    have hl1 := sf _ _ hl0 (Ne.symm nml)
    have hmv1 : upd H mv (.frz od (DX w mv vs0 kvs)) mv = some (.frz od (DX w mv vs0 kvs)) := upd_same
    generalize upd H mv (.frz od (DX w mv vs0 kvs)) = H1 at back hx1 hl1 hmv1 hkl1 kyv1 ⊢
    refine fun D nD => lc_it (walk_keysX (w := w) (d := mv) (o := od) (as := vs0) (kvs := kvs)) (fun i H3 => ∃ qs : List Addr, Paired (PlT K H3) qs ((Qs.take i).filter fun p => decide (decide (p ∈ L) = g)) ∧ H3 D = some (.lst (qs.map V.ref)) ∧ Same H1 H3) ?_ ?_ ?_ ?_
    · exact ⟨[], .nil, upd_same, same_put (s := Same.refl H1) nD⟩
    · rintro i H3 hi ⟨qs, _, _, s3⟩
      exact s3 _ _ hmv1
    · rintro i y H30 H3 hi ⟨qs, pq, hD3, s3⟩ ⟨rfl, qk, hbk, rfl⟩
      obtain ⟨⟨k, v⟩, hkv, hqk0⟩ := prd_at kyv1 hbk
      obtain ⟨p, hp, ek, _⟩ := prd_at pk hkv
      have ek : k = plK p := ek
      subst ek
      have hqk : PlT K H3 qk p := sq_same hqk0 s3
      have lq := prd_len pq
      have lf : ((Qs.take i).filter fun p => decide (decide (p ∈ L) = g)).length ≤ 102 := Nat.le_trans (List.length_filter_le _ _) (by rw [List.length_take]; omega)
      have ef : (Qs.take (i + 1)).filter (fun p => decide (decide (p ∈ L) = g)) = ((Qs.take i).filter fun p => decide (decide (p ∈ L) = g)) ++ if decide (decide (p ∈ L) = g) = true then [p] else [] := by
        rw [List.take_add_one, hp, List.filter_append]
        congr 1
        show List.filter _ [p] = _
        rw [List.filter_cons]
        rfl
      refine ⟨rfl, _, rfl, _, rfl, x, CM, dx, _, V.ref ld, rfl, s3 _ _ hx1, T.cl, T.n2, fM_l mv ld wd, ld, _, rfl, DGetY.t (k := plK p) (s3 _ _ hl1) (ky_same hkl1 s3) hqk, _, rfl, rfl, _, rfl, ?_⟩
      rw [keysP_is kL, ef]
      have eb : decide (V.bl (decide (p ∈ L)) = V.bl g) = decide (decide (p ∈ L) = g) := decide_eq_decide.mpr ⟨fun e => V.bl.inj e, fun e => by rw [e]⟩
      rw [eb]
      by_cases hg : decide (p ∈ L) = g
      · rw [decide_eq_true hg]
        refine iteT ⟨_, rfl, _, hD3, by rw [List.length_map, sizeLine_eq]; omega, qs ++ [qk], ?_, ?_, ?_⟩
        · exact (prd_imp pq fun _ _ h => sq_lst h hD3).snoc (sq_lst hqk hD3)
        · rw [upd_same, List.map_append]
          rfl
        · intro b o e
          rw [upd_ne (ne_of_none e nD)]
          exact s3 _ _ e
      · rw [decide_eq_false hg]
        refine iteF ⟨qs, ?_, hD3, s3⟩
        show Paired _ qs (_ ++ [])
        rw [List.append_nil]
        exact pq
    rintro H3 ⟨qs, pq, hD3, s3⟩
    rw [List.take_of_length_le (by omega)] at pq
    refine ⟨s3 _ _ hmv1, ?_⟩
    have eF : (Qs.filter fun p => decide (decide (p ∈ L) = g)) = (placesQ P1 S1).filter fun p => decide (livesB P1 S1 p = g) := by
      rw [eqQ]
      refine List.filter_congr fun p hp => ?_
      rw [← eqQ] at hp
      have e1 : decide (p ∈ L) = livesB P1 S1 p := by
        rw [Bool.eq_iff_iff, decide_eq_true_iff, livesB_iff]
        exact ⟨lv.liv.live p, fun ⟨v, k⟩ => lv.all p hp v k⟩
      rw [e1]
    rw [eF] at pq
    have fl : ∀ s, ((((placesQ P1 S1).filter fun p => decide (livesB P1 S1 p = g)).filter (onSide s)).map restOf).length ≤ 63 := fun s => side_few fewR g s
    have eS : ∀ s, sideQ P1 S1 g s = (((placesQ P1 S1).filter fun p => decide (livesB P1 S1 p = g)).filter (onSide s)).map restOf := fun s => rfl
    have lq := prd_len pq
    have okF : ∀ p ∈ (placesQ P1 S1).filter fun p => decide (livesB P1 S1 p = g), p ∈ Qs := fun p hp => by
      rw [eqQ]
      exact (List.mem_filter.mp hp).1
    have sB := back s3
    have pqB : Paired (PlT K (upd H3 mv (DX w mv vs0 kvs))) qs ((placesQ P1 S1).filter fun p => decide (livesB P1 S1 p = g)) := prd_imp pq fun _ _ h => sq_ne h (s3 _ _ hmv1) (fun z => nomatch z) (fun _ z => nomatch z)
    have hDB : upd H3 mv (DX w mv vs0 kvs) D = some (.lst (qs.map V.ref)) := by
      rw [upd_ne (ne_of hD3 (s3 _ _ hmv1) (fun z => nomatch z))]
      exact hD3
    have lF : ((placesQ P1 S1).filter fun p => decide (livesB P1 S1 p = g)).length ≤ 102 := by
      refine Nat.le_trans (List.length_filter_le _ _) ?_
      rw [← eqQ]
      exact few
    generalize (placesQ P1 S1).filter (fun p => decide (livesB P1 S1 p = g)) = F at pqB lq fl eS okF lF
    show Ends.nx _ _ (upd H3 mv (DX w mv vs0 kvs))
    generalize upd H3 mv (DX w mv vs0 kvs) = H4 at sB pqB hDB ⊢
    have hD4 := sq_same hD sB
    refine ⟨Nat.zero_le _, fun fd nfd => ?_⟩
    have hfd0 : upd H4 fd (.lst []) fd = some (.lst []) := upd_same
    have s40 := same_put (s := Same.refl H4) (o := .lst []) nfd
    show tSeq _ _ _ _ (upd H4 fd (.lst []))
    generalize upd H4 fd (.lst []) = H5 at hfd0 s40 ⊢
    refine ⟨aD, rfl, ⟨_, sq_same hD4 s40⟩, for_it (walk_tup (K := K) (a := aD) (xs := [.str (sideS true), .str (sideS false)])) (fun i σ H6 => ∃ (rs : List (Bool × Wd)) (vs : List V) (v4 v5 v6 v7 v8 : Option V), σ = [some (.ref x), some (.bl g), some (.ref D), some (.ref fd), v4, v5, v6, v7, v8] ∧
      H6 fd = some (.lst vs) ∧ Paired (RsV H6) vs rs ∧ PartR P1 S1 g i rs ∧ rs.length ≤ 63 * i ∧ Same H4 H6) ?_ ?_ ?_ ?_⟩
    · exact ⟨[], [], none, none, none, none, none, rfl, hfd0, .nil, ⟨[], [], rfl, fun _ => rfl, fun _ => rfl, fun z => absurd z (by decide), fun z => absurd z (by decide)⟩, Nat.le_refl _, s40⟩
    · rintro i σ H6 hi ⟨rs, vs, v4, v5, v6, v7, v8, _, _, _, _, _, s6⟩
      exact sq_same hD4 s6
    · rintro i y σ H60 H6 hi ⟨rs, vs, v4, v5, v6, v7, v8, rfl, hfd6, pr6, part, lrs, s6⟩ ⟨rfl, hy⟩
      have hi2 : i < 2 := hi
      obtain ⟨s, hs, hsi⟩ : ∃ s : Bool, y = .str (sideS s) ∧ s = decide (i = 0) := by
        match i, hi2 with
        | 0, _ => exact ⟨true, (Option.some.inj hy).symm, rfl⟩
        | 1, _ => exact ⟨false, (Option.some.inj hy).symm, rfl⟩
      subst hs
      have lvs := prd_len pr6
      have pq6 : Paired (PlT K H6) qs F := prd_imp pqB fun _ _ h => sq_same h s6
      have hD6 := s6 _ _ hDB
      refine ⟨_, rfl, .inl ⟨rfl, _, SqL.of hfd6⟩, ?_⟩
      -- the rests of this side
      refine ⟨_, rfl, D, rfl, ⟨_, SqL.of hD6⟩, fun D2 nD2 => lc_it (walk_list (K := K) (a := D) (xs := qs.map V.ref)) (fun j H7 => H7 = upd H6 D2 (.lst (((((F.take j).filter (onSide s)).map restOf).map Sx).map V.str))) rfl ?_ ?_ ?_⟩
      · rintro j H7 hj rfl
        exact SqL.of (by rw [upd_ne (ne_of_none hD6 nD2)]; exact hD6)
      · rintro j y H70 H7 hj rfl ⟨eH, hy2⟩
        rw [eH]
        obtain ⟨b, hb, rfl⟩ : ∃ b, qs[j]? = some b ∧ y = .ref b := by
          rw [List.getElem?_map] at hy2
          obtain ⟨b, hb, e⟩ := Option.map_eq_some_iff.mp hy2
          exact ⟨b, hb, e.symm⟩
        obtain ⟨p, hp, hpl⟩ := prd_at pq6 hb
        have hpl : SqT K H6 b (plV p) := hpl
        have s7 := same_put (s := Same.refl H6) (o := .lst (((((F.take j).filter (onSide s)).map restOf).map Sx).map V.str)) nD2
        have et : (F.take (j + 1)).filter (onSide s) = (F.take j).filter (onSide s) ++ if onSide s p = true then [p] else [] := by
          rw [List.take_add_one, hp, List.filter_append]
          congr 1
          show List.filter _ [p] = _
          rw [List.filter_cons]
          rfl
        have lj : ((((F.take j).filter (onSide s)).map restOf).map Sx).length ≤ 120 := by
          rw [List.length_map, List.length_map]
          refine Nat.le_trans (List.length_filter_le _ _) ?_
          rw [List.length_take]
          have lqq := congrArg List.length (rfl : qs = qs)
          have h1 : j < qs.length := by
            have := (List.getElem?_eq_some_iff.mp hb).1
            exact this
          have h2 := lF
          omega
        refine ⟨b, _, rfl, sq_same hpl s7, rfl, _, _, rfl, _, _, rfl, rfl, ?_⟩
        refine ⟨rfl, _, rfl, _, rfl, rfl, _, rfl, ?_⟩
        rw [side_dec, et]
        cases eo : onSide s p with
        | false =>
          refine iteF ?_
          rw [if_neg (by decide), List.append_nil]
        | true =>
          refine iteT ⟨_, rfl, _, rfl, _, upd_same, by rw [List.length_map, sizeLine_eq]; omega, ?_⟩
          rw [if_pos rfl, upd_upd, plS_rest, List.map_append, List.map_append, List.map_append]
          rfl
      rintro H7 rfl
      rw [List.take_of_length_le (by rw [List.length_map, lq]; exact Nat.le_refl _)]
      have fls := fl s
      rw [← eS] at fls ⊢
      have s7 := same_put (s := Same.refl H6) (o := .lst (((sideQ P1 S1 g s).map Sx).map V.str)) nD2
      have hD27 : upd H6 D2 (.lst (((sideQ P1 S1 g s).map Sx).map V.str)) D2 = some (.lst (((sideQ P1 S1 g s).map Sx).map V.str)) := upd_same
      generalize upd H6 D2 (.lst (((sideQ P1 S1 g s).map Sx).map V.str)) = H7 at s7 hD27 ⊢
      refine ⟨D2, (sideQ P1 S1 g s).map Sx, rfl, SqL.of hD27, by rw [List.length_map]; omega, fun ys p2 pm so np2 => ?_⟩
      obtain ⟨zs, rfl, pz⟩ := un_mapS pm
      have lz := pz.length_eq
      have s8 := same_put (s := s7) (o := .lst ((zs.map Sx).map V.str)) np2
      have hp28 : upd H7 p2 (.lst ((zs.map Sx).map V.str)) p2 = some (.lst ((zs.map Sx).map V.str)) := upd_same
      refine ⟨p2, rfl, ⟨_, SqL.of upd_same⟩, fun D3 nD3 => ?_⟩
      generalize upd H7 p2 (.lst ((zs.map Sx).map V.str)) = H8 at s8 hp28 nD3 ⊢
      refine lc_it (walk_list (K := K) (a := p2) (xs := (zs.map Sx).map V.str)) (fun j H9 => ∃ ws, Paired (RsV H9) ws ((zs.take j).map fun r => (s, r)) ∧ H9 D3 = some (.lst ws) ∧ Same H8 H9) ?_ ?_ ?_ ?_
      · exact ⟨[], .nil, upd_same, same_put (s := Same.refl H8) nD3⟩
      · rintro j H9 hj ⟨ws, _, _, s9⟩
        exact SqL.of (s9 _ _ hp28)
      · rintro j y H90 H9 hj ⟨ws, pw, hD39, s9⟩ ⟨rfl, hy2⟩
        obtain ⟨r, hr, rfl⟩ : ∃ r, zs[j]? = some r ∧ y = .str (Sx r) := by
          rw [List.getElem?_map, List.getElem?_map] at hy2
          obtain ⟨b, hb, e⟩ := Option.map_eq_some_iff.mp hy2
          obtain ⟨r, hr, e2⟩ := Option.map_eq_some_iff.mp hb
          exact ⟨r, hr, by rw [← e, ← e2]⟩
        have lw := prd_len pw
        rw [List.length_map, List.length_take] at lw
        refine ⟨rfl, _, rfl, _, rfl, by show 2 ≤ sizeLine; decide, fun c nc => ?_⟩
        have sc := same_put (s := Same.refl H9) (o := .tup [.str (sideS s), .str (Sx r)]) nc
        have hc : upd H9 c (.tup [.str (sideS s), .str (Sx r)]) c = some (.tup [.str (sideS s), .str (Sx r)]) := upd_same
        have hD3c := sc _ _ hD39
        generalize upd H9 c (.tup [.str (sideS s), .str (Sx r)]) = H10 at sc hc hD3c ⊢
        refine ⟨_, hD3c, by rw [sizeLine_eq]; omega, ws ++ [.ref c], ?_, upd_same, ?_⟩
        · rw [List.take_add_one, hr, List.map_append]
          exact (prd_imp pw fun _ _ z => (z.same sc).put hD3c).snoc (RsV.put ⟨c, rfl, hc⟩ hD3c)
        · intro b o e
          rw [upd_ne (ne_of_none e nD3)]
          exact sc _ _ (s9 _ _ e)
      rintro H9 ⟨ws, pw, hD39, s9⟩
      rw [List.take_of_length_le (by rw [List.length_map, List.length_map]; exact Nat.le_refl _)] at pw
      have s69 : Same H6 H9 := fun b o e => s9 _ _ (s8 _ _ e)
      have hfd9 := s69 _ _ hfd6
      have lw := prd_len pw
      rw [List.length_map] at lw
      refine ⟨fd, D3, vs, ws, rfl, rfl, hfd9, hD39, by rw [sizeLine_eq]; omega, ?_⟩
      have nfd4 : ∀ {b o}, H4 b = some o → b ≠ fd := fun {b o} e z => by
        rw [z] at e
        rw [nfd] at e
        cases e
      refine ⟨rs ++ zs.map (fun r => (s, r)), vs ++ ws, _, _, _, _, _, rfl, upd_same, ?_, ?_, ?_, ?_⟩
      · exact prd_app (prd_imp pr6 fun _ _ z => (z.same s69).put hfd9) (prd_imp pw fun _ _ z => z.put hfd9)
      · obtain ⟨a, b, er, p1, p2', p3, p4⟩ := part
        match i, hi2 with
        | 0, _ =>
          have hsi : s = true := hsi
          subst hsi
          have ea := p1 rfl
          have eb := p2' (by decide)
          subst ea eb
          refine ⟨zs, [], by rw [er]; simp, fun z => absurd z (by decide), fun _ => rfl, fun _ => ⟨pz, so⟩, fun z => absurd z (by decide)⟩
        | 1, _ =>
          have hsi : s = false := hsi
          subst hsi
          have eb := p2' (by decide)
          subst eb
          refine ⟨a, zs, by rw [er, List.map_nil, List.append_nil], fun z => absurd z (by decide), fun z => absurd z (by decide), fun _ => p3 (by decide), fun _ => ⟨pz, so⟩⟩
      · rw [List.length_append, List.length_map]
        omega
      · intro b o e
        rw [upd_ne (nfd4 e)]
        exact s69 _ _ (s6 _ _ e)
    · rintro σ H6 ⟨rs, vs, v4, v5, v6, v7, v8, rfl, hfd6, pr6, ⟨a, b, er, _, _, p3, p4⟩, lrs, s6⟩
      obtain ⟨pa, sa⟩ := p3 (by show 0 < 2; decide)
      obtain ⟨pb, sb⟩ := p4 (by show 1 < 2; decide)
      refine ⟨_, rfl, fd, vs, rfl, .inl ⟨SqL.of hfd6, fun e ne => ?_⟩⟩
      refine q e rs _ (fun b o h => same_put (s := Same.refl H6) ne _ _ (s6 _ _ (sB _ _ h))) ⟨vs, upd_same, prd_imp pr6 fun _ _ z => z.same (same_put (s := Same.refl H6) ne)⟩ ⟨a, b, er, pa, pb, sa, sb⟩
end
end V8
set_option Elab.async false
set_option linter.all false
set_option maxRecDepth 100000
set_option maxHeartbeats 8000000
set_option pp.maxSteps 900
/-! The leads. -/
namespace V8
open PySem PySem.Spec PyProof.Rows L2 MZ
variable {K : PySem.W.Frag} {ω : World}
abbrev s_leads_of : Stmt := topS 61
abbrev n_leads_of : List Str := ["meetings", "rest"]
theorem sc_leads_of : FnScope ["meetings", "rest"] ["meetings"] (defScope s_leads_of) := ⟨rfl, rfl, rfl, by decide +kernel, rfl, by decide +kernel, by decide +kernel⟩
theorem op_catTK {X : Cx} {K : PySem.W.Frag} (hK : X.K = K) : OpR X (binaryOp .Add) (rCatT K) := by
  subst hK
  exact op_catT
/-- the lead of a rest -/
def leadQ (P S : List Pr) (q : Bool × Wd) : Bool × List Nat := (lead (wayTo (waysW P S .start) (.rest q.1 q.2))).getD (true, [])
def LsV (P S : List Pr) (H : Hp) (v : V) (q : Bool × Wd) : Prop := ∃ c, v = .ref c ∧ H c = some (.tup [.str (sideS q.1), .str (Sx q.2), .str (sideS (leadQ P S q).1), .str (Sx (leadQ P S q).2)])
def LsT (P S : List Pr) (H : Hp) (e : Addr) (rs : List (Bool × Wd)) : Prop := ∃ vs, H e = some (.tup vs) ∧ Paired (LsV P S H) vs rs
theorem LsV.same {P S : List Pr} {H H' : Hp} {v : V} {q : Bool × Wd} (h : LsV P S H v q) (s : Same H H') : LsV P S H' v q := by
  obtain ⟨c, e, h1⟩ := h
  exact ⟨c, e, s _ _ h1⟩
theorem LsV.put {P S : List Pr} {H : Hp} {v : V} {q : Bool × Wd} {D : Addr} {ys : List V} {o : HO} (h : LsV P S H v q) (hD : H D = some (.lst ys)) : LsV P S (upd H D o) v q := by
  obtain ⟨c, e, h1⟩ := h
  exact ⟨c, e, by rw [upd_ne (ne_of h1 hD (fun z => nomatch z))]; exact h1⟩
theorem MeeA.same {CM : Addr} {P S : List Pr} {Qs L R : List Pl} {W : WyL} {H H' : Hp} {x : Addr} (h : MeeA K ω CM P S Qs L R W H x) (s : Same H H') : MeeA K ω CM P S Qs L R W H' x := by
  obtain ⟨⟨dx, mv, ld, wd, h1, h2, h3, h4, n1, n2⟩, b, c, d, e⟩ := h
  exact ⟨⟨dx, mv, ld, wd, s _ _ h1, h2.ni (NI.ofSame s), h3.ni (NI.ofSame s), h4.ni (NI.ofSame s), n1, n2⟩, b, c, d, e⟩
def spLeads (K : PySem.W.Frag) (ω : World) (aD CM : Addr) : Sp := fun vs H Q _ => ∃ (x : Addr) (P S : List Pr) (Qs L R : List Pl) (W : WyL), vs = [.ref x] ∧ MeeA K ω CM P S Qs L R W H x ∧ SqT K H aD [.str (sideS true), .str (sideS false)] ∧ PrOk P ∧ PrOk S ∧ FewR P S ∧ Alike P S ∧
  ∀ (e : Addr) (rs : List (Bool × Wd)) (H' : Hp), Same H H' → LsT P S H' e rs → RsIs P S true rs → Q (.ref e) H'
section
variable {P : Program} {w : World} {K : PySem.W.Frag} {mg : Str → Option Value} {base : Heap} {aS aE aV aD CM : Addr}
theorem ok_leads {f : Addr} {fd : FuncData} (F : Fun K "leads_of" "leads_of" s_leads_of f fd) (T : Tn K mg aS aE aV CM) (D_rests_of : Df P w K mg base 1 "rests_of" (spRests K w aD CM)) (D_lead_of : Df P w K mg base 1 "lead_of" (spLead K)) : FnOk P w K mg base CX0 2 f fd ["meetings"] (spLeads K w aD CM) := by
  refine F.ok sc_leads_of (fun vs H Q E h => ?_) (fun cdv A outer s H vs Q E hr h => ?_)
  · obtain ⟨x, P, S, Qs, L, R, W, rfl, _⟩ := h
    rfl
  · obtain ⟨x, P1, S1, Qs, L, R, W, rfl, me, hD, okP, okS, fewR, ak, q⟩ := h
    refine ⟨_, (pss_one (ps_ret (pe_callTy (call_tuple_ofK (K := K) rfl) (by rfl) T.tuple (by decide +kernel) (pa_cons (pe_lc (own := [("rest", 1)]) (g := gName 1) (by rfl) sc_leads_of.nd (pi_tupK (K := K) rfl (pe_c D_rests_of hr (by decide) (by rfl) (pa_cons (pv 0) (pa_cons pe_bl pa_nil)))) (blkOk_by (own := [("rest", 1)]) (N := n_leads_of) (sc := defScope s_leads_of) (by decide +kernel)) (fun _ _ _ _ _ => (pg_name (i := 1) sc_leads_of.nd rfl (.inl rfl))) (fun _ _ _ _ _ => pts_nil) (fun _ _ _ _ _ => (pe_op (op_catTK (K := K) rfl) (pv 1) (pe_c D_lead_of hr (by decide) (by rfl) (pa_cons (pe_dgetY (w := w) (K := K) rfl rfl (hu_of hr) (pe_fldK (K := K) rfl (pv 0) rfl) (pv 1) (fun _ _ => rfl)) pa_nil))))) pa_nil)))), ?_⟩
    refine ⟨_, rfl, x, true, P1, S1, Qs, L, R, W, rfl, me, hD, okP, okS, fewR, fun e rs H1 s1 hrs isr => ?_⟩
    obtain ⟨vs, hvs, prs⟩ := hrs
    have lvs := prd_len prs
    have lrs := isr.len fewR
    have me1 := me.same s1
    refine ⟨e, rfl, ⟨_, .inl (.inl hvs)⟩, fun D nD => lc_it (walk_tup (K := K) (a := e) (xs := vs)) (fun i H2 => ∃ ws, Paired (LsV P1 S1 H2) ws (rs.take i) ∧ H2 D = some (.lst ws) ∧ Same H1 H2) ?_ ?_ ?_ ?_⟩
    · exact ⟨[], .nil, upd_same, same_put (s := Same.refl H1) nD⟩
    · rintro i H2 hi ⟨ws, _, _, s2⟩
      exact .inl (.inl (s2 _ _ hvs))
    · rintro i y H20 H2 hi ⟨ws, pw, hD2, s2⟩ ⟨rfl, hy⟩
      obtain ⟨r, hr0, c, rfl, hc⟩ := prd_at prs hy
      have lw := prd_len pw
      rw [List.length_take] at lw
      obtain ⟨hrQ, hrl⟩ := isr.mem (List.mem_of_getElem? hr0)
      obtain ⟨⟨dx, mv, ld, wd, hx, am, lv, wy, n1, n2⟩, bf, br, few, eqQ⟩ := me1.same s2
      rw [← eqQ] at hrQ
      have hrR : Pl.rest r.1 r.2 ∈ R := (br.all _).mpr ((bf.all _).mp hrQ)
      obtain ⟨aw, kw, cw, hw1, hwk, hw2, hw3, kw4, lw5⟩ := wys_at wy br.nd hrR
      have lw6 : (wayTo W (.rest r.1 r.2)).1.length + (wayTo W (.rest r.1 r.2)).2.length ≤ 120 := lw5
      have hc2 := s2 _ _ hc
      have el : lead (wayTo W (.rest r.1 r.2)) = some (leadQ P1 S1 r) := by
        obtain ⟨v, kv⟩ := livesB_iff.mp hrl
        have e1 := ak _ (kw4.trans kv)
        obtain ⟨k, e2, _⟩ := lead_back e1 e1
        unfold leadQ
        rw [← wy.2.2.2, e2]
        rfl
      refine ⟨rfl, _, rfl, _, rfl, x, CM, dx, _, V.ref wd, rfl, hx, T.cl, T.n3, fM_w mv ld wd, _, rfl, wd, _, rfl, (by rw [← hw2]; exact DGetY.t (k := plK (.rest r.1 r.2)) hw1 hwk (SqT.of hc2)), cw, _, rfl, hw3, by omega, by omega, fun lv_ H3 s3 hl3 => ?_⟩
      rw [el] at hl3
      obtain ⟨b, rfl, hb⟩ := hl3
      refine ⟨c, b, _, _, rfl, rfl, SqT.of (s3 _ _ hc2), hb, (by intro z; cases z), by show 4 ≤ sizeLine; decide, (fun z => by cases z), fun _ p np => ?_⟩
      have s4 := same_put (s := s3) (o := .tup ([V.str (sideS r.1), V.str (Sx r.2)] ++ [V.str (sideS (leadQ P1 S1 r).1), V.str (Sx (leadQ P1 S1 r).2)])) np
      have hp : upd H3 p (.tup ([V.str (sideS r.1), V.str (Sx r.2)] ++ [V.str (sideS (leadQ P1 S1 r).1), V.str (Sx (leadQ P1 S1 r).2)])) p = some (.tup [V.str (sideS r.1), V.str (Sx r.2), V.str (sideS (leadQ P1 S1 r).1), V.str (Sx (leadQ P1 S1 r).2)]) := upd_same
      have hD4 := s4 _ _ hD2
      generalize upd H3 p (.tup ([V.str (sideS r.1), V.str (Sx r.2)] ++ [V.str (sideS (leadQ P1 S1 r).1), V.str (Sx (leadQ P1 S1 r).2)])) = H4 at s4 hp hD4 ⊢
      refine ⟨_, hD4, by rw [sizeLine_eq]; omega, ws ++ [.ref p], ?_, upd_same, ?_⟩
      · rw [List.take_add_one, hr0]
        exact (prd_imp pw fun _ _ z => (z.same s4).put hD4).snoc (LsV.put ⟨p, rfl, hp⟩ hD4)
      · intro b o e
        rw [upd_ne (ne_of_none e nD)]
        exact s4 _ _ (s2 _ _ e)
    · rintro H2 ⟨ws, pw, hD2, s2⟩
      rw [List.take_of_length_le (by omega)] at pw
      refine ⟨D, ws, rfl, .inl ⟨SqL.of hD2, fun e2 ne => ?_⟩⟩
      have s3 := same_put (s := Same.refl H2) (o := .tup ws) ne
      exact q e2 rs _ (fun b o h => s3 _ _ (s2 _ _ (s1 _ _ h))) ⟨ws, upd_same, prd_imp pw fun _ _ z => z.same s3⟩ isr
end
end V8
set_option Elab.async false
set_option linter.all false
set_option maxRecDepth 100000
set_option maxHeartbeats 8000000
set_option pp.maxSteps 900
/-! Values of tuples, texts and None: copied and compared. -/
namespace V8
open PySem PySem.Spec PyProof.Rows L2 MZ
variable {K : PySem.W.Frag} {ω : World}
mutual
/-- a value of tuples, texts and None -/
inductive TV (H : Hp) : V → PyData → Prop
  | non : TV H .non .none
  | str (z : Str) : TV H (.str z) (.str z)
  | int (i : Int) : TV H (.int i) (.int i)
  | tup {a : Addr} {xs : List V} {ds : List PyData} : H a = some (.tup xs) → TVs H xs ds → TV H (.ref a) (.tuple ds)
inductive TVs (H : Hp) : List V → List PyData → Prop
  | nil : TVs H [] []
  | cons {x : V} {d : PyData} {xs : List V} {ds : List PyData} : TV H x d → TVs H xs ds → TVs H (x :: xs) (d :: ds)
end
mutual
theorem TV.keep {H H2 : Hp} (s : ∀ b xs, H b = some (.tup xs) → H2 b = some (.tup xs)) : ∀ {x : V} {d : PyData}, TV H x d → TV H2 x d
  | _, _, .non => .non
  | _, _, .str z => .str z
  | _, _, .int i => .int i
  | _, _, .tup h r => .tup (s _ _ h) (TVs.keep s r)
theorem TVs.keep {H H2 : Hp} (s : ∀ b xs, H b = some (.tup xs) → H2 b = some (.tup xs)) : ∀ {xs : List V} {ds : List PyData}, TVs H xs ds → TVs H2 xs ds
  | _, _, .nil => .nil
  | _, _, .cons h r => .cons (TV.keep s h) (TVs.keep s r)
end
theorem TV.same {H H2 : Hp} {x : V} {d : PyData} (h : TV H x d) (s : Same H H2) : TV H2 x d := h.keep fun b xs e => s b _ e
theorem TVs.same {H H2 : Hp} {xs : List V} {ds : List PyData} (h : TVs H xs ds) (s : Same H H2) : TVs H2 xs ds := h.keep fun b xs e => s b _ e
theorem TVs.put {H : Hp} {xs : List V} {ds : List PyData} {D : Addr} {ys : List V} {o : HO} (h : TVs H xs ds) (hD : H D = some (.lst ys)) : TVs (upd H D o) xs ds := h.keep fun b zs e => by
  rw [upd_ne (ne_of e hD (fun z => nomatch z))]
  exact e
theorem TV.put {H : Hp} {x : V} {d : PyData} {D : Addr} {ys : List V} {o : HO} (h : TV H x d) (hD : H D = some (.lst ys)) : TV (upd H D o) x d := h.keep fun b zs e => by
  rw [upd_ne (ne_of e hD (fun z => nomatch z))]
  exact e
theorem TVs.len {H : Hp} : ∀ {xs : List V} {ds : List PyData}, TVs H xs ds → xs.length = ds.length
  | _, _, .nil => rfl
  | _, _, .cons _ r => congrArg Nat.succ (TVs.len r)
theorem TVs.at {H : Hp} : ∀ {xs : List V} {ds : List PyData} {i : Nat} {x : V}, TVs H xs ds → xs[i]? = some x → ∃ d, ds[i]? = some d ∧ TV H x d
  | _, _, i, x, .nil, e => by simp at e
  | _, _, 0, x, .cons h _, e => by
    rw [List.getElem?_cons_zero] at e
    cases e
    exact ⟨_, rfl, h⟩
  | _, _, i + 1, x, .cons _ r, e => by
    rw [List.getElem?_cons_succ] at e ⊢
    exact TVs.at r e
theorem TVs.snoc {H : Hp} : ∀ {xs : List V} {ds : List PyData} {x : V} {d : PyData}, TVs H xs ds → TV H x d → TVs H (xs ++ [x]) (ds ++ [d])
  | _, _, _, _, .nil, h => .cons h .nil
  | _, _, _, _, .cons h r, k => .cons h (TVs.snoc r k)
def FlT (d : PyData) : Prop := d = .none ∨ (∃ z, d = .str z ∧ PyData.strOk z = true) ∨ ∃ i, d = .int i
/-- at most so deep -/
def TD : Nat → PyData → Prop
  | 0, d => FlT d
  | n + 1, d => FlT d ∨ ∃ ds, d = .tuple ds ∧ ds.length ≤ 200 ∧ ∀ e ∈ ds, TD n e
theorem TD.flat {d : PyData} (h : FlT d) : ∀ n, TD n d
  | 0 => h
  | _ + 1 => .inl h
theorem TD.up : ∀ {n : Nat} {d : PyData}, TD n d → TD (n + 1) d
  | 0, _, h => .inl h
  | n + 1, _, .inl h => .inl h
  | n + 1, _, .inr ⟨ds, e, l, k⟩ => .inr ⟨ds, e, l, fun x hx => TD.up (k x hx)⟩
theorem td_cases {n : Nat} {d : PyData} (h : TD n d) : FlT d ∨ ∃ m ds, n = m + 1 ∧ d = .tuple ds ∧ ds.length ≤ 200 ∧ ∀ e ∈ ds, TD m e := by
  cases n with
  | zero => exact .inl h
  | succ m =>
    rcases h with h | ⟨ds, e, l, k⟩
    · exact .inl h
    · exact .inr ⟨m, ds, rfl, e, l, k⟩
theorem flt_ty {H : Hp} {x : V} {d : PyData} (h : TV H x d) (f : FlT d) : Flat x := by
  rcases f with rfl | ⟨z, rfl, _⟩ | ⟨i, rfl⟩
  · cases h
    exact .inr (.inr (.inl rfl))
  · cases h
    exact .inl ⟨z, rfl⟩
  · cases h
    exact .inr (.inl ⟨i, rfl⟩)
structure Te (mg : Str → Option Value) : Prop extends Tq mg where
  bool : mg "bool" = none
  all : mg "all" = none
  zip : mg "zip" = none
def spCopT (n : Nat) : Sp := fun vs H Q _ => ∃ (x : V) (d : PyData), vs = [x] ∧ TV H x d ∧ TD n d ∧ ∀ y H', Same H H' → TV H' y d → Q y H'
section
variable {P : Program} {w : World} {K : PySem.W.Frag} {mg : Str → Option Value} {base : Heap}
theorem ok_copT {f : Addr} {fd : FuncData} {n k : Nat} (F : Fun K "copied" "copied" s_copied f fd) (T : Te mg) (D_copied : Df P w K mg base k "copied" (if n = 0 then fun _ _ _ _ => False else spCopT (n - 1))) : FnOk P w K mg base CX0 (k + 1) f fd ["value"] (spCopT n) := by
  refine F.ok sc_copied (fun vs H Q E h => ?_) (fun cdv A outer s H vs Q E hr h => ?_)
  · obtain ⟨x, d, rfl, _⟩ := h
    rfl
  · obtain ⟨x, d, rfl, tv, td, q⟩ := h
    refine ⟨_, (pss_cons (ps_if (pt_val (pe_callB call_isi (by rfl) T.isinstance (by decide +kernel) (pa_cons (pv 0) (pa_cons (pe_bltn (v := .ty "list") (by rfl) T.list (by decide +kernel) rfl) pa_nil))))
        (pss_one (ps_ret (pe_lc (own := [("part", 1)]) (g := gName 1) (by rfl) sc_copied.nd (pi_list (pv 0)) (blkOk_by (own := [("part", 1)]) (N := n_copied) (sc := defScope s_copied) (by decide +kernel)) (fun _ _ _ _ _ => (pg_name (i := 1) sc_copied.nd rfl (.inl rfl))) (fun _ _ _ _ _ => pts_nil) (fun _ _ _ _ _ => (pe_c D_copied hr (Nat.le_refl _) (by rfl) (pa_cons (pv 1) pa_nil))))))
        pss_nil)
      (pss_cons (ps_if (pt_val (pe_callB call_isi (by rfl) T.isinstance (by decide +kernel) (pa_cons (pv 0) (pa_cons (pe_bltn (v := .ty "tuple") (by rfl) T.tuple (by decide +kernel) rfl) pa_nil))))
        (pss_one (ps_ret (pe_callTy (call_tuple_ofK (K := K) rfl) (by rfl) T.tuple (by decide +kernel) (pa_cons (pe_lc (own := [("part", 1)]) (g := gName 1) (by rfl) sc_copied.nd (pi_tup (pv 0)) (blkOk_by (own := [("part", 1)]) (N := n_copied) (sc := defScope s_copied) (by decide +kernel)) (fun _ _ _ _ _ => (pg_name (i := 1) sc_copied.nd rfl (.inl rfl))) (fun _ _ _ _ _ => pts_nil) (fun _ _ _ _ _ => (pe_c D_copied hr (Nat.le_refl _) (by rfl) (pa_cons (pv 1) pa_nil)))) pa_nil))))
        pss_nil)
      (pss_cons (ps_if (pt_val (pe_callB call_isi (by rfl) T.isinstance (by decide +kernel) (pa_cons (pv 0) (pa_cons (pe_bltn (v := .ty "dict") (by rfl) T.dict (by decide +kernel) rfl) pa_nil))))
        (pss_one (ps_ret (pe_lock (pe_dc (own := [("key", 2)]) (g := gName 2) (by rfl) sc_copied.nd (pi_keys (pv 0)) (blkOk_by (own := [("key", 2)]) (N := n_copied) (sc := defScope s_copied) (by decide +kernel)) (fun _ _ _ _ _ => (pg_name (i := 2) sc_copied.nd rfl (.inl rfl))) (fun _ _ _ _ _ => pts_nil) (fun _ _ _ _ _ => (pv 2)) (fun _ _ _ _ _ => (pe_c D_copied hr (Nat.le_refl _) (by rfl) (pa_cons (pe_dget (hu_of hr) (pv 0) (pv 2) (fun _ _ => rfl)) pa_nil)))))))
        pss_nil)
      (pss_one (ps_ret (pv 0)))))), ?_⟩
    rcases td_cases td with fl | ⟨m, ds, rfl, rfl, l200, hd⟩
    · obtain ⟨t, ty, e1, e2, e3⟩ := (flt_ty tv fl).ty (K := K)
      refine ⟨_, rfl, _, .ty "list", t, .type "list", false, rfl, .ty _, ty _, e1, false, rfl, iteF ?_⟩
      refine ⟨_, rfl, _, .ty "tuple", t, .type "tuple", false, rfl, .ty _, ty _, e2, false, rfl, iteF ?_⟩
      refine ⟨_, rfl, _, .ty "dict", t, .type "dict", false, rfl, .ty _, ty _, e3, false, rfl, iteF ?_⟩
      exact ⟨_, rfl, q _ _ (Same.refl H) tv⟩
    · cases tv with
      | @tup a xs ds ha tvs =>
        have lx := tvs.len
        refine ⟨_, rfl, _, .ty "list", .type "tuple", .type "list", false, rfl, .ty _, .base (.tup ha), kit_ty (by decide +kernel), false, rfl, iteF ?_⟩
        refine ⟨_, rfl, _, .ty "tuple", .type "tuple", .type "tuple", true, rfl, .ty _, .base (.tup ha), kit_ty (by decide +kernel), true, rfl, iteT ?_⟩
        refine ⟨_, rfl, a, rfl, ⟨_, .inl (.inl ha)⟩, fun D nD => lc_it (walk_tup (K := K) (a := a) (xs := xs)) (fun i H2 => ∃ ys, TVs H2 ys (ds.take i) ∧ H2 D = some (.lst ys) ∧ Same H H2) ?_ ?_ ?_ ?_⟩
        · exact ⟨[], .nil, upd_same, same_put (s := Same.refl H) nD⟩
        · rintro i H2 hi ⟨ys, _, _, s2⟩
          exact .inl (.inl (s2 _ _ ha))
        · rintro i y H2 H3 hi ⟨ys, ty, hD, s2⟩ ⟨rfl, hy⟩
          obtain ⟨d, hdi, tv⟩ := tvs.at hy
          have ly := ty.len
          rw [List.length_take] at ly
          refine ⟨rfl, _, rfl, y, d, rfl, tv.same s2, hd d (List.mem_of_getElem? hdi), fun z H4 s4 tz => ?_⟩
          have hD4 := s4 _ _ hD
          refine ⟨_, hD4, by rw [sizeLine_eq]; omega, ys ++ [z], ?_, upd_same, ?_⟩
          · rw [List.take_add_one, hdi]
            exact ((ty.same s4).put hD4).snoc (tz.put hD4)
          · intro b o e
            rw [upd_ne (ne_of_none e nD)]
            exact s4 _ _ (s2 _ _ e)
        · rintro H2 ⟨ys, ty, hD, s2⟩
          rw [List.take_of_length_le (by omega)] at ty
          refine ⟨D, ys, rfl, .inl ⟨SqL.of hD, fun b nb => ?_⟩⟩
          exact q _ _ (same_put (s := s2) nb) (.tup upd_same (ty.same (same_put (s := Same.refl H2) nb)))
end
end V8
set_option Elab.async false
set_option linter.all false
/-! The places as a function of the words; how many stand on one side. -/
namespace MZ
theorem all8 {P : List Pr} (h8 : ∀ q ∈ P, q.1.length = 8) {p : Pl} {w : List Nat × List Nat} (h : Way P P .start p w) : ∀ a r, p = .rest a r → r.length = 8 ∧ r ∈ P.map (·.1) := by
  induction h with
  | nil => exact fun a r e => nomatch e
  | @step p w t l q k m ih =>
    intro a r e
    subst e
    cases p with
    | fin => cases m
    | start =>
      obtain ⟨x, hx, e⟩ := List.mem_map.mp m
      cases e
      exact ⟨h8 x hx, List.mem_map_of_mem hx⟩
    | rest b s =>
      obtain ⟨l8, _⟩ := ih b s rfl
      obtain ⟨z, hz, e⟩ := List.mem_filterMap.mp m
      obtain ⟨q', eb, e2⟩ := Option.map_eq_some_iff.mp e
      cases e2
      have hz8 : z.1.length = 8 := by
        cases b with
        | true => exact h8 z hz
        | false => exact h8 z hz
      exfalso
      rcases behind_cases eb with ⟨_, e3⟩ | ⟨v, nv, e3, _⟩ | ⟨v, nv, e3, _⟩
      · cases e3
      · have e4 := congrArg List.length e3
        rw [List.length_append] at e4
        exact nv (List.eq_nil_of_length_eq_zero (by omega))
      · have e4 := congrArg List.length e3
        rw [List.length_append] at e4
        exact nv (List.eq_nil_of_length_eq_zero (by omega))
theorem sumL_le : ∀ {P : List Pr}, (∀ q ∈ P, q.1.length ≤ 8) → sumL P ≤ 8 * P.length
  | [], _ => Nat.le_refl _
  | q :: P, h => by
    have h1 := h q List.mem_cons_self
    have h2 := sumL_le (P := P) fun x hx => h x (List.mem_cons_of_mem _ hx)
    show q.1.length + sumL P ≤ 8 * (P.length + 1)
    omega
theorem sumL_lt : ∀ {P : List Pr}, (∀ q ∈ P, q.1.length ≤ 8) → (∃ q ∈ P, q.1.length ≤ 7) → sumL P + 1 ≤ 8 * P.length
  | [], _, ⟨_, h, _⟩ => absurd h List.not_mem_nil
  | q :: P, h, ⟨x, hx, l⟩ => by
    have h1 := h q List.mem_cons_self
    have hP := fun x hx => h x (List.mem_cons_of_mem q (a := x) hx)
    have h2 := sumL_le (P := P) hP
    show q.1.length + sumL P + 1 ≤ 8 * (P.length + 1)
    rcases List.mem_cons.mp hx with rfl | hx
    · omega
    · have h3 := sumL_lt hP ⟨x, hx, l⟩
      omega
theorem rests_few {P : List Pr} (hP : P.length ≤ 8) (h8 : ∀ q ∈ P, q.1.length ≤ 8) (ne : ∀ q ∈ P, q.1 ≠ []) {rs : List Wd} {s : Bool} (nd : rs.Nodup) (hr : ∀ r ∈ rs, ∃ w, Way P P .start (.rest s r) w) : rs.length ≤ 63 := by
  by_cases h7 : ∃ q ∈ P, q.1.length ≤ 7
  · have hs := sumL_lt h8 h7
    have : rs.length ≤ (P.flatMap fun q => tails q.1).length := nd_le nd fun r hr2 => by
      obtain ⟨w, k⟩ := hr r hr2
      have z := (reach_uni ne k).2
      have z2 : r ≠ [] ∧ ∃ q ∈ P, ∃ a, q.1 = a ++ r := by
        cases s with
        | true => exact z
        | false => exact z
      obtain ⟨nr, q, hq, a, e⟩ := z2
      exact List.mem_flatMap.mpr ⟨q, hq, tails_has _ a r e nr⟩
    have e : (P.flatMap fun q => tails q.1).length = sumL P := by
      rw [List.length_flatMap]
      unfold sumL
      congr 1
      exact List.map_congr_left fun q _ => tails_len _
    omega
  · have e8 : ∀ q ∈ P, q.1.length = 8 := fun q hq => by
      have := h8 q hq
      have : ¬ q.1.length ≤ 7 := fun z => h7 ⟨q, hq, z⟩
      omega
    have : rs.length ≤ (P.map (·.1)).length := nd_le nd fun r hr2 => by
      obtain ⟨w, k⟩ := hr r hr2
      exact (all8 e8 k s r rfl).2
    rw [List.length_map] at this
    omega
end MZ
set_option Elab.async false
set_option linter.all false
set_option maxRecDepth 100000
set_option maxHeartbeats 4000000
/-! Own classes by their names; a def by one keyword; bool(o) by an own __bool__. -/
namespace BoO
open PySem PySem.Spec PyProof.Rows
theorem bool_new_in (prog : Program) (w : World) (x : Value) (hx : ∀ b, x ≠ .bool b) (hn : x ≠ .none) :
    MeetsIn prog w (Builtin.«bool.__new__» ⟨[.type "bool", x], []⟩) (fun A R s => wpAny (model prog w) A.in1 (truthy x) (fun b s' => R (.ok (.ret (.bool b))) s') (fun e s' => R (.error e) s') s) :=
  .of_wp fun A R s hs => by
    obtain ⟨hp, g, d, tk, os⟩ := s
    have f1 := F.conv_sub_bool
    repeat (any_goals (first | assumption | (with_reducible refine wpAny_mono hs (fun _ _ h => ?_) fun _ _ h => ?_) | wp_step))
    all_goals first | exact ⟨_, rfl, h⟩ | exact h | skip
end BoO
namespace L2
open PySem PySem.Spec PyProof.Rows BoO
section
variable {X : Cx} {n k j : Nat} {CX : CXT} {C f : Addr} {fd : FuncData} {ps ks : List Str} {sp : Sp} {E : XK}
theorem call_boolOwn (F : FnOk X.prog X.w X.K X.mg X.base CX n f fd ps sp) (hb : Binds X.K fd ps []) (hx : Passes CX X E) (o : Own X.K C "__bool__" f) (hr : Room (n + 2) X.A) :
    CallR X (.type "bool") (fun xs H Q => ∃ a dx fs, xs = [.ref a] ∧ H a = some (.ins C dx fs) ∧ sp [.ref a] H (fun v H' => ∃ b, v = .bl b ∧ Q (.bl b) H') E) := by
  intro pins s σ H xs us Q I r h
  obtain ⟨a, dx, fs, rfl, ha, hs⟩ := h
  obtain ⟨u, rfl, rx⟩ := vals1 r
  cases rx
  obtain ⟨od, J⟩ := inst_at I ha
  obtain ⟨m, hF⟩ := I.fr
  refine callType_newIn PySem.F.called_bool PySem.F.newNe_bool (PySem.F.typeCall_bool_1 _) (PySem.F.newCall_bool_1 _) (fun obj => PySem.F.args_object_init_2 obj _) PySem.F.entry_bool_new (bool_new_in X.prog X.w (.ref a) (fun _ z => nomatch z) (fun z => nomatch z)) ?_
  refine PySem.W.truthy_K hF I.ok.mod.kin J o.find o.fn (thn (run_own (Sub.here hr).in1.in1 F hb hx I (show Vals [V.ref a] [Value.ref a] from .cons rfl .nil) hs) fun v s' q => ?_)
  obtain ⟨y, H', I', ry, b, rfl, q⟩ := q
  cases ry
  exact ⟨rfl, .bl b, H', I', rfl, q⟩
theorem call_boolO (c : Mf X.prog X.w X.K X.mg X.base k C "__bool__" sp) (hr : Room j X.A) (hk : k + 2 ≤ j) :
    CallR X (.type "bool") (fun xs H Q => ∃ a dx fs, xs = [.ref a] ∧ H a = some (.ins C dx fs) ∧ sp [.ref a] H (fun v H' => ∃ b, v = .bl b ∧ Q (.bl b) H') E0) := by
  obtain ⟨f, fd, ps, F, _, o, _, b⟩ := c.ex
  exact call_boolOwn F b pass0 o (hr.mono hk)
end
/-- a class of the text by its name: its __init__ has no defaults -/
structure MkC (P : Program) (w : World) (K : PySem.W.Frag) (mg : Str → Option Value) (base : Heap) (k : Nat) (C : Addr) (x : Str) (sp : Sp) : Prop where
  ex : ∃ (f : Addr) (fd : FuncData) (ps : List Str), Mk K C f ∧ FnOk P w K mg base CX0 k f fd ps sp ∧ mg x = some (.ref C) ∧ Binds K fd ps []
section
variable {X : Cx} {n k j : Nat} {C : Addr} {x : Str} {ks : List Str} {gV : List V → List V → List V} {sp : Sp} {p pos : Pos} {e : Expr} {es : List Expr} {kws : List Keyword} {t tk : TA}
theorem pe_mkC (M : MkC X.prog X.w X.K X.mg X.base k C x sp) (hr : Room j X.A) (hj : k + 1 ≤ j) (hg : Gl X x) (ha : PA X (e :: es) t) (hdb : (x == ("__debug__" : Str)) = false := by decide)
    (he : starEach (e :: es) X.env = (false, eval e X.env) :: starEach es X.env := by rfl) (hpl : (backTo pos (starEach es X.env)).any (·.1) = false := by rfl) : PE X (.Call (.Name x p) (e :: es) [] pos) (tMake C sp [] E0 t) := by
  obtain ⟨f, fd, ps, M, F, hm, b⟩ := M.ex
  exact pe_make M F (hr.mono hj) hg hm b .nil pass0 ha hdb he hpl
end
end L2
set_option Elab.async false
set_option linter.all false
set_option maxRecDepth 100000
set_option maxHeartbeats 8000000
set_option pp.maxSteps 900
/-! A misreading's images as pairs; its checks. -/
namespace V8
open PySem PySem.Spec PyProof.Rows L2 MZ
variable {K : PySem.W.Frag} {ω : World}
abbrev s_check_misreading : Stmt := topS 41
theorem sc_check_misreading : FnScope ["value"] ["value"] (defScope s_check_misreading) := ⟨rfl, rfl, rfl, by decide +kernel, rfl, by decide +kernel, by decide +kernel⟩
abbrev s_check_length : Stmt := topS 84
abbrev n_check_length : List Str := ["misreading", "letter"]
theorem sc_check_length : FnScope ["misreading", "letter"] ["misreading"] (defScope s_check_length) := ⟨rfl, rfl, rfl, by decide +kernel, rfl, by decide +kernel, by decide +kernel⟩
abbrev s_check_images : Stmt := topS 83
theorem sc_check_images : FnScope ["misreading"] ["misreading"] (defScope s_check_images) := ⟨rfl, rfl, rfl, by decide +kernel, rfl, by decide +kernel, by decide +kernel⟩
abbrev s_image_pairs : Stmt := topS 82
abbrev n_image_pairs : List Str := ["misreading", "letter"]
theorem sc_image_pairs : FnScope ["misreading", "letter"] ["misreading"] (defScope s_image_pairs) := ⟨rfl, rfl, rfl, by decide +kernel, rfl, by decide +kernel, by decide +kernel⟩
/-- the images with their letters as labels -/
def pairsT (u : Tab) : List Pr := (keysOf u).map fun c => ((lookT u c).getD [], c)
structure OkU (u : Tab) : Prop where
  few : (keysOf u).length ≤ 8
  img : ∀ c ∈ keysOf u, ∃ s, lookT u c = some s ∧ s ≠ [] ∧ s.length ≤ 5 ∧ ∀ d ∈ s, isLt d
theorem OkU.pr {u : Tab} (o : OkU u) : ∀ q ∈ pairsT u, q.1 ≠ [] ∧ q.1.length ≤ 5 ∧ (∀ d ∈ q.1, isLt d) ∧ isLt q.2 := fun q hq => by
  obtain ⟨c, hc, rfl⟩ := List.mem_map.mp hq
  obtain ⟨s, e, h1, h2, h3⟩ := o.img c hc
  show (lookT u c).getD [] ≠ [] ∧ _
  rw [e]
  exact ⟨h1, h2, h3, keysOf_sub u c hc⟩
theorem OkU.len {u : Tab} (o : OkU u) : (pairsT u).length ≤ 8 := by
  unfold pairsT
  rw [List.length_map]
  exact o.few
theorem OkU.prOk {u : Tab} (o : OkU u) : PrOk (pairsT u) := ⟨Nat.le_trans o.len (by decide), fun q hq => ⟨Nat.le_trans (o.pr q hq).2.1 (by decide), (o.pr q hq).2.2.1⟩⟩
theorem OkU.lb {u : Tab} (o : OkU u) : LbOk (pairsT u) := fun q hq => (o.pr q hq).2.2.2
theorem OkU.ne {u : Tab} (o : OkU u) : ∀ q ∈ pairsT u, q.1 ≠ [] := fun q hq => (o.pr q hq).1
theorem runQ_reach {P S : List Pr} : ∀ n, (runQ P S n).Nodup ∧ ∀ p ∈ runQ P S n, ∃ w, Way P S .start p w
  | 0 => ⟨List.nodup_cons.mpr ⟨List.not_mem_nil, List.nodup_nil⟩, fun p hp => by
    rw [List.mem_singleton.mp hp]
    exact ⟨_, .nil⟩⟩
  | n + 1 => by
    obtain ⟨nd, h⟩ := runQ_reach (P := P) (S := S) n
    show (stepQ P S (runQ P S n) n).Nodup ∧ ∀ p ∈ stepQ P S (runQ P S n) n, _
    unfold stepQ
    cases e : (runQ P S n)[n]? with
    | none => exact ⟨nd, h⟩
    | some p =>
      refine ⟨addTo_nd _ _ nd, fun q hq => ?_⟩
      rcases (addTo_has _ _ _).mp hq with a | ⟨m, hm, rfl⟩
      · exact h q a
      · obtain ⟨w, k⟩ := h p (List.mem_of_getElem? e)
        exact ⟨_, k.step (t := m.1) (l := m.2.1) (q := m.2.2) hm⟩
theorem OkU.fewR {u : Tab} (o : OkU u) : FewR (pairsT u) (pairsT u) := fun s => by
  obtain ⟨nd, hr⟩ := runQ_reach (P := pairsT u) (S := pairsT u) 120
  have nd2 : ((placesQ (pairsT u) (pairsT u)).filter (onSide s)).Nodup := nd.filter _
  have side : ∀ {p : Pl}, onSide s p = true → p = .rest s (restOf p) := fun {p} h => by
    cases p with
    | start => cases h
    | fin => cases h
    | rest a r =>
      rw [of_decide_eq_true (show decide (a = s) = true from h)]
      rfl
  have inj : ∀ {l : List Pl}, l.Nodup → (∀ p ∈ l, onSide s p = true) → (l.map restOf).Nodup := by
    intro l
    induction l with
    | nil => exact fun _ _ => List.nodup_nil
    | cons p r ih =>
      intro nd h
      rw [List.nodup_cons] at nd
      rw [List.map_cons, List.nodup_cons]
      refine ⟨fun z => ?_, ih nd.2 fun q hq => h q (List.mem_cons_of_mem _ hq)⟩
      obtain ⟨q, hq, e⟩ := List.mem_map.mp z
      refine nd.1 ?_
      rw [side (h p List.mem_cons_self), ← e, ← side (h q (List.mem_cons_of_mem _ hq))]
      exact hq
  have nd3 : (((placesQ (pairsT u) (pairsT u)).filter (onSide s)).map restOf).Nodup := by
    exact inj nd2 fun p hp => (List.mem_filter.mp hp).2
  have z := rests_few (s := s) o.len (fun q hq => Nat.le_trans (o.pr q hq).2.1 (by decide)) o.ne nd3 fun r h => by
    obtain ⟨p, hp, rfl⟩ := List.mem_map.mp h
    obtain ⟨h1, h2⟩ := List.mem_filter.mp hp
    obtain ⟨w, k⟩ := hr p h1
    rw [side h2] at k
    exact ⟨w, k⟩
  rw [List.length_map] at z
  exact z
theorem MisAt.same2 {C : Addr} {H H' : Hp} {x : Addr} {u : Tab} (m : MisAt C H x u) (s : Same H H') : MisAt C H' x u := m.mono fun b o e _ => s b o e
def spChkM (CM : Addr) : Sp := fun vs H Q _ => ∃ (x : Addr) (u : Tab), vs = [.ref x] ∧ MisAt CM H x u ∧ Q .non H
def spChkL (CM : Addr) : Sp := fun vs H Q _ => ∃ (x : Addr) (u : Tab), vs = [.ref x] ∧ MisAt CM H x u ∧ OkU u ∧ ∀ H', Same H H' → Q .non H'
def spPairs (CM : Addr) : Sp := fun vs H Q _ => ∃ (x : Addr) (u : Tab), vs = [.ref x] ∧ MisAt CM H x u ∧ OkU u ∧ ∀ a H', Same H H' → PrL H' a (pairsT u) → Q (.ref a) H'
structure Tp (K : PySem.W.Frag) (mg : Str → Option Value) (CM CJ : Addr) : Prop extends Tz K mg CM CJ where
  any : mg "any" = none
  gLONGEST_IMAGE : GV mg "LONGEST_IMAGE" (.int 8)
section
variable {P : Program} {w : World} {K : PySem.W.Frag} {mg : Str → Option Value} {base : Heap} {CM CJ : Addr}
theorem ok_check_misreading {f : Addr} {fd : FuncData} (F : Fun K "check_misreading" "check_misreading" s_check_misreading f fd) (T : Tp K mg CM CJ) : FnOk P w K mg base CX0 1 f fd ["value"] (spChkM CM) := by
  refine F.ok sc_check_misreading (fun vs H Q E h => ?_) (fun cdv A outer s H vs Q E hr h => ?_)
  · obtain ⟨x, u, rfl, _⟩ := h
    rfl
  · obtain ⟨x, u, rfl, m, q⟩ := h
    refine ⟨_, (pss_one (ps_if (pt_not (pt_val (pe_callB call_isi (by rfl) T.isinstance (by decide +kernel) (pa_cons (pv 0) (pa_cons (pe_gv T.gMisreading (by rfl)) pa_nil)))))
        (pss_one ps_never)
        pss_nil)), ?_⟩
    obtain ⟨dx, fs, hx⟩ := m.ins
    exact ⟨_, rfl, _, .ref CM, .ref CM, .ref CM, true, rfl, .own _, .base (.ins hx T.cl T.tA T.tB T.tC T.tD), T.mM, true, rfl, iteF q⟩
theorem ok_check_length {f : Addr} {fd : FuncData} (F : Fun K "check_length" "check_length" s_check_length f fd) (T : Tp K mg CM CJ) (D_iter : ItM P w K mg base 1 CM (snIter CM)) (D_get : Mf P w K mg base 2 CM "__getitem__" (spGet CM)) : FnOk P w K mg base CX0 4 f fd ["misreading"] (spChkL CM) := by
  refine F.ok sc_check_length (fun vs H Q E h => ?_) (fun cdv A outer s H vs Q E hr h => ?_)
  · obtain ⟨x, u, rfl, _⟩ := h
    rfl
  · obtain ⟨x, u, rfl, m, ok, q⟩ := h
    refine ⟨_, (pss_one (ps_if (pt_val (pe_callB (cr_any rfl) (by rfl) T.any (by decide +kernel) (pa_cons (pe_lc (own := [("letter", 1)]) (g := gName 1) (by rfl) sc_check_length.nd (pi_ownI D_iter hr (by decide) (pv 0)) (blkOk_by (own := [("letter", 1)]) (N := n_check_length) (sc := defScope s_check_length) (by decide +kernel)) (fun _ _ _ _ _ => (pg_name (i := 1) sc_check_length.nd rfl (.inl rfl))) (fun _ _ _ _ _ => pts_nil) (fun _ _ _ _ _ => (pe_cmpR op_gt (pe_callB call_len_str (by rfl) T.len (by decide +kernel) (pa_cons (pe_ixO D_get hr (by decide) (pv 0) (pv 1)) pa_nil)) (pe_gv T.gLONGEST_IMAGE (by rfl)) (nomark _)))) pa_nil)))
        (pss_one ps_never)
        pss_nil)), ?_⟩
    have few := ok.few
    have lk := lets_len (keysOf u)
    obtain ⟨dx0, fs0, hx0⟩ := m.ins
    refine ⟨_, rfl, x, dx0, _, rfl, hx0, fun k0 hk0 => ⟨x, u, rfl, m, fun it a ni hi ha => ⟨it, a, rfl, hi, upd_same, ?_⟩⟩⟩
    rw [dropH_upd ni]
    refine fun D nD => lc_it (walk_tup (K := K) (a := a) (xs := lets (keysOf u))) (fun i H2 => H2 D = some (.lst ((List.replicate i false).map V.bl)) ∧ Same H H2) ?_ ?_ ?_ ?_
    · exact ⟨upd_same, same_put (s := Same.refl H) nD⟩
    · rintro i H2 hi ⟨_, s2⟩
      exact .inl (.inl (s2 _ _ ha))
    · rintro i y H20 H2 hi ⟨hD, s2⟩ ⟨rfl, hy⟩
      obtain ⟨hi', rfl⟩ := lets_get hy
      have hc := List.getElem_mem hi'
      obtain ⟨s', es, n0, l8, _⟩ := ok.img _ hc
      have m2 := m.same2 s2
      obtain ⟨dx, a1, b1, c1, h1, _⟩ := m2.at_
      refine ⟨rfl, _, rfl, _, rfl, x, dx, _, rfl, h1, x, u, _, s', rfl, m2, hc, es, ?_⟩
      refine ⟨_, rfl, by rw [Sx_len, sizeLine_eq]; omega, _, _, rfl, rfl, ?_⟩
      have e0 : decide ((8 : Int) < ((Sx s').length : Int)) = false := decide_eq_false (by rw [Sx_len]; omega)
      refine ⟨_, hD, by rw [List.length_map, List.length_replicate, sizeLine_eq]; omega, ?_, fun b o e => ?_⟩
      · show upd _ _ (.lst (_ ++ [V.bl (decide ((8 : Int) < ((Sx s').length : Int)))])) D = _
        rw [upd_same, e0, List.replicate_succ', List.map_append]
        rfl
      · show upd H2 D _ b = _
        rw [upd_ne (ne_of_none e nD)]
        exact s2 _ _ e
    · rintro H2 ⟨hD, s2⟩
      refine ⟨D, _, rfl, SqL.of hD, false, ?_, iteF (q H2 s2)⟩
      have e0 : ∀ n : Nat, (List.replicate n false).any id = false := fun n => by
        induction n with
        | zero => rfl
        | succ n ih => rw [List.replicate_succ, List.any_cons, ih]; rfl
      rw [e0]
theorem ok_check_images {f : Addr} {fd : FuncData} (F : Fun K "check_images" "check_images" s_check_images f fd) (T : Tp K mg CM CJ) (D_check_misreading : Df P w K mg base 1 "check_misreading" (spChkM CM)) (D_check_length : Df P w K mg base 4 "check_length" (spChkL CM)) : FnOk P w K mg base CX0 5 f fd ["misreading"] (spChkL CM) := by
  refine F.ok sc_check_images (fun vs H Q E h => ?_) (fun cdv A outer s H vs Q E hr h => ?_)
  · obtain ⟨x, u, rfl, _⟩ := h
    rfl
  · obtain ⟨x, u, rfl, m, ok, q⟩ := h
    refine ⟨_, (pss_cons (ps_expr (pe_c D_check_misreading hr (by decide) (by rfl) (pa_cons (pv 0) pa_nil)))
      (pss_one (ps_expr (pe_c D_check_length hr (by decide) (by rfl) (pa_cons (pv 0) pa_nil))))), ?_⟩
    refine ⟨_, rfl, x, u, rfl, m, ?_⟩
    exact ⟨_, rfl, x, u, rfl, m, ok, fun H' s => q H' s⟩
theorem ok_image_pairs {f : Addr} {fd : FuncData} (F : Fun K "image_pairs" "image_pairs" s_image_pairs f fd) (T : Tp K mg CM CJ) (D_iter : ItM P w K mg base 1 CM (snIter CM)) (D_get : Mf P w K mg base 2 CM "__getitem__" (spGet CM)) : FnOk P w K mg base CX0 4 f fd ["misreading"] (spPairs CM) := by
  refine F.ok sc_image_pairs (fun vs H Q E h => ?_) (fun cdv A outer s H vs Q E hr h => ?_)
  · obtain ⟨x, u, rfl, _⟩ := h
    rfl
  · obtain ⟨x, u, rfl, m, ok, q⟩ := h
    refine ⟨_, (pss_one (ps_ret (pe_lc (own := [("letter", 1)]) (g := gName 1) (by rfl) sc_image_pairs.nd (pi_ownI D_iter hr (by decide) (pv 0)) (blkOk_by (own := [("letter", 1)]) (N := n_image_pairs) (sc := defScope s_image_pairs) (by decide +kernel)) (fun _ _ _ _ _ => (pg_name (i := 1) sc_image_pairs.nd rfl (.inl rfl))) (fun _ _ _ _ _ => pts_nil) (fun _ _ _ _ _ => (pe_tup (pa_cons (pe_ixO D_get hr (by decide) (pv 0) (pv 1)) (pa_cons (pv 1) pa_nil))))))), ?_⟩
    have few := ok.few
    have lk := lets_len (keysOf u)
    obtain ⟨dx0, fs0, hx0⟩ := m.ins
    refine ⟨_, rfl, x, dx0, _, rfl, hx0, fun k0 hk0 => ⟨x, u, rfl, m, fun it a ni hi ha => ⟨it, a, rfl, hi, upd_same, ?_⟩⟩⟩
    rw [dropH_upd ni]
    refine fun D nD => lc_it (walk_tup (K := K) (a := a) (xs := lets (keysOf u))) (fun i H2 => ∃ ys, Paired (PrT H2) ys ((pairsT u).take i) ∧ H2 D = some (.lst ys) ∧ Same H H2) ?_ ?_ ?_ ?_
    · exact ⟨[], .nil, upd_same, same_put (s := Same.refl H) nD⟩
    · rintro i H2 hi ⟨ys, _, _, s2⟩
      exact .inl (.inl (s2 _ _ ha))
    · rintro i y H20 H2 hi ⟨ys, pr, hD, s2⟩ ⟨rfl, hy⟩
      obtain ⟨hi', rfl⟩ := lets_get hy
      have hc := List.getElem_mem hi'
      obtain ⟨s', es, n0, l8, _⟩ := ok.img _ hc
      have m2 := m.same2 s2
      obtain ⟨dx, a1, b1, c1, h1, _⟩ := m2.at_
      have ly := prd_len pr
      rw [List.length_take] at ly
      have ep : (pairsT u)[i]? = some (s', (keysOf u)[i]) := by
        unfold pairsT
        rw [List.getElem?_map, List.getElem?_eq_getElem hi']
        show some ((lookT u _).getD [], _) = _
        rw [es]
        rfl
      refine ⟨rfl, _, rfl, _, rfl, x, dx, _, rfl, h1, x, u, _, s', rfl, m2, hc, es, _, rfl, by show 2 ≤ sizeLine; decide, fun p np => ?_⟩
      have s3 := same_put (s := Same.refl H2) (o := .tup [.str (Sx s'), .str (L1 (keysOf u)[i])]) np
      have hp : upd H2 p (.tup [.str (Sx s'), .str (L1 (keysOf u)[i])]) p = some (.tup [.str (Sx s'), .str (L1 (keysOf u)[i])]) := upd_same
      have hD3 := s3 _ _ hD
      generalize upd H2 p (.tup [.str (Sx s'), .str (L1 (keysOf u)[i])]) = H3 at s3 hp hD3 ⊢
      refine ⟨_, hD3, by rw [sizeLine_eq]; omega, ys ++ [.ref p], ?_, upd_same, ?_⟩
      · rw [List.take_add_one, ep]
        have up : ∀ {v : V} {q0 : Pr}, PrT H3 v q0 → PrT (upd H3 D (.lst (ys ++ [.ref p]))) v q0 := fun {v q0} ⟨c, e, h⟩ => ⟨c, e, by rw [upd_ne (ne_of h hD3 (fun z => nomatch z))]; exact h⟩
        exact (prd_imp pr fun _ _ z => up (z.same s3)).snoc (up ⟨p, rfl, hp⟩)
      · intro b o e
        rw [upd_ne (ne_of_none e nD)]
        exact s3 _ _ (s2 _ _ e)
    · rintro H2 ⟨ys, pr, hD, s2⟩
      rw [List.take_of_length_le (by rw [lk]; unfold pairsT; rw [List.length_map]; exact Nat.le_refl _)] at pr
      exact q D H2 s2 ⟨ys, hD, pr⟩
end
end V8
set_option Elab.async false
set_option linter.all false
set_option maxRecDepth 100000
set_option maxHeartbeats 4000000
/-! Such a dict whose keys are all texts is a dict of texts. -/
namespace L2
open PySem PySem.Spec PyProof.Rows MX
end L2
set_option Elab.async false
set_option linter.all false
set_option maxRecDepth 100000
set_option maxHeartbeats 4000000
/-! len(set(xs)), xs a list of any texts. -/
namespace SetT
open PySem PySem.Spec PyProof.Rows
/-- one more, unless it is there -/
def add1 (acc : List Str) (y : Str) : List Str := if y ∈ acc then acc else acc ++ [y]
/-- each once, as first met -/
def uqs (ys : List Str) : List Str := ys.foldl add1 []
theorem uqs_snoc (ys : List Str) (y : Str) : uqs (ys ++ [y]) = add1 (uqs ys) y := by
  unfold uqs
  rw [List.foldl_append]
  rfl
theorem mem_add1 {acc : List Str} {x y : Str} : x ∈ add1 acc y ↔ x ∈ acc ∨ x = y := by
  unfold add1
  split
  · rename_i h
    exact ⟨.inl, fun z => z.elim id fun e => e ▸ h⟩
  · rw [List.mem_append, List.mem_singleton]
theorem uqs_mem {x : Str} : ∀ {ys acc : List Str}, x ∈ ys.foldl add1 acc ↔ x ∈ acc ∨ x ∈ ys
  | [], acc => by simp
  | y :: ys, acc => by
    rw [List.foldl_cons, uqs_mem (ys := ys), mem_add1, List.mem_cons, or_assoc]
theorem mem_uqs {x : Str} {ys : List Str} : x ∈ uqs ys ↔ x ∈ ys := by
  unfold uqs
  rw [uqs_mem]
  simp
theorem nd_add1 {acc : List Str} {y : Str} (h : acc.Nodup) : (add1 acc y).Nodup := by
  unfold add1
  split
  · exact h
  · rename_i hn
    refine List.nodup_append.mpr ⟨h, by simp, fun a ha b hb e => hn ?_⟩
    rw [List.mem_singleton.mp hb] at e
    exact e ▸ ha
theorem nd_fold : ∀ {ys acc : List Str}, acc.Nodup → (ys.foldl add1 acc).Nodup
  | [], _, h => h
  | _ :: ys, _, h => nd_fold (ys := ys) (nd_add1 h)
theorem uqs_nd (ys : List Str) : (uqs ys).Nodup := nd_fold List.nodup_nil
theorem len_add1 (acc : List Str) (y : Str) : (add1 acc y).length = if y ∈ acc then acc.length else acc.length + 1 := by
  unfold add1
  split
  · rfl
  · rw [List.length_append]
    rfl
theorem len_fold : ∀ (ys acc : List Str), (ys.foldl add1 acc).length ≤ acc.length + ys.length
  | [], _ => Nat.le_refl _
  | y :: ys, acc => by
    have h1 := len_fold ys (add1 acc y)
    have h2 : (add1 acc y).length ≤ acc.length + 1 := by
      rw [len_add1]
      split <;> omega
    rw [List.foldl_cons, List.length_cons]
    omega
theorem uqs_len (ys : List Str) : (uqs ys).length ≤ ys.length := by
  have h := len_fold ys []
  show (ys.foldl add1 []).length ≤ ys.length
  simpa using h
end SetT
namespace L2
open PySem PySem.Spec PyProof.Rows SetT
end L2
set_option Elab.async false
set_option linter.all false
set_option maxRecDepth 100000
set_option maxHeartbeats 4000000
/-! Two readings of one call; a dict whose keys are texts taken as one. -/
namespace L2
open PySem PySem.Spec PyProof.Rows MX
section
variable {X : Cx} {f : Value} {r1 r2 : List V → Hp → VK → Prop} {q1 q2 : R2} {o : Value → Value → Sem Value} {e : Expr} {t : TE}
/-- either of two expressions' readings -/
theorem PE.or {t2 : TE} (h1 : PE X e t) (h2 : PE X e t2) : PE X e (fun σ H Q => t σ H Q ∨ t2 σ H Q) := by
  refine ⟨fun pins s σ H Q I q => ?_⟩
  rcases q with q | q
  · exact h1.run pins s σ H Q I q
  · exact h2.run pins s σ H Q I q
end
end L2
set_option Elab.async false
set_option linter.all false
set_option maxRecDepth 100000
set_option maxHeartbeats 4000000
/-! What an own instance is as a test: by an own __bool__; of either of two classes. -/
namespace L2
open PySem PySem.Spec PyProof.Rows
section
variable {X : Cx} {n k j : Nat} {CX : CXT} {C f : Addr} {fd : FuncData} {ps : List Str} {sp : Sp} {E : XK} {a : Expr} {ta : TE}
theorem tru_own0 (F : FnOk X.prog X.w X.K X.mg X.base CX n f fd ps sp) (hb : Binds X.K fd ps []) (hx : Passes CX X E) (o : Own X.K C "__bool__" f) (hr : Room n X.A) :
    TruR X (fun x H Q => ∃ b dx fs, x = .ref b ∧ H b = some (.ins C dx fs) ∧ sp [.ref b] H (fun v H' => ∃ c, v = .bl c ∧ Q c H') E) := by
  intro pins s σ H x v Q I rx h
  obtain ⟨b, dx, fs, rfl, ha, hs⟩ := h
  cases rx
  obtain ⟨od, J⟩ := inst_at I ha
  obtain ⟨m, hF⟩ := I.fr
  refine PySem.W.truthy_K hF I.ok.mod.kin J o.find o.fn (thn (run_own (Sub.here hr) F hb hx I (show Vals [V.ref b] [Value.ref b] from .cons rfl .nil) hs) fun v s1 q => ?_)
  obtain ⟨y, H', I', ry, c, rfl, q⟩ := q
  cases ry
  exact ⟨H', I', q⟩
theorem tru_own (c : Mf X.prog X.w X.K X.mg X.base k C "__bool__" sp) (hr : Room j X.A) (hk : k ≤ j) :
    TruR X (fun x H Q => ∃ b dx fs, x = .ref b ∧ H b = some (.ins C dx fs) ∧ sp [.ref b] H (fun v H' => ∃ c, v = .bl c ∧ Q c H') E0) := by
  obtain ⟨f, fd, ps, F, _, o, _, b⟩ := c.ex
  exact tru_own0 F b pass0 o (hr.mono hk)
theorem tru_or {r1 r2 : V → Hp → (Bool → Hp → Prop) → Prop} (h1 : TruR X r1) (h2 : TruR X r2) : TruR X (fun x H Q => r1 x H Q ∨ r2 x H Q) := by
  intro pins s σ H x v Q I rx h
  rcases h with h | h
  · exact h1 pins s σ H x v Q I rx h
  · exact h2 pins s σ H x v Q I rx h
theorem pt_tru {r : V → Hp → (Bool → Hp → Prop) → Prop} (ht : TruR X r) (ha : PE X a ta) (he : ∀ whole, isTrue a X.env whole = (do let v ← whole; standAt a.pos; holding [v] (truthy v)) := by intro _; rfl) : PT X a (fun σ H Q => ta σ H fun x H' => r x H' Q) := by
  refine ⟨fun pins s σ H Q I h => ?_⟩
  exact isTrue_plain (thn (ha.run pins s σ H _ I h) fun v s1 ⟨x, H1, I1, r1, q1⟩ => ht pins s1 σ H1 x v Q I1 r1 q1) (he _)
theorem call_or {f : Value} {r1 r2 : List V → Hp → VK → Prop} (h1 : CallR X f r1) (h2 : CallR X f r2) : CallR X f (fun xs H Q => r1 xs H Q ∨ r2 xs H Q) := by
  intro pins s σ H xs us Q I r h
  rcases h with h | h
  · exact h1 pins s σ H xs us Q I r h
  · exact h2 pins s σ H xs us Q I r h
end
end L2
set_option Elab.async false
set_option linter.all false
set_option maxRecDepth 100000
set_option maxHeartbeats 4000000
/-! not x, of an own instance with an own __bool__. -/
namespace L2
open PySem PySem.Spec PyProof.Rows
end L2
set_option Elab.async false
set_option linter.all false
set_option maxRecDepth 100000
set_option maxHeartbeats 4000000
/-! A text written backwards: x[::-1]. -/
namespace L2
open PySem PySem.Spec PyProof.Rows
def revS (z : Str) : Str := ⟨z.cps.toList.reverse.toArray⟩
theorem idx_rev (n : Nat) : Builtin.Str.strSliceIndices none none (-1) n = (List.range n).reverse := by
  have h : Builtin.Str.strSliceIndices none none (-1) n = sliceRange ((n : Int) - 1) (-1) (-1) := rfl
  rw [h, PySem.W.krv_sliceRange, PySem.W.krv_range]
def tRevS (te : TE) : TE := fun σ H Q => te σ H fun x H1 => ∃ z, x = .str z ∧ z.length ≤ sizeLine ∧ Q (.str (revS z)) H1
section
variable {X : Cx}
theorem pe_revS {e : Expr} {te : TE} {k : Nat} {p1 p2 p3 pos : Pos} (he : PE X e te) : PE X (.Subscript e (.Slice none none (some (.UnaryOp .USub (.Constant (.int 1) k p1) p2)) p3) pos) (tRevS te) := by
  refine ⟨fun pins s σ H Q I h => ?_⟩
  refine Subscript_ (thn (he.run pins s σ H _ I h) fun v s1 ⟨x, H1, I1, r1, q1⟩ => ?_)
  obtain ⟨z, ex, hz, q⟩ := q1
  subst ex
  obtain ⟨t, rfl⟩ := r1
  have hst : PO X (some (.UnaryOp .USub (.Constant (.int 1) k p1) p2)) (tPart (tUn (rU fun i => .int (-i)) (tC (.int 1)))) := po_some (pe_un un_neg pe_int)
  refine wpAny_Slice (thn (po_none.run pins s1 σ H1 (fun o H2 => o = none ∧ H2 = H1) I1 ⟨rfl, rfl⟩) fun vl s2 ⟨l, H2, I2, pl, el, e2⟩ => ?_)
  subst el e2
  refine thn (po_none.run pins s2 σ H2 (fun o H3 => o = none ∧ H3 = H2) I2 ⟨rfl, rfl⟩) fun vu s3 ⟨u, H3, I3, pu, eu, e3⟩ => ?_
  subst eu e3
  refine thn (hst.run pins s3 σ H3 (fun o H4 => o = some (-1) ∧ H4 = H3) I3 ⟨1, rfl, -1, rfl, rfl, rfl⟩) fun vs s4 ⟨o, H4, I4, ps, eo, e4⟩ => ?_
  subst eo e4
  have I5 : Inv X pins σ H4 { s4 with heap := s4.heap.push { cls := .type "slice", data := .fields #[vl, vu, vs] } } := I4.kept (t' := s4.toks) fun b ob q => Heap.get?_push_of_some _ q
  show wpAny (model X.prog X.w) X.A (subscriptTail e (.Slice none none (some (.UnaryOp .USub (.Constant (.int 1) k p1) p2)) p3) (.str z t) (.ref s4.heap.objs.size)) (EP X pins σ Q) X.xe { s4 with heap := s4.heap.push { cls := .type "slice", data := .fields #[vl, vu, vs] } }
  refine tail_any (ops := [.str z t, .ref s4.heap.objs.size]) (typeIs_str _ _ _) F.slot_str_getitem.lookup ?_ (by with_unfolding_all rfl)
  obtain ⟨os, hos, hcs, hds⟩ := Heap.IsSliceOf.new s4.heap vl vu vs
  obtain ⟨l, rfl, el⟩ := IsPart.raw pl
  obtain ⟨u, rfl, eu⟩ := IsPart.raw pu
  obtain ⟨st, rfl, es⟩ := IsPart.raw ps
  refine wpAny_getItem_str_slice (l := l) (u := u) (st := st) ⟨os, hos, hcs, hds⟩ (by rw [es]; rfl) ?_
  unfold sliceMade slicePicked
  rw [el, eu, es]
  show Made.post (if ((-1 : Int) == 1 && (Builtin.Str.strSliceIndices none none (-1) z.length).length == z.length) = true then Made.val (.str z t) else Made.str ⟨((Builtin.Str.strSliceIndices none none (-1) z.length).filterMap (z.cps[·]?)).toArray⟩) (EP X pins σ Q) _
  rw [if_neg (by simp), idx_rev, List.filterMap_reverse, show (List.range z.length).filterMap (z.cps[·]?) = z.cps.toList from PySem.W.krv_all z.cps]
  have ln : (⟨z.cps.toList.reverse.toArray⟩ : Str).length ≤ sizeLine := by
    show z.cps.toList.reverse.toArray.size ≤ _
    rw [List.size_toArray, List.length_reverse, Array.length_toList]
    exact hz
  exact ⟨ln, .str (revS z), H4, I5.tok _, ⟨_, rfl⟩, q⟩
end
end L2
set_option Elab.async false
set_option linter.all false
set_option maxRecDepth 100000
set_option maxHeartbeats 4000000
/-! sorted(xs), texts, any number of them. -/
namespace L2
open PySem PySem.Spec PyProof.Rows
end L2
set_option Elab.async false
set_option linter.all false
set_option maxRecDepth 100000
set_option maxHeartbeats 4000000
/-! An error raised while a dict is gone over: the dict is unlocked on the way out. -/
namespace L2
open PySem PySem.Spec PyProof.Rows MX
end L2
namespace L2
open PySem PySem.Spec PyProof.Rows MX
end L2
namespace L2
open PySem PySem.Spec PyProof.Rows MX
end L2
set_option Elab.async false
set_option linter.all false
set_option maxRecDepth 100000
set_option maxHeartbeats 4000000
/-! Own errors made by keywords. -/
namespace PySem
end PySem
namespace L2
open PySem PySem.Spec PyProof.Rows
end L2
set_option Elab.async false
set_option linter.all false
set_option maxRecDepth 100000
set_option maxHeartbeats 4000000
/-! Where no repr is under way: own classes made, methods, [ ], staticmethods, by defs that may raise. -/
namespace L2
open PySem PySem.Spec PyProof.Rows
section
variable {X : Cx} {C : CXT} {k j n : Nat} {f Cl p0 : Addr} {fd : FuncData} {ps ks : List Str} {sp : Sp} {E : XK} {m : Str} {o e : Expr} {es : List Expr} {kws : List Keyword} {pos apos : Pos} {ta tb : TE} {t tk : TA} {mc : Value}
/-- the def runs, wherever it is quiet -/
theorem runQ {A : Around} {pins : List (Addr × Obj)} {σ : St} {H : Hp} {s : Shared} {Q : VK} {us : List Value} {xs : List V} (F : FnG X.prog X.w X.K X.mg X.base C k f fd ps sp) (g : Quiet A) (sb : Sub X k A) (b : Binds X.K fd ps []) (out : Passes C X E)
    (I : Inv X pins σ H s) (v : Vals xs us) (h : sp xs H Q E) : wpAny (model X.prog X.w) A (call (.ref f) us) (EP X pins σ Q) X.xe s := by
  have en : Env0 X.prog X.w X.K X.mg X.base A X.stack s H := by
    have z := I.env0
    exact ⟨by rw [sb.fr]; exact z.frames, z.mod, z.bs, z.bsz, z.funs, z.frf, z.hok, z.bare⟩
  have many : us.length = ps.length := by
    rw [← v.length]
    exact F.count _ _ _ _ h
  have bd := b s us I.kIn (by rw [List.append_nil]; exact many)
  rw [List.append_nil] at bd
  refine wpAny_call (codeAny_mono (F.runs A X.stack s H ⟨us, []⟩ us xs Q E g sb.room en bd v h) fun x s2 q => ?_)
  match x, q with
  | .error er, q => exact out pins σ H s er s2 I q
  | .ok (.ret u), q => exact I.after q
  | .ok .next, q => exact q.elim
  | .ok .brk, q => exact q.elim
  | .ok .cont, q => exact q.elim
end
end L2
set_option Elab.async false
set_option linter.all false
set_option maxRecDepth 100000
set_option maxHeartbeats 4000000
/-! A list or a tuple, whichever it is, gone over. -/
namespace L2
open PySem PySem.Spec PyProof.Rows
/-- a list, or a tuple -/
def SqB (K : PySem.W.Frag) : Bool → Hp → Addr → List V → Prop
  | true, H, a, xs => SqL K H a xs
  | false, H, a, xs => SqT K H a xs
def ItB (K : PySem.W.Frag) : Bool → Addr → It
  | true, a => Itl K a
  | false, a => Itt K a
def ItEB (K : PySem.W.Frag) : Bool → Addr → It
  | true, a => Ite K a
  | false, a => ItTe K a
theorem walk_seq {K : PySem.W.Frag} {b : Bool} {a : Addr} {xs : List V} : Walk (ItB K b a) xs.length (fun H => SqB K b H a xs) (YAt xs) := by
  cases b with
  | true => exact walk_list
  | false => exact walk_tup
theorem walk_enumQ {K : PySem.W.Frag} {b : Bool} {a : Addr} {xs : List V} : Walk (ItEB K b a) xs.length (fun H => SqB K b H a xs) (fun i H v H' => ∃ T x, v = .ref T ∧ H T = none ∧ H' = upd H T (.tup [.int (i : Nat), x]) ∧ xs[i]? = some x) := by
  cases b with
  | false => exact walk_enumT
  | true => exact ⟨fun i _ hi q => ⟨xs, xs[i], q, by simp [hi]⟩, fun _ q => ⟨xs, q, Nat.le_refl _⟩, fun _ _ _ _ _ q y => by
      obtain ⟨T, x, e1, e2, e3, e4⟩ := y
      exact ⟨T, x, e1, e2, e3, e4 xs q⟩⟩
def iSeq (K : PySem.W.Frag) (i : Nat) : TI := fun σ H R => ∃ a b, σ[i]? = some (some (.ref a)) ∧ (∃ xs, SqB K b H a xs) ∧ R (ItB K b a) H
def iEnumQ (K : PySem.W.Frag) (i : Nat) : TI := fun σ H R => ∃ a b, σ[i]? = some (some (.ref a)) ∧ (∃ xs, SqB K b H a xs) ∧ R (ItEB K b a) H
section
variable {X : Cx} {tg l : Expr} {i : Nat}
theorem pi_seq (hl : PE X l (tVar i)) : PI X tg l (iSeq X.K i) := by
  refine ⟨fun pins s σ H R I h => ?_⟩
  obtain ⟨a, b, e, ⟨xs, hs⟩, r⟩ := h
  cases b with
  | true => exact (pi_list hl).run pins s σ H R I ⟨_, e, a, rfl, ⟨xs, hs⟩, r⟩
  | false => exact (pi_tup hl).run pins s σ H R I ⟨_, e, a, rfl, ⟨xs, hs⟩, r⟩
theorem pi_enumQ {e : Expr} {p pos tpos : Pos} {elts : List Expr} {kk : Nat} (hg : Gl X "enumerate") (hm : X.mg "enumerate" = none) (ha : PA X [e] (tCons (tVar i) tNil)) (hs : starEach [e] X.env = [(false, eval e X.env)] := by rfl) :
    PI X (.Tuple elts kk tpos) (.Call (.Name "enumerate" p) [e] [] pos) (iEnumQ X.K i) := by
  refine ⟨fun pins s σ H R I h => ?_⟩
  obtain ⟨a, b, ee, ⟨xs, hs2⟩, r⟩ := h
  cases b with
  | true => exact (pi_enum hg hm ha hs).run pins s σ H R I ⟨_, ee, a, xs, rfl, hs2, r⟩
  | false => exact (pi_enumT hg hm ha hs).run pins s σ H R I ⟨_, ee, a, xs, rfl, hs2, r⟩
end
theorem SqB.same {K : PySem.W.Frag} {b : Bool} {H H2 : Hp} {a : Addr} {xs : List V} (h : SqB K b H a xs) (s : Same H H2) : SqB K b H2 a xs := by
  cases b with
  | true => exact h.elim (fun h => .inl (h.elim (fun h => .inl (s _ _ h)) fun ⟨o, h⟩ => .inr ⟨o, s _ _ h⟩)) .inr
  | false => exact h.elim (fun h => .inl (h.elim (fun h => .inl (s _ _ h)) fun ⟨o, h⟩ => .inr ⟨o, s _ _ h⟩)) .inr
end L2
set_option Elab.async false
set_option linter.all false
set_option maxRecDepth 100000
set_option maxHeartbeats 4000000
/-! A list of anything and the empty list. -/
namespace L2
open PySem PySem.Spec PyProof.Rows
def rNeNil (K : PySem.W.Frag) : R2 := fun x y H Q => ∃ (a b : Addr) (xs : List V), x = .ref a ∧ y = .ref b ∧ SqL K H a xs ∧ SqL K H b [] ∧ Q (.bl (!xs.isEmpty)) H
theorem op_neNil {X : Cx} (hu : X.A.units < cLine) : OpR X (compareOp .NotEq) (rNeNil X.K) := by
  intro pins s σ H x y v u Q I rx ry h
  obtain ⟨a, b, xs, rfl, rfl, ha, hb, q⟩ := h
  obtain rfl : v = Value.ref a := rx
  obtain rfl : u = Value.ref b := ry
  obtain ⟨its, r1, p1, _⟩ := I.list ha
  obtain ⟨jts, r2, p2, _⟩ := I.list hb
  cases r2
  have l1 : s.heap.IsList a its.toArray := by
    obtain ⟨o, n, e, c, d, f⟩ := p1
    exact ⟨o, e, c, n, by first | exact d | exact f⟩
  have l2 : s.heap.IsList b ([] : List Value).toArray := by
    obtain ⟨o, n, e, c, d, f⟩ := p2
    exact ⟨o, e, c, n, by first | exact d | exact f⟩
  cases its with
  | nil =>
    cases r1
    exact SeqAt.RcNeAt.lists (e := fun _ => true) l1 l2 rfl hu (fun j h1 _ => absurd h1 (by simp)) _ _ _ _ ⟨.bl false, H, I, rfl, q⟩
  | cons t ts =>
    cases r1
    exact SeqAt.RcNeAt.lists_lengths l1 l2 (by simp) hu _ _ _ _ ⟨.bl true, H, I, rfl, q⟩
theorem op_neNilK {X : Cx} {K : PySem.W.Frag} (hK : X.K = K) (hu : X.A.units < cLine) : OpR X (compareOp .NotEq) (rNeNil K) := by
  subst hK
  exact op_neNil hu
end L2
set_option Elab.async false
set_option linter.all false
set_option maxRecDepth 100000
set_option maxHeartbeats 4000000
/-! dict(a list of pairs), the keys of any flat kind or tuples of such. -/
namespace MX
open PySem PySem.Spec PySem.SeqAt PyProof.Rows L2
abbrev Tri := NestedKey × Value × Value
section
variable {prog : Program} {w : World} {A : Around} {E : Value → Shared → Prop}
theorem DictN.moved {h h' : Heap} {d : Addr} {xs : List Tri} (m : DictN w h d xs) (hs : ∀ b o, h.get? b = some o → (∀ vs, o.data ≠ .fields vs) → h'.get? b = some o) : DictN w h' d xs := by
  obtain ⟨o, es, ep, ho, hc, hd, he, his, nd⟩ := m
  refine ⟨o, es, ep, hs _ _ ho (fun vs z => by rw [hd] at z; cases z), hc, hd, he, fun x hx => ⟨NestedIs.at (fun b ob vs n hb hc => hs b ob hb fun vs2 z => by rw [hc] at z; cases z) x.1 _ (his x hx).1, (his x hx).2⟩, nd⟩
theorem DictN.new (h : Heap) : DictN w (h.push { cls := .type "dict", data := .dict #[] }) h.objs.size [] := ⟨_, #[], 0, Heap.get?_push_size _ rfl, ⟨rfl, rfl, rfl⟩, rfl, rfl, (fun _ z => nomatch z), List.nodup_nil⟩
/-- what a pair of the list is -/
def PrN (h : Heap) (b : Addr) (q : Tri) : Prop := IsTup h b #[q.2.1, q.2.2] ∧ NestedIs h q.1 q.2.1 ∧ q.1.depth ≤ 8
theorem PrN.moved {h h' : Heap} {b : Addr} {q : Tri} (p : PrN h b q) (hs : ∀ b o, h.get? b = some o → (∀ vs, o.data ≠ .fields vs) → h'.get? b = some o) : PrN h' b q := by
  obtain ⟨⟨o, ho, hc, n, hd⟩, i, d⟩ := p
  exact ⟨⟨o, hs _ _ ho (fun vs z => by rw [hd] at z; cases z), hc, n, hd⟩, NestedIs.at (fun b ob vs n hb hc => hs b ob hb fun vs2 z => by rw [hc] at z; cases z) _ _ i, d⟩
theorem PrN.put {h h' : Heap} {d b : Addr} {q : Tri} {o : Obj} {es : Array DictEntry} {ep : Nat} (p : PrN h b q) (ho : h.get? d = some o) (hd : o.data = .dict es ep) (hs : Heap.SameBut d h h') : PrN h' b q := by
  have mv : ∀ c oc vs n, h.get? c = some oc → oc.data = .seq vs n → h'.get? c = some oc := fun c oc vs n hc hdc => hs.extBut c oc (fun e => by
    subst e
    rw [ho] at hc
    cases hc
    rw [hd] at hdc
    cases hdc) hc
  obtain ⟨⟨o2, ho2, hc2, n2, hd2⟩, i, dp⟩ := p
  exact ⟨⟨o2, mv _ _ _ _ ho2 hd2, hc2, n2, hd2⟩, NestedIs.at (fun b ob vs n hb hc => mv b ob vs n hb hc) _ _ i, dp⟩
end
end MX
namespace L2
open PySem PySem.Spec PyProof.Rows MX
end L2
set_option Elab.async false
set_option linter.all false
set_option maxRecDepth 100000
set_option maxHeartbeats 4000000
/-! Dicts whose keys are None and tuples: read while they are gone over; one pair displayed; not in. -/
namespace L2
open PySem PySem.Spec PyProof.Rows MX
/-- such a dict, locked or not -/
structure MixR (w : World) (H : Hp) (a : Addr) (kvs : List (NestedKey × V × V)) : Prop where
  rd : Rd H a (MixO w a kvs)
  keys : ∀ p ∈ kvs, KeyV H p.1 p.2.1
theorem MixD.rd {w : World} {H : Hp} {a : Addr} {kvs : List (NestedKey × V × V)} (m : MixD w H a kvs) : MixR w H a kvs := ⟨.inl m.at_, m.keys⟩
theorem MixR.same {w : World} {H H2 : Hp} {a : Addr} {kvs : List (NestedKey × V × V)} (m : MixR w H a kvs) (s : Same H H2) : MixR w H2 a kvs :=
  ⟨m.rd.imp (fun h => s _ _ h) fun ⟨o, h⟩ => ⟨o, s _ _ h⟩, fun p hp => (m.keys p hp).same s⟩
section
variable {X : Cx} {pins : List (Addr × Obj)} {σ : St} {H : Hp} {s : Shared} {k : NestedKey} {x v : V} {u r : Value} {a : Addr} {kvs : List (NestedKey × V × V)} {A : Around} {E : Value → Shared → Prop}
theorem MixR.dict (I : Inv X pins σ H s) (m : MixR X.w H a kvs) : kvs.length ≤ sizeLine ∧ (a == sysModules) = false ∧ ∃ xs, PairM kvs xs ∧ DictN X.w s.heap a xs := by
  obtain ⟨⟨few, hd, xs, p, o, es, ep, h1, h2, h3, h4, h5⟩, _, _⟩ := (show ObjOk X.prog X.w H s.heap a (MixO X.w a kvs) from m.rd.ok I.hok)
  refine ⟨few, hd, xs, p, o, es, ep, h1, h2, h3, h4, PairM.keysN p I m.keys, h5⟩
end
end L2
set_option Elab.async false
set_option linter.all false
set_option maxRecDepth 100000
set_option maxHeartbeats 4000000
/-! d[k] in terms, for dicts of None and tuples, locked or not; what is put stays for readers. -/
namespace L2
open PySem PySem.Spec PyProof.Rows MX
end L2
set_option Elab.async false
set_option linter.all false
set_option maxRecDepth 100000
set_option maxHeartbeats 8000000
set_option pp.maxSteps 900
/-! A meeting in which a row of one side has one of some labels. -/
namespace V8
open PySem PySem.Spec PyProof.Rows L2 MZ
abbrev s_meeting_with : Stmt := topS 59
theorem sc_meeting_with : FnScope ["meetings", "side", "labels", "place", "taker", "label", "target"] ["meetings", "side", "labels"] (defScope s_meeting_with) := ⟨rfl, rfl, rfl, by decide +kernel, rfl, by decide +kernel, by decide +kernel⟩
theorem op_in_seqK {X : Cx} {K : PySem.W.Frag} (hK : X.K = K) : OpR X (compareOp .In) (rIn K false) := by
  subst hK
  exact op_in_seq
def sideW (t : Bool) (w : List Nat × List Nat) : List Nat := if t = true then w.1 else w.2
theorem side_put (t a : Bool) (l : Nat) (w : List Nat × List Nat) (c : Nat) : c ∈ sideW t (put a l w) ↔ c ∈ sideW t w ∨ (a = t ∧ c = l) := by
  unfold sideW put
  cases t <;> cases a <;> simp
theorem side_app (t : Bool) (a b : List Nat × List Nat) : sideW t (a.1 ++ b.1, a.2 ++ b.2) = sideW t a ++ sideW t b := by
  unfold sideW
  cases t <;> rfl
/-- a label in a row of a way was taken at a step -/
theorem way_has {P S : List Pr} {o q : Pl} {v : List Nat × List Nat} (h : Way P S o q v) {t : Bool} {c : Nat} (hc : c ∈ sideW t v) : ∃ p w m u, Way P S o p w ∧ m ∈ moves P S p ∧ m.1 = t ∧ m.2.1 = c ∧ Way P S m.2.2 q u := by
  induction h with
  | nil =>
    unfold sideW at hc
    cases t <;> cases hc
  | @step p w a l q k m ih =>
    rcases (side_put t a l w c).mp hc with z | ⟨z1, z2⟩
    · obtain ⟨p1, w1, m1, u, k1, hm, e1, e2, k2⟩ := ih z
      exact ⟨p1, w1, m1, _, k1, hm, e1, e2, k2.step m⟩
    · exact ⟨p, w, (a, l, q), _, k, m, z1, z2.symm, .nil⟩
theorem sideV_eq (a b : Bool) : decide (V.str (sideS a) = V.str (sideS b)) = decide (a = b) := by
  cases a <;> cases b <;> decide +kernel
theorem lets_flat (ls : List Nat) : (lets ls).all flatV = true := by
  induction ls with
  | nil => rfl
  | cons c r ih => exact ih
theorem inV_lets (c : Nat) (ls : List Nat) : inV (.str (L1 c)) (lets ls) = decide (c ∈ ls) := by
  induction ls with
  | nil => rfl
  | cons d r ih =>
    show (eqV (.str (L1 d)) (.str (L1 c)) || inV (.str (L1 c)) (lets r)) = _
    rw [ih, Bool.eq_iff_iff, Bool.or_eq_true, decide_eq_true_iff, decide_eq_true_iff, List.mem_cons]
    have e : eqV (.str (L1 d)) (.str (L1 c)) = true ↔ c = d := by
      show decide _ = true ↔ _
      rw [decide_eq_true_iff]
      constructor
      · intro h
        have h2 : Sx [d] = Sx [c] := h
        exact ((List.cons.inj (Sx_inj h2)).1).symm
      · intro h
        rw [h]
    rw [e]
def NoW (P S : List Pr) (t : Bool) (ls : List Nat) : Prop := ∀ v, Way P S .start .fin v → ∀ c ∈ sideW t v, c ∉ ls
/-- the steps of a side that take one of some labels, from each place -/
noncomputable def withB (P S : List Pr) (t : Bool) (ls : List Nat) (_ : Pl) (m : Mo) : Bool := (decide (m.1 = t) && decide (m.2.1 ∈ ls)) && livesB P S m.2.2
noncomputable def withsW (P S : List Pr) (t : Bool) (ls : List Nat) : List (Pl × Mo) := (placesQ P S).flatMap fun p => ((moves P S p).filter (withB P S t ls p)).map fun m => (p, m)
def goneW (P S : List Pr) (p : Pl) (m : Mo) : List Nat × List Nat := ((put m.1 m.2.1 (wayTo (waysW P S .start) p)).1 ++ (wayTo (waysW P S m.2.2) .fin).1, (put m.1 m.2.1 (wayTo (waysW P S .start) p)).2 ++ (wayTo (waysW P S m.2.2) .fin).2)
/-- the meeting that is told, as the program finds it -/
noncomputable def withW (P S : List Pr) (t : Bool) (ls : List Nat) : Option (List Nat × List Nat) := (withsW P S t ls).head?.map fun z => goneW P S z.1 z.2
theorem withs_first {P S : List Pr} {t : Bool} {ls : List Nat} {i k : Nat} {p : Pl} {m : Mo} (hp : (placesQ P S)[i]? = some p) (hm : (moves P S p)[k]? = some m) (h : withB P S t ls p m = true)
    (no : ∀ j p', j < i → (placesQ P S)[j]? = some p' → ∀ m' ∈ moves P S p', withB P S t ls p' m' = false) (no2 : ∀ j m', j < k → (moves P S p)[j]? = some m' → withB P S t ls p m' = false) : withW P S t ls = some (goneW P S p m) := by
  obtain ⟨r, er⟩ := filter_first hm h no2
  obtain ⟨hi, ep⟩ := List.getElem?_eq_some_iff.mp hp
  have e0 : ((placesQ P S).take i).flatMap (fun p => ((moves P S p).filter (withB P S t ls p)).map fun m => (p, m)) = [] := List.flatMap_eq_nil_iff.mpr fun y hy => by
    obtain ⟨j, hj, ey⟩ := List.getElem_of_mem hy
    have hji : j < i := by rw [List.length_take] at hj; omega
    have e1 : (placesQ P S)[j]? = some y := by
      rw [List.getElem_take] at ey
      rw [List.getElem?_eq_getElem (by omega), ey]
    rw [List.filter_eq_nil_iff.mpr fun m' hm' => by rw [no j y hji e1 m' hm']; decide]
    rfl
  have e1 : withsW P S t ls = (p, m) :: (r.map (fun m => (p, m)) ++ ((placesQ P S).drop (i + 1)).flatMap (fun p => ((moves P S p).filter (withB P S t ls p)).map fun m => (p, m))) := by
    unfold withsW
    conv => lhs; rw [← List.take_append_drop i (placesQ P S), List.flatMap_append, e0, List.drop_eq_getElem_cons hi, List.flatMap_cons, ep, er]
    rfl
  unfold withW
  rw [e1]
  rfl
def spMeetW (K : PySem.W.Frag) (ω : World) (aS aE aV CM : Addr) : Sp := fun vs H Q _ => ∃ (x y : Addr) (t : Bool) (ls : List Nat) (P S : List Pr) (Qs L R : List Pl) (W : WyL), vs = [.ref x, .str (sideS t), .ref y] ∧ MeeA K ω CM P S Qs L R W H x ∧ CnH K aS aE aV H ∧ PrOk P ∧ PrOk S ∧ (∀ q ∈ P, q.1 ≠ []) ∧ SqT K H y (lets ls) ∧
  (NoW P S t ls → ∀ H', Same H H' → Q .non H') ∧ ∀ (e : Addr) (v : List Nat × List Nat) (H' : Hp), Same H H' → WyT H' e v → Way P S .start .fin v → (∃ c ∈ sideW t v, c ∈ ls) → wlen v ≤ 261 → withW P S t ls = some v → Q (.ref e) H'
section
variable {P : Program} {w : World} {K : PySem.W.Frag} {mg : Str → Option Value} {base : Heap} {aS aE aV CM : Addr}
theorem ok_meetW {f : Addr} {fd : FuncData} (F : Fun K "meeting_with" "meeting_with" s_meeting_with f fd) (T : Tn K mg aS aE aV CM) (D_with_label : Df P w K mg base 1 "with_label" spLabel) (D_ended : Df P w K mg base 3 "ended" (spEnded K w aS aE aV CM)) : FnOk P w K mg base CX0 4 f fd ["meetings", "side", "labels"] (spMeetW K w aS aE aV CM) := by
  refine F.ok sc_meeting_with (fun vs H Q E h => ?_) (fun cdv A outer s H vs Q E hr h => ?_)
  · obtain ⟨x, y, t, ls, P, S, Qs, L, R, W, rfl, _⟩ := h
    rfl
  · obtain ⟨x, y, t, ls, P1, S1, Qs, L, R, W, rfl, ⟨⟨dx, mv, ld, wd, hx, ⟨vs, kvs, hd, kyv, pk⟩, lv, wy, nml, nmw⟩, bf, br, few, eqQ⟩, cn, okP, okS, nP, hy, qn, qf⟩ := h
    refine ⟨_, (pss_cons (ps_lock (ps_for PassesOwn.never rfl (pi_keysXt (w := w) rfl (pe_fldK (K := K) rfl (pv 0) rfl)) (pg_name (i := 3) sc_meeting_with.nd rfl (.inl rfl))
        (pss_one (ps_for PassesOwn.never rfl (pi_list (pe_dgetY (w := w) (K := K) rfl rfl (hu_of hr) (pe_fldK (K := K) rfl (pv 0) rfl) (pv 3) (fun _ _ => rfl))) (pg_tup (by rfl) (pgs_cons (pg_name (i := 4) sc_meeting_with.nd rfl (.inl rfl)) (pgs_cons (pg_name (i := 5) sc_meeting_with.nd rfl (.inl rfl)) (pgs_cons (pg_name (i := 6) sc_meeting_with.nd rfl (.inl rfl)) pgs_nil))))
          (pss_one (ps_if (PW.pt (pw_and (pt_cmpR op_eq (pv 4) (pv 1) (nomark _)) (pw_and (pt_cmpR (op_in_seqK (K := K) rfl) (pv 5) (pv 2) rfl) (pw_and1 (pt_cmp (pc_dinY (w := w) (K := K) rfl rfl (hu_of hr) (pv 6) (pe_fldK (K := K) rfl (pv 0) rfl)))))))
            (pss_one (ps_ret (pe_c D_ended hr (by decide) (by rfl) (pa_cons (pv 0) (pa_cons (pe_c D_with_label hr (by decide) (by rfl) (pa_cons (pe_dgetY (w := w) (K := K) rfl rfl (hu_of hr) (pe_fldK (K := K) rfl (pv 0) rfl) (pv 3) (fun _ _ => rfl)) (pa_cons (pv 4) (pa_cons (pv 5) pa_nil)))) (pa_cons (pv 6) pa_nil))))))
            pss_nil))))))
      (pss_one (ps_ret pe_non))), ?_⟩
    have lkv := prd_len pk
    have eW := wy.2.2.2
    have lvs := prd_len kyv
    have lv0 : Liv P1 S1 L ∧ ∀ p ∈ Qs, ∀ v, Way P1 S1 p .fin v → p ∈ L := ⟨lv.liv, lv.all⟩
    refine ⟨mv, _, hd, True.intro, fun od => ⟨_, rfl, x, CM, dx, _, V.ref mv, rfl, ?_, T.cl, T.n1, fM_m mv ld wd, mv, od, vs, kvs, rfl, upd_same, ?_⟩⟩
    · rw [upd_ne (ne_of hx hd (fun z => nomatch z))]
      exact hx
    have sf : ∀ c u, H c = some u → c ≠ mv → upd H mv (.frz od (DX w mv vs kvs)) c = some u := fun c u e n => by
      rw [upd_ne n]
      exact e
    have back : ∀ {H' : Hp}, Same (upd H mv (.frz od (DX w mv vs kvs))) H' → Same H (upd H' mv (DX w mv vs kvs)) := fun {H'} s b o e => by
      by_cases hb : b = mv
      · rw [hb, upd_same]
        rw [hb, hd] at e
        exact e
      · rw [upd_ne hb]
        exact s _ _ (sf _ _ e hb)
    have ndK : (kvs.map (·.1)).Nodup := by
      rw [keysM pk]
      exact map_nd bf.nd
    have upS : ∀ {y : Addr} {xs : List V}, SqT K H y xs → SqT K (upd H mv (.frz od (DX w mv vs kvs))) y xs := fun e => sq_dx e hd
    have upT : ∀ {y : Addr} {xs : List V}, H y = some (.tup xs) → upd H mv (.frz od (DX w mv vs kvs)) y = some (.tup xs) := fun e => sf _ _ e (ne_of e hd (fun z => nomatch z))
    have upL : ∀ {y : Addr} {xs : List V}, H y = some (.lst xs) → upd H mv (.frz od (DX w mv vs kvs)) y = some (.lst xs) := fun e => sf _ _ e (ne_of e hd (fun z => nomatch z))
    have pk1 : Paired (MvD K P1 S1 (upd H mv (.frz od (DX w mv vs kvs)))) kvs Qs := prd_imp pk fun _ _ ⟨e, d, xs, e2, h1, h2⟩ => ⟨e, d, xs, e2, upL h1, prd_imp h2 fun _ _ ⟨c, b, e3, h3, h4⟩ => ⟨c, b, e3, upT h3, upS h4⟩⟩
    have kyv1 : KyA K (upd H mv (.frz od (DX w mv vs kvs))) vs kvs := prd_imp kyv fun _ _ z => upS z
    have me1 : MeeR K w CM P1 S1 Qs L R W (upd H mv (.frz od (DX w mv vs kvs))) x := by
      obtain ⟨⟨as, ks, h1, ky1, h2⟩, h3, h4⟩ := lv
      obtain ⟨⟨a2, k2, h5, ky2, h6⟩, h7, h8, h9⟩ := wy
      exact ⟨⟨dx, mv, ld, wd, sf _ _ hx (ne_of hx hd (fun z => nomatch z)), ⟨vs, kvs, .inr ⟨od, upd_same⟩, kyv1, pk1⟩, ⟨⟨as, ks, sf _ _ h1 (Ne.symm nml), prd_imp ky1 fun _ _ z => upS z, h2⟩, h3, h4⟩, ⟨⟨a2, k2, sf _ _ h5 (Ne.symm nmw), prd_imp ky2 fun _ _ z => upS z, prd_imp h6 fun _ _ ⟨e, c, e2, h⟩ => ⟨e, c, e2, upT h⟩⟩, h7, h8, h9⟩⟩, bf, br, few⟩
    have cn1 : CnH K aS aE aV (upd H mv (.frz od (DX w mv vs kvs))) := ⟨upS cn.st, upS cn.en, upS cn.ev⟩
    have hmv1 : upd H mv (.frz od (DX w mv vs kvs)) mv = some (.frz od (DX w mv vs kvs)) := upd_same
    have hyU := upS hy
    clear upT upS upL pk cn hx sf lv kyv
    generalize upd H mv (.frz od (DX w mv vs kvs)) = H1 at back pk1 me1 cn1 hmv1 kyv1 hyU ⊢
    have QR : ∀ p, p ∈ Qs → p ∈ R := fun p hp => (br.all p).mpr ((bf.all p).mp hp)
    have lvAll : ∀ p ∈ Qs, ∀ v, Way P1 S1 p .fin v → p ∈ L := lv0.2
    have hy1 : SqT K H1 y (lets ls) := hyU
    refine for_it (walk_keysX (w := w) (d := mv) (o := od) (as := vs) (kvs := kvs)) (fun i σ H4 => (∃ v3 v4 v5 v6 : Option V, σ = [some (.ref x), some (.str (sideS t)), some (.ref y), v3, v4, v5, v6]) ∧ Same H1 H4 ∧ ∀ j p, j < i → Qs[j]? = some p → ∀ m ∈ moves P1 S1 p, m.1 = t → m.2.1 ∈ ls → m.2.2 ∉ L) ?_ ?_ ?_ ?_
    · exact ⟨⟨_, _, _, _, rfl⟩, Same.refl _, fun j p hj => absurd hj (Nat.not_lt_zero _)⟩
    · rintro i σ H4 hi ⟨_, s4, _⟩
      exact s4 _ _ hmv1
    · rintro i z σ H40 H4 hi ⟨⟨v3, v4, v5, v6, rfl⟩, s4, no⟩ ⟨rfl, qk, hbk, rfl⟩
      obtain ⟨⟨k, v⟩, hkv, hqk0⟩ := prd_at kyv1 hbk
      obtain ⟨p, hp, ek, ml⟩ := prd_at pk1 hkv
      have ek : k = plK p := ek
      subst ek
      have hqk : PlT K H4 qk p := sq_same hqk0 s4
      have hpQ : p ∈ Qs := List.mem_of_getElem? hp
      have me4 := me1.same s4
      obtain ⟨⟨dx1, mv1, ld1, wd1, hx1, am1, lv1, wy1⟩, _, _, _⟩ := id me4
      obtain ⟨vs1, kv1, v1', hr1, hky1, hv1, d0, xs, ev, hxs, prx⟩ := all_at am1 bf.nd hpQ
      subst ev
      have lx := prd_len prx
      refine ⟨_, rfl, x, CM, dx1, _, V.ref mv1, rfl, hx1, T.cl, T.n1, fM_m mv1 ld1 wd1, _, rfl, mv1, _, rfl, ⟨vs1, kv1, plK p, qk, hr1, hky1, rfl, hqk, hv1.symm⟩, d0, rfl, ⟨_, SqL.of hxs⟩, ?_⟩
      refine for_it (walk_list (K := K) (a := d0) (xs := xs)) (fun i2 σ H5 => (∃ v4 v5 v6 : Option V, σ = [some (.ref x), some (.str (sideS t)), some (.ref y), some (.ref qk), v4, v5, v6]) ∧ Same H4 H5 ∧ ∀ k m, k < i2 → (moves P1 S1 p)[k]? = some m → m.1 = t → m.2.1 ∈ ls → m.2.2 ∉ L) ?_ ?_ ?_ ?_
      · exact ⟨⟨_, _, _, rfl⟩, Same.refl _, fun k m hk => absurd hk (Nat.not_lt_zero _)⟩
      · rintro i2 σ H5 hi2 ⟨_, s5, _⟩
        exact SqL.of (s5 _ _ hxs)
      · rintro i2 z2 σ H50 H5 hi2 ⟨⟨v4, v5, v6, rfl⟩, s5, no5⟩ ⟨rfl, hz2⟩
        obtain ⟨m, hm, mo⟩ := prd_at prx hz2
        obtain ⟨c, b4, rfl, hc5, hb5⟩ := mo.same s5
        have hmm : m ∈ moves P1 S1 p := List.mem_of_getElem? hm
        have me5 := me4.same s5
        have cn5 := (cn1.same s4).same s5
        have hy5 := sq_same hy1 (fun b o e => s5 _ _ (s4 _ _ e))
        obtain ⟨⟨dx2, mv2, ld2, wd2, hx2, am2, lv2, wy2⟩, _, _, _⟩ := id me5
        obtain ⟨al, kl, hl2, hkl, kL⟩ := lv2.at_
        have next : (m.1 = t → m.2.1 ∈ ls → m.2.2 ∉ L) → ∀ k m', k < i2 + 1 → (moves P1 S1 p)[k]? = some m' → m'.1 = t → m'.2.1 ∈ ls → m'.2.2 ∉ L := fun z k m' hk e => by
          by_cases hk2 : k < i2
          · exact no5 k m' hk2 e
          · have : k = i2 := by omega
            subst this
            rw [hm] at e
            cases e
            exact z
        refine ⟨c, _, rfl, .inl (.inl hc5), rfl, _, _, rfl, _, _, rfl, _, _, rfl, rfl, ?_⟩
        refine ⟨_, rfl, _, rfl, rfl, _, rfl, ?_⟩
        rw [sideV_eq]
        by_cases e1 : m.1 = t
        rotate_left
        · rw [decide_eq_false e1]
          exact iteF (iteF ⟨⟨_, _, _, rfl⟩, s5, next fun z => absurd z e1⟩)
        rw [decide_eq_true e1]
        refine iteT ⟨_, rfl, _, rfl, y, lets ls, rfl, .inr hy5, rfl, lets_flat ls, _, rfl, ?_⟩
        rw [if_neg (by decide), inV_lets]
        by_cases e2 : m.2.1 ∈ ls
        rotate_left
        · rw [decide_eq_false e2]
          exact iteF (iteF ⟨⟨_, _, _, rfl⟩, s5, next fun _ z => absurd z e2⟩)
        rw [decide_eq_true e2]
        refine iteT ⟨_, rfl, _, rfl, x, CM, dx2, _, V.ref ld2, rfl, hx2, T.cl, T.n2, fM_l mv2 ld2 wd2, ld2, _, rfl, DGetY.t (k := plK m.2.2) hl2 hkl hb5, _, rfl, ?_⟩
        rw [keysP_is kL]
        by_cases hin : m.2.2 ∈ L
        rotate_left
        · rw [decide_eq_false hin]
          exact iteF ⟨⟨_, _, _, rfl⟩, s5, next fun _ _ => hin⟩
        rw [decide_eq_true hin]
        refine iteT ?_
        have hqk5 := sq_same hqk s5
        obtain ⟨aw, kw, cw, hw1, hwk, hw2, hw3, kw4, lw5⟩ := wys_at wy2 br.nd (QR p hpQ)
        have lw : (wayTo W p).1.length + (wayTo W p).2.length ≤ 120 := lw5
        refine ⟨_, rfl, _, rfl, x, CM, dx2, _, V.ref wd2, rfl, hx2, T.cl, T.n3, fM_w mv2 ld2 wd2, _, rfl, wd2, _, rfl, (by rw [← hw2]; exact DGetY.t (k := plK p) hw1 hwk hqk5), _, rfl, _, rfl, cw, wayTo W p, m.1, m.2.1, rfl, hw3, by omega, by omega, fun ca H6 s6 hca => ?_⟩
        have hmm2 : (m.1, m.2.1, m.2.2) ∈ moves P1 S1 p := hmm
        have kst : Way P1 S1 .start m.2.2 (put m.1 m.2.1 (wayTo W p)) := kw4.step hmm2
        have l6 : wlen (put m.1 m.2.1 (wayTo W p)) ≤ 121 := by
          have := wput_len m.1 m.2.1 (wayTo W p)
          unfold wlen at this ⊢
          omega
        have mQ : m.2.2 ∈ Qs := (bf.all _).mpr ⟨_, kst⟩
        obtain ⟨vl, kvl⟩ := lv0.1.live _ hin
        refine ⟨_, rfl, x, ca, b4, P1, S1, Qs, L, R, W, put m.1 m.2.1 (wayTo W p), m.2.2, rfl, me5.same s6, cn5.same s6, hca, by omega, sq_same hb5 s6, mQ, ⟨vl, kvl⟩, okP, okS, fun e v H7 s7 kv hv lv7 ev => ?_⟩
        have s17 : Same H1 H7 := fun b o z => s7 _ _ (s6 _ _ (s5 _ _ (s4 _ _ z)))
        have hm7 := s17 _ _ hmv1
        refine ⟨hm7, qf e _ _ (back s17) ?_ (kst.trans kv) ⟨m.2.1, ?_, e2⟩ ?_ ?_⟩
        · show upd H7 mv _ e = _
          have hv2 : H7 e = some (.tup [.str (Sx ((put m.1 m.2.1 (wayTo W p)).1 ++ v.1)), .str (Sx ((put m.1 m.2.1 (wayTo W p)).2 ++ v.2))]) := hv
          rw [upd_ne (fun z => by rw [z, hm7] at hv2; cases hv2)]
          exact hv2
        · rw [side_app]
          exact List.mem_append_left _ ((side_put _ _ _ _ _).mpr (.inr ⟨e1, rfl⟩))
        · have := wlen_app (put m.1 m.2.1 (wayTo W p)) v
          omega
        · have yes : withB P1 S1 t ls p m = true := by
            unfold withB
            rw [decide_eq_true e1, decide_eq_true e2, livesB_iff.mpr ⟨vl, kvl⟩]
            rfl
          have not : ∀ p' ∈ Qs, ∀ m' ∈ moves P1 S1 p', (m'.1 = t → m'.2.1 ∈ ls → m'.2.2 ∉ L) → withB P1 S1 t ls p' m' = false := fun p' hp' m' hm' z => by
            unfold withB
            by_cases y1 : m'.1 = t
            · by_cases y2 : m'.2.1 ∈ ls
              · have y3 : livesB P1 S1 m'.2.2 = false := Bool.eq_false_iff.mpr fun y => by
                  obtain ⟨v', kv'⟩ := livesB_iff.mp y
                  obtain ⟨_, kp⟩ := (bf.all p').mp hp'
                  have hm3 : (m'.1, m'.2.1, m'.2.2) ∈ moves P1 S1 p' := hm'
                  exact z y1 y2 (lvAll _ ((bf.all _).mpr ⟨_, kp.step hm3⟩) v' kv')
                rw [y3, Bool.and_false]
              · rw [decide_eq_false y2, Bool.and_false, Bool.false_and]
            · rw [decide_eq_false y1, Bool.false_and, Bool.false_and]
          rw [eqQ] at hp no not
          have z := withs_first hp hm yes (fun j p' hj e m' hm' => not p' (List.mem_of_getElem? e) m' hm' (no j p' hj e m' hm')) fun j m' hj e => not p (List.mem_of_getElem? hp) m' (List.mem_of_getElem? e) (no5 j m' hj e)
          rw [z]
          unfold goneW
          rw [ev, eW]
      · rintro σ H5 ⟨⟨v4, v5, v6, rfl⟩, s5, no5⟩
        refine ⟨⟨_, _, _, _, rfl⟩, fun b o e => s5 _ _ (s4 _ _ e), fun j p' hj e m hm => ?_⟩
        by_cases hj2 : j < i
        · exact no j p' hj2 e m hm
        · have : j = i := by omega
          subst this
          rw [hp] at e
          cases e
          obtain ⟨k, hk⟩ := List.getElem?_of_mem hm
          exact no5 k m (by rw [lx]; exact (List.getElem?_eq_some_iff.mp hk).1) hk
    · rintro σ H4 ⟨⟨v3, v4, v5, v6, rfl⟩, s4, no⟩
      refine ⟨s4 _ _ hmv1, qn (fun v kv c hc hls => ?_) _ (back s4)⟩
      obtain ⟨p, w0, m, u, k1, hm, e1, e2, k2⟩ := way_has kv hc
      have hpQ : p ∈ Qs := (bf.all p).mpr ⟨_, k1⟩
      have hm2 : (m.1, m.2.1, m.2.2) ∈ moves P1 S1 p := hm
      have mQ : m.2.2 ∈ Qs := (bf.all _).mpr ⟨_, k1.step hm2⟩
      obtain ⟨j, hj⟩ := List.getElem?_of_mem hpQ
      exact no j p (by rw [lvs, lkv]; exact (List.getElem?_eq_some_iff.mp hj).1) hj m hm e1 (e2 ▸ hls) (lvAll _ mQ _ k2)
end
end V8
set_option Elab.async false
set_option linter.all false
set_option maxRecDepth 100000
set_option maxHeartbeats 8000000
set_option pp.maxSteps 900
/-! Small functions of sound. -/
namespace V8
open PySem PySem.Spec PyProof.Rows L2 MZ
abbrev s_both : Stmt := topS 95
theorem sc_both : FnScope ["way", "more"] ["way", "more"] (defScope s_both) := ⟨rfl, rfl, rfl, by decide +kernel, rfl, by decide +kernel, by decide +kernel⟩
abbrev s_has_one_of : Stmt := topS 96
abbrev n_has_one_of : List Str := ["text", "letters", "letter"]
theorem sc_has_one_of : FnScope ["text", "letters", "letter"] ["text", "letters"] (defScope s_has_one_of) := ⟨rfl, rfl, rfl, by decide +kernel, rfl, by decide +kernel, by decide +kernel⟩
abbrev s_index_pairs : Stmt := topS 92
abbrev n_index_pairs : List Str := ["size", "first", "second"]
theorem sc_index_pairs : FnScope ["size", "first", "second"] ["size"] (defScope s_index_pairs) := ⟨rfl, rfl, rfl, by decide +kernel, rfl, by decide +kernel, by decide +kernel⟩
theorem acc_okL {H : Hp} {D : Addr} {zs : List V} {i : Nat} {y : V} (hz : zs[i]? = some y) (sm : zs.length < sizeLine) :
    ∃ acc, upd H D (.lst (zs.take i)) D = some (.lst acc) ∧ acc.length < sizeLine ∧ upd (upd H D (.lst (zs.take i))) D (.lst (acc ++ [y])) = upd H D (.lst (zs.take (i + 1))) := by
  refine ⟨_, upd_same, ?_, ?_⟩
  · rw [List.length_take]
    omega
  · rw [upd_upd, List.take_add_one, hz]
    rfl
theorem nxtS {D : Ends} {σ : L2.St} {H : Hp} (h : D.nx σ H) : tNext D σ H := h
def spBoth : Sp := fun vs H Q _ => ∃ (a b : Addr) (v u : List Nat × List Nat), vs = [.ref a, .ref b] ∧ WyT H a v ∧ WyT H b u ∧ wlen v ≤ 5000 ∧ wlen u ≤ 5000 ∧ ∀ e H', Same H H' → WyT H' e (v.1 ++ u.1, v.2 ++ u.2) → Q (.ref e) H'
def spHasOne (K : PySem.W.Frag) : Sp := fun vs H Q _ => ∃ (cs ls : List Nat) (y : Addr), vs = [.str (Sx cs), .ref y] ∧ cs.length ≤ 10000 ∧ SqT K H y (lets ls) ∧ ∀ H', Same H H' → Q (.bl (decide (∃ c ∈ cs, c ∈ ls))) H'
section
variable {P : Program} {w : World} {K : PySem.W.Frag} {mg : Str → Option Value} {base : Heap} {CM CJ : Addr}
theorem ok_both {f : Addr} {fd : FuncData} (F : Fun K "both" "both" s_both f fd) : FnOk P w K mg base CX0 1 f fd ["way", "more"] spBoth := by
  refine F.ok sc_both (fun vs H Q E h => ?_) (fun cdv A outer s H vs Q E hr h => ?_)
  · obtain ⟨a, b, v, u, rfl, _⟩ := h
    rfl
  · obtain ⟨a, b, v, u, rfl, ha, hb, lv, lu, q⟩ := h
    refine ⟨_, (pss_one (ps_ret (pe_tup (pa_cons (pe_op op_add_str (pe_ix (ix_tupK (K := K) rfl) (pv 0) pe_int (fun _ _ => rfl)) (pe_ix (ix_tupK (K := K) rfl) (pv 1) pe_int (fun _ _ => rfl))) (pa_cons (pe_op op_add_str (pe_ix (ix_tupK (K := K) rfl) (pv 0) pe_int (fun _ _ => rfl)) (pe_ix (ix_tupK (K := K) rfl) (pv 1) pe_int (fun _ _ => rfl))) pa_nil))))), ?_⟩
    have lv2 : v.1.length + v.2.length ≤ 5000 := lv
    have lu2 : u.1.length + u.2.length ≤ 5000 := lu
    refine ⟨_, rfl, a, _, _, _, rfl, rfl, .inl (.inl ha), atI_nat (j := 0) rfl, _, rfl, b, _, _, _, rfl, rfl, .inl (.inl hb), atI_nat (j := 0) rfl, _, _, rfl, rfl, by rw [Sx_len, Sx_len, sizeLine_eq]; omega, _, rfl, a, _, _, _, rfl, rfl, .inl (.inl ha), atI_nat (j := 1) rfl, _, rfl, b, _, _, _, rfl, rfl, .inl (.inl hb), atI_nat (j := 1) rfl, _, _, rfl, rfl, by rw [Sx_len, Sx_len, sizeLine_eq]; omega, by show 2 ≤ sizeLine; decide, fun e ne => ?_⟩
    refine q e _ (same_put (s := Same.refl H) ne) ?_
    show upd _ _ _ _ = _
    rw [upd_same, Sx_app, Sx_app]
theorem ok_hasOne {f : Addr} {fd : FuncData} (F : Fun K "has_one_of" "has_one_of" s_has_one_of f fd) (T : Tp K mg CM CJ) : FnOk P w K mg base CX0 1 f fd ["text", "letters"] (spHasOne K) := by
  refine F.ok sc_has_one_of (fun vs H Q E h => ?_) (fun cdv A outer s H vs Q E hr h => ?_)
  · obtain ⟨cs, ls, y, rfl, _⟩ := h
    rfl
  · obtain ⟨cs, ls, y, rfl, lc, hy, q⟩ := h
    refine ⟨_, (pss_one (ps_ret (pe_callB (cr_any rfl) (by rfl) T.any (by decide +kernel) (pa_cons (pe_lc (own := [("letter", 2)]) (g := gName 2) (by rfl) sc_has_one_of.nd (pi_str (pv 0)) (blkOk_by (own := [("letter", 2)]) (N := n_has_one_of) (sc := defScope s_has_one_of) (by decide +kernel)) (fun _ _ _ _ _ => (pg_name (i := 2) sc_has_one_of.nd rfl (.inl rfl))) (fun _ _ _ _ _ => pts_nil) (fun _ _ _ _ _ => (pe_cmpR (op_in_seqK (K := K) rfl) (pv 2) (pv 1) rfl))) pa_nil)))), ?_⟩
    have hz : ∀ (i : Nat) (c : Nat), cs[i]? = some c → ((cs.map fun c => decide (c ∈ ls)).map V.bl)[i]? = some (V.bl (decide (c ∈ ls))) := fun i c h => by
      rw [List.getElem?_map, List.getElem?_map, h]
      rfl
    have hlen : ((cs.map fun c => decide (c ∈ ls)).map V.bl).length = cs.length := by rw [List.length_map, List.length_map]
    refine ⟨_, rfl, Sx cs, rfl, fun D nD => lc_it walk_str (fun i H2 => H2 = upd H D (.lst (((cs.map fun c => decide (c ∈ ls)).map V.bl).take i))) rfl (fun _ _ _ _ => trivial) ?_ ?_⟩
    · rintro i z H2 H2' hi rfl ⟨rfl, c, hc0, rfl⟩
      have hc1 := sx_at hc0
      have hy2 := sq_same hy (same_put (s := Same.refl H) (o := .lst (((cs.map fun c => decide (c ∈ ls)).map V.bl).take i)) nD)
      refine ⟨rfl, _, rfl, _, rfl, y, lets ls, rfl, .inr hy2, rfl, lets_flat ls, ?_⟩
      rw [if_neg (by decide)]
      have e : inV (.str ⟨#[c]⟩) (lets ls) = decide (c ∈ ls) := inV_lets c ls
      rw [e]
      exact acc_okL (hz i c hc1) (by rw [hlen, sizeLine_eq]; omega)
    · rintro H2 rfl
      rw [sx_size, List.take_of_length_le (by rw [hlen]; exact Nat.le_refl _)]
      have s2 := same_put (s := Same.refl H) (o := .lst ((cs.map fun c => decide (c ∈ ls)).map V.bl)) nD
      refine ⟨D, cs.map fun c => decide (c ∈ ls), rfl, SqL.of upd_same, ?_⟩
      have e : (cs.map fun c => decide (c ∈ ls)).any id = decide (∃ c ∈ cs, c ∈ ls) := by
        rw [Bool.eq_iff_iff, List.any_eq_true, decide_eq_true_iff]
        constructor
        · rintro ⟨b, hb, e⟩
          obtain ⟨c, hc, rfl⟩ := List.mem_map.mp hb
          exact ⟨c, hc, of_decide_eq_true e⟩
        · rintro ⟨c, hc, h⟩
          exact ⟨_, List.mem_map_of_mem hc, decide_eq_true h⟩
      rw [e]
      exact q _ s2
end
end V8
set_option Elab.async false
set_option linter.all false
set_option maxRecDepth 100000
set_option maxHeartbeats 8000000
set_option pp.maxSteps 900
/-! The papers of sound: made. -/
namespace V8
open PySem PySem.Spec PyProof.Rows L2 MZ
variable {K : PySem.W.Frag} {ω : World}
/-- all but x stays -/
def ButX (x : Addr) (H H' : Hp) : Prop := ∀ c o, H c = some o → c ≠ x → H' c = some o
theorem TV.butx {H H' : Hp} {x : Addr} {v : V} {d : PyData} {C dx : Addr} {fs : List (Str × V)} (p : TV H v d) (s : ButX x H H') (hx : H x = some (.ins C dx fs)) : TV H' v d := p.keep fun b ys e => s b _ e fun z => by
  rw [z, hx] at e
  cases e
abbrev s_Alike_init : Stmt := inClass (topS 88) 0
theorem sc_Alike_init : FnScope ["self", "leads", "dead"] ["self", "leads", "dead"] (defScope s_Alike_init) := ⟨rfl, rfl, rfl, by decide +kernel, rfl, by decide +kernel, by decide +kernel⟩
abbrev s_Still_init : Stmt := inClass (topS 89) 0
theorem sc_Still_init : FnScope ["self", "side", "living", "dead"] ["self", "side", "living", "dead"] (defScope s_Still_init) := ⟨rfl, rfl, rfl, by decide +kernel, rfl, by decide +kernel, by decide +kernel⟩
abbrev s_Unsound_init : Stmt := inClass (topS 87) 0
theorem sc_Unsound_init : FnScope ["self", "one", "first", "other", "second"] ["self", "one", "first", "other", "second"] (defScope s_Unsound_init) := ⟨rfl, rfl, rfl, by decide +kernel, rfl, by decide +kernel, by decide +kernel⟩
def fAlike (v0 v1 : V) : List (Str × V) := (putF "dead" v1 (putF "leads" v0 []))
def spAlikeI (C : Addr) : Sp := fun vs H Q _ => ∃ (x dx : Addr) (v0 v1 : V) (d0 d1 : PyData), vs = [.ref x, v0, v1] ∧ H x = some (.ins C dx []) ∧ TV H v0 d0 ∧ TD 2 d0 ∧ TV H v1 d1 ∧ TD 2 d1 ∧
  ∀ u0 u1 H', ButX x H H' → H' x = some (.ins C dx (fAlike u0 u1)) → TV H' u0 d0 → TV H' u1 d1 → Q .non H'
def fStill (v0 v1 v2 : V) : List (Str × V) := (putF "dead" v2 (putF "living" v1 (putF "side" v0 [])))
def spStillI (C : Addr) : Sp := fun vs H Q _ => ∃ (x dx : Addr) (v0 v1 v2 : V) (d0 d1 d2 : PyData), vs = [.ref x, v0, v1, v2] ∧ H x = some (.ins C dx []) ∧ TV H v0 d0 ∧ TD 2 d0 ∧ TV H v1 d1 ∧ TD 2 d1 ∧ TV H v2 d2 ∧ TD 2 d2 ∧
  ∀ u0 u1 u2 H', ButX x H H' → H' x = some (.ins C dx (fStill u0 u1 u2)) → TV H' u0 d0 → TV H' u1 d1 → TV H' u2 d2 → Q .non H'
def fUnsound (v0 v1 v2 v3 : V) : List (Str × V) := (putF "second" v3 (putF "other" v2 (putF "first" v1 (putF "one" v0 []))))
theorem fUnsound_0 (v0 v1 v2 v3 : V) : (fUnsound v0 v1 v2 v3).lookup ("one" : Str) = some v0 := by rfl
theorem fUnsound_1 (v0 v1 v2 v3 : V) : (fUnsound v0 v1 v2 v3).lookup ("first" : Str) = some v1 := by rfl
theorem fUnsound_2 (v0 v1 v2 v3 : V) : (fUnsound v0 v1 v2 v3).lookup ("other" : Str) = some v2 := by rfl
theorem fUnsound_3 (v0 v1 v2 v3 : V) : (fUnsound v0 v1 v2 v3).lookup ("second" : Str) = some v3 := by rfl
def spUnsoundI (C : Addr) : Sp := fun vs H Q _ => ∃ (x dx : Addr) (v0 v1 v2 v3 : V) (d0 d1 d2 d3 : PyData), vs = [.ref x, v0, v1, v2, v3] ∧ H x = some (.ins C dx []) ∧ TV H v0 d0 ∧ TD 2 d0 ∧ TV H v1 d1 ∧ TD 2 d1 ∧ TV H v2 d2 ∧ TD 2 d2 ∧ TV H v3 d3 ∧ TD 2 d3 ∧
  ∀ u0 u1 u2 u3 H', ButX x H H' → H' x = some (.ins C dx (fUnsound u0 u1 u2 u3)) → TV H' u0 d0 → TV H' u1 d1 → TV H' u2 d2 → TV H' u3 d3 → Q .non H'
section
variable {P : Program} {w : World} {mg : Str → Option Value} {base : Heap}
theorem ok_AlikeI {C : Addr} {f : Addr} {fd : FuncData} (F : Fun K "__init__" "Alike.__init__" s_Alike_init f fd) (cl : Cls K C) (n0 : NoAttr K C "leads") (n1 : NoAttr K C "dead") (D_copied : Df P w K mg base 3 "copied" (spCopT 2)) : FnOk P w K mg base CX0 4 f fd ["self", "leads", "dead"] (spAlikeI C) := by
  refine F.ok sc_Alike_init (fun vs H Q E h => ?_) (fun cdv A outer s H vs Q E hr h => ?_)
  · obtain ⟨x, dx, v0, v1, d0, d1, rfl, _⟩ := h
    rfl
  · obtain ⟨x, dx, v0, v1, d0, d1, rfl, hx, t0, e0, t1, e1, q⟩ := h
    refine ⟨_, (pss_cons (ps_fld (pv 0) (pe_c D_copied hr (by decide) (by rfl) (pa_cons (pv 1) pa_nil)) rfl)
      (pss_one (ps_fld (pv 0) (pe_c D_copied hr (by decide) (by rfl) (pa_cons (pv 2) pa_nil)) rfl))), ?_⟩
    have k0 : ButX x H H := fun c o e _ => e
    refine ⟨_, rfl, v0, d0, rfl, t0, e0, fun u0 A0 s0 w0 => ?_⟩
    have a0 := s0 _ _ hx
    refine ⟨_, rfl, x, C, dx, _, rfl, a0, cl, n0, by show 0 < 1000; decide, ?_⟩
    have kk0 : ButX x A0 (upd A0 x (.ins C dx (putF "leads" u0 []))) := fun c o e n => by
      rw [upd_ne n]
      exact e
    have kb0 : ButX x H (upd A0 x (.ins C dx (putF "leads" u0 []))) := fun c o e n => kk0 _ _ (s0 _ _ e) n
    have k1 : ButX x H (upd A0 x (.ins C dx (putF "leads" u0 []))) := fun c o e n => kb0 _ _ (k0 _ _ e n) n
    have hx1 : upd A0 x (.ins C dx (putF "leads" u0 [])) x = some (.ins C dx (putF "leads" u0 [])) := upd_same
    have y0 := w0.butx kk0 a0
    have z0_1 := t1.butx kb0 hx
    show Ends.nx _ _ (upd A0 x (.ins C dx (putF "leads" u0 [])))
    generalize upd A0 x (.ins C dx (putF "leads" u0 [])) = B0 at k1 kb0 kk0 hx1 y0 z0_1 ⊢
    refine ⟨_, rfl, v1, d1, rfl, z0_1, e1, fun u1 A1 s1 w1 => ?_⟩
    have a1 := s1 _ _ hx1
    refine ⟨_, rfl, x, C, dx, _, rfl, a1, cl, n1, by show 1 < 1000; decide, ?_⟩
    have kk1 : ButX x A1 (upd A1 x (.ins C dx (putF "dead" u1 (putF "leads" u0 [])))) := fun c o e n => by
      rw [upd_ne n]
      exact e
    have kb1 : ButX x B0 (upd A1 x (.ins C dx (putF "dead" u1 (putF "leads" u0 [])))) := fun c o e n => kk1 _ _ (s1 _ _ e) n
    have k2 : ButX x H (upd A1 x (.ins C dx (putF "dead" u1 (putF "leads" u0 [])))) := fun c o e n => kb1 _ _ (k1 _ _ e n) n
    have hx2 : upd A1 x (.ins C dx (putF "dead" u1 (putF "leads" u0 []))) x = some (.ins C dx (putF "dead" u1 (putF "leads" u0 []))) := upd_same
    have y1 := w1.butx kk1 a1
    have z1_0 := (y0.same s1).butx kk1 a1
    exact q u0 u1 _ k2 hx2 z1_0 y1
theorem ok_StillI {C : Addr} {f : Addr} {fd : FuncData} (F : Fun K "__init__" "Still.__init__" s_Still_init f fd) (cl : Cls K C) (n0 : NoAttr K C "side") (n1 : NoAttr K C "living") (n2 : NoAttr K C "dead") (D_copied : Df P w K mg base 3 "copied" (spCopT 2)) : FnOk P w K mg base CX0 4 f fd ["self", "side", "living", "dead"] (spStillI C) := by
  refine F.ok sc_Still_init (fun vs H Q E h => ?_) (fun cdv A outer s H vs Q E hr h => ?_)
  · obtain ⟨x, dx, v0, v1, v2, d0, d1, d2, rfl, _⟩ := h
    rfl
  · obtain ⟨x, dx, v0, v1, v2, d0, d1, d2, rfl, hx, t0, e0, t1, e1, t2, e2, q⟩ := h
    refine ⟨_, (pss_cons (ps_fld (pv 0) (pe_c D_copied hr (by decide) (by rfl) (pa_cons (pv 1) pa_nil)) rfl)
      (pss_cons (ps_fld (pv 0) (pe_c D_copied hr (by decide) (by rfl) (pa_cons (pv 2) pa_nil)) rfl)
      (pss_one (ps_fld (pv 0) (pe_c D_copied hr (by decide) (by rfl) (pa_cons (pv 3) pa_nil)) rfl)))), ?_⟩
    have k0 : ButX x H H := fun c o e _ => e
    refine ⟨_, rfl, v0, d0, rfl, t0, e0, fun u0 A0 s0 w0 => ?_⟩
    have a0 := s0 _ _ hx
    refine ⟨_, rfl, x, C, dx, _, rfl, a0, cl, n0, by show 0 < 1000; decide, ?_⟩
    have kk0 : ButX x A0 (upd A0 x (.ins C dx (putF "side" u0 []))) := fun c o e n => by
      rw [upd_ne n]
      exact e
    have kb0 : ButX x H (upd A0 x (.ins C dx (putF "side" u0 []))) := fun c o e n => kk0 _ _ (s0 _ _ e) n
    have k1 : ButX x H (upd A0 x (.ins C dx (putF "side" u0 []))) := fun c o e n => kb0 _ _ (k0 _ _ e n) n
    have hx1 : upd A0 x (.ins C dx (putF "side" u0 [])) x = some (.ins C dx (putF "side" u0 [])) := upd_same
    have y0 := w0.butx kk0 a0
    have z0_1 := t1.butx kb0 hx
    have z0_2 := t2.butx kb0 hx
    show Ends.nx _ _ (upd A0 x (.ins C dx (putF "side" u0 [])))
    generalize upd A0 x (.ins C dx (putF "side" u0 [])) = B0 at k1 kb0 kk0 hx1 y0 z0_1 z0_2 ⊢
    refine ⟨_, rfl, v1, d1, rfl, z0_1, e1, fun u1 A1 s1 w1 => ?_⟩
    have a1 := s1 _ _ hx1
    refine ⟨_, rfl, x, C, dx, _, rfl, a1, cl, n1, by show 1 < 1000; decide, ?_⟩
    have kk1 : ButX x A1 (upd A1 x (.ins C dx (putF "living" u1 (putF "side" u0 [])))) := fun c o e n => by
      rw [upd_ne n]
      exact e
    have kb1 : ButX x B0 (upd A1 x (.ins C dx (putF "living" u1 (putF "side" u0 [])))) := fun c o e n => kk1 _ _ (s1 _ _ e) n
    have k2 : ButX x H (upd A1 x (.ins C dx (putF "living" u1 (putF "side" u0 [])))) := fun c o e n => kb1 _ _ (k1 _ _ e n) n
    have hx2 : upd A1 x (.ins C dx (putF "living" u1 (putF "side" u0 []))) x = some (.ins C dx (putF "living" u1 (putF "side" u0 []))) := upd_same
    have y1 := w1.butx kk1 a1
    have z1_0 := (y0.same s1).butx kk1 a1
    have z1_2 := z0_2.butx kb1 hx1
    show Ends.nx _ _ (upd A1 x (.ins C dx (putF "living" u1 (putF "side" u0 []))))
    generalize upd A1 x (.ins C dx (putF "living" u1 (putF "side" u0 []))) = B1 at k2 kb1 kk1 hx2 z1_0 y1 z1_2 ⊢
    refine ⟨_, rfl, v2, d2, rfl, z1_2, e2, fun u2 A2 s2 w2 => ?_⟩
    have a2 := s2 _ _ hx2
    refine ⟨_, rfl, x, C, dx, _, rfl, a2, cl, n2, by show 2 < 1000; decide, ?_⟩
    have kk2 : ButX x A2 (upd A2 x (.ins C dx (putF "dead" u2 (putF "living" u1 (putF "side" u0 []))))) := fun c o e n => by
      rw [upd_ne n]
      exact e
    have kb2 : ButX x B1 (upd A2 x (.ins C dx (putF "dead" u2 (putF "living" u1 (putF "side" u0 []))))) := fun c o e n => kk2 _ _ (s2 _ _ e) n
    have k3 : ButX x H (upd A2 x (.ins C dx (putF "dead" u2 (putF "living" u1 (putF "side" u0 []))))) := fun c o e n => kb2 _ _ (k2 _ _ e n) n
    have hx3 : upd A2 x (.ins C dx (putF "dead" u2 (putF "living" u1 (putF "side" u0 [])))) x = some (.ins C dx (putF "dead" u2 (putF "living" u1 (putF "side" u0 [])))) := upd_same
    have y2 := w2.butx kk2 a2
    have z2_0 := (z1_0.same s2).butx kk2 a2
    have z2_1 := (y1.same s2).butx kk2 a2
    exact q u0 u1 u2 _ k3 hx3 z2_0 z2_1 y2
theorem ok_UnsoundI {C : Addr} {f : Addr} {fd : FuncData} (F : Fun K "__init__" "Unsound.__init__" s_Unsound_init f fd) (cl : Cls K C) (n0 : NoAttr K C "one") (n1 : NoAttr K C "first") (n2 : NoAttr K C "other") (n3 : NoAttr K C "second") (D_copied : Df P w K mg base 3 "copied" (spCopT 2)) : FnOk P w K mg base CX0 4 f fd ["self", "one", "first", "other", "second"] (spUnsoundI C) := by
  refine F.ok sc_Unsound_init (fun vs H Q E h => ?_) (fun cdv A outer s H vs Q E hr h => ?_)
  · obtain ⟨x, dx, v0, v1, v2, v3, d0, d1, d2, d3, rfl, _⟩ := h
    rfl
  · obtain ⟨x, dx, v0, v1, v2, v3, d0, d1, d2, d3, rfl, hx, t0, e0, t1, e1, t2, e2, t3, e3, q⟩ := h
    refine ⟨_, (pss_cons (ps_fld (pv 0) (pe_c D_copied hr (by decide) (by rfl) (pa_cons (pv 1) pa_nil)) rfl)
      (pss_cons (ps_fld (pv 0) (pe_c D_copied hr (by decide) (by rfl) (pa_cons (pv 2) pa_nil)) rfl)
      (pss_cons (ps_fld (pv 0) (pe_c D_copied hr (by decide) (by rfl) (pa_cons (pv 3) pa_nil)) rfl)
      (pss_one (ps_fld (pv 0) (pe_c D_copied hr (by decide) (by rfl) (pa_cons (pv 4) pa_nil)) rfl))))), ?_⟩
    have k0 : ButX x H H := fun c o e _ => e
    refine ⟨_, rfl, v0, d0, rfl, t0, e0, fun u0 A0 s0 w0 => ?_⟩
    have a0 := s0 _ _ hx
    refine ⟨_, rfl, x, C, dx, _, rfl, a0, cl, n0, by show 0 < 1000; decide, ?_⟩
    have kk0 : ButX x A0 (upd A0 x (.ins C dx (putF "one" u0 []))) := fun c o e n => by
      rw [upd_ne n]
      exact e
    have kb0 : ButX x H (upd A0 x (.ins C dx (putF "one" u0 []))) := fun c o e n => kk0 _ _ (s0 _ _ e) n
    have k1 : ButX x H (upd A0 x (.ins C dx (putF "one" u0 []))) := fun c o e n => kb0 _ _ (k0 _ _ e n) n
    have hx1 : upd A0 x (.ins C dx (putF "one" u0 [])) x = some (.ins C dx (putF "one" u0 [])) := upd_same
    have y0 := w0.butx kk0 a0
    have z0_1 := t1.butx kb0 hx
    have z0_2 := t2.butx kb0 hx
    have z0_3 := t3.butx kb0 hx
    show Ends.nx _ _ (upd A0 x (.ins C dx (putF "one" u0 [])))
    generalize upd A0 x (.ins C dx (putF "one" u0 [])) = B0 at k1 kb0 kk0 hx1 y0 z0_1 z0_2 z0_3 ⊢
    refine ⟨_, rfl, v1, d1, rfl, z0_1, e1, fun u1 A1 s1 w1 => ?_⟩
    have a1 := s1 _ _ hx1
    refine ⟨_, rfl, x, C, dx, _, rfl, a1, cl, n1, by show 1 < 1000; decide, ?_⟩
    have kk1 : ButX x A1 (upd A1 x (.ins C dx (putF "first" u1 (putF "one" u0 [])))) := fun c o e n => by
      rw [upd_ne n]
      exact e
    have kb1 : ButX x B0 (upd A1 x (.ins C dx (putF "first" u1 (putF "one" u0 [])))) := fun c o e n => kk1 _ _ (s1 _ _ e) n
    have k2 : ButX x H (upd A1 x (.ins C dx (putF "first" u1 (putF "one" u0 [])))) := fun c o e n => kb1 _ _ (k1 _ _ e n) n
    have hx2 : upd A1 x (.ins C dx (putF "first" u1 (putF "one" u0 []))) x = some (.ins C dx (putF "first" u1 (putF "one" u0 []))) := upd_same
    have y1 := w1.butx kk1 a1
    have z1_0 := (y0.same s1).butx kk1 a1
    have z1_2 := z0_2.butx kb1 hx1
    have z1_3 := z0_3.butx kb1 hx1
    show Ends.nx _ _ (upd A1 x (.ins C dx (putF "first" u1 (putF "one" u0 []))))
    generalize upd A1 x (.ins C dx (putF "first" u1 (putF "one" u0 []))) = B1 at k2 kb1 kk1 hx2 z1_0 y1 z1_2 z1_3 ⊢
    refine ⟨_, rfl, v2, d2, rfl, z1_2, e2, fun u2 A2 s2 w2 => ?_⟩
    have a2 := s2 _ _ hx2
    refine ⟨_, rfl, x, C, dx, _, rfl, a2, cl, n2, by show 2 < 1000; decide, ?_⟩
    have kk2 : ButX x A2 (upd A2 x (.ins C dx (putF "other" u2 (putF "first" u1 (putF "one" u0 []))))) := fun c o e n => by
      rw [upd_ne n]
      exact e
    have kb2 : ButX x B1 (upd A2 x (.ins C dx (putF "other" u2 (putF "first" u1 (putF "one" u0 []))))) := fun c o e n => kk2 _ _ (s2 _ _ e) n
    have k3 : ButX x H (upd A2 x (.ins C dx (putF "other" u2 (putF "first" u1 (putF "one" u0 []))))) := fun c o e n => kb2 _ _ (k2 _ _ e n) n
    have hx3 : upd A2 x (.ins C dx (putF "other" u2 (putF "first" u1 (putF "one" u0 [])))) x = some (.ins C dx (putF "other" u2 (putF "first" u1 (putF "one" u0 [])))) := upd_same
    have y2 := w2.butx kk2 a2
    have z2_0 := (z1_0.same s2).butx kk2 a2
    have z2_1 := (y1.same s2).butx kk2 a2
    have z2_3 := z1_3.butx kb2 hx2
    show Ends.nx _ _ (upd A2 x (.ins C dx (putF "other" u2 (putF "first" u1 (putF "one" u0 [])))))
    generalize upd A2 x (.ins C dx (putF "other" u2 (putF "first" u1 (putF "one" u0 [])))) = B2 at k3 kb2 kk2 hx3 z2_0 z2_1 y2 z2_3 ⊢
    refine ⟨_, rfl, v3, d3, rfl, z2_3, e3, fun u3 A3 s3 w3 => ?_⟩
    have a3 := s3 _ _ hx3
    refine ⟨_, rfl, x, C, dx, _, rfl, a3, cl, n3, by show 3 < 1000; decide, ?_⟩
    have kk3 : ButX x A3 (upd A3 x (.ins C dx (putF "second" u3 (putF "other" u2 (putF "first" u1 (putF "one" u0 [])))))) := fun c o e n => by
      rw [upd_ne n]
      exact e
    have kb3 : ButX x B2 (upd A3 x (.ins C dx (putF "second" u3 (putF "other" u2 (putF "first" u1 (putF "one" u0 [])))))) := fun c o e n => kk3 _ _ (s3 _ _ e) n
    have k4 : ButX x H (upd A3 x (.ins C dx (putF "second" u3 (putF "other" u2 (putF "first" u1 (putF "one" u0 [])))))) := fun c o e n => kb3 _ _ (k3 _ _ e n) n
    have hx4 : upd A3 x (.ins C dx (putF "second" u3 (putF "other" u2 (putF "first" u1 (putF "one" u0 []))))) x = some (.ins C dx (putF "second" u3 (putF "other" u2 (putF "first" u1 (putF "one" u0 []))))) := upd_same
    have y3 := w3.butx kk3 a3
    have z3_0 := (z2_0.same s3).butx kk3 a3
    have z3_1 := (z2_1.same s3).butx kk3 a3
    have z3_2 := (y2.same s3).butx kk3 a3
    exact q u0 u1 u2 u3 _ k4 hx4 z3_0 z3_1 z3_2 y3
end
end V8
set_option Elab.async false
set_option linter.all false
set_option maxRecDepth 100000
set_option maxHeartbeats 8000000
set_option pp.maxSteps 900
/-! The paper of two misreadings. -/
namespace V8
open PySem PySem.Spec PyProof.Rows L2 MZ
variable {K : PySem.W.Frag} {ω : World}
abbrev s_paper_of : Stmt := topS 93
theorem sc_paper_of : FnScope ["meetings", "first_changed", "second_changed", "dead"] ["meetings", "first_changed", "second_changed"] (defScope s_paper_of) := ⟨rfl, rfl, rfl, by decide +kernel, rfl, by decide +kernel, by decide +kernel⟩
def leads2D (P S : List Pr) (rs : List (Bool × Wd)) : PyData := .tuple (rs.map fun q => .tuple [.str (sideS q.1), .str (Sx q.2), .str (sideS (leadQ P S q).1), .str (Sx (leadQ P S q).2)])
def restsD (rs : List (Bool × Wd)) : PyData := .tuple (rs.map fun q => .tuple [.str (sideS q.1), .str (Sx q.2)])
theorem ls_tv2 {P S : List Pr} {H : Hp} {e : Addr} {rs : List (Bool × Wd)} (h : LsT P S H e rs) : TV H (.ref e) (leads2D P S rs) := by
  obtain ⟨vs, h1, h2⟩ := h
  refine .tup h1 ?_
  clear h1
  induction h2 with
  | nil => exact .nil
  | cons r _ ih =>
    obtain ⟨c, rfl, hc⟩ := r
    exact .cons (.tup hc (.cons (.str _) (.cons (.str _) (.cons (.str _) (.cons (.str _) .nil))))) ih
theorem rs_tv {H : Hp} {e : Addr} {rs : List (Bool × Wd)} (h : RsT H e rs) : TV H (.ref e) (restsD rs) := by
  obtain ⟨vs, h1, h2⟩ := h
  refine .tup h1 ?_
  clear h1
  induction h2 with
  | nil => exact .nil
  | cons r _ ih =>
    obtain ⟨c, rfl, hc⟩ := r
    exact .cons (.tup hc (.cons (.str _) (.cons (.str _) .nil))) ih
theorem side_ok (b : Bool) : PyData.strOk (sideS b) = true := by
  cases b with
  | true => exact (show PyData.strOk (sideS true) = true by decide +kernel)
  | false => exact (show PyData.strOk (sideS false) = true by decide +kernel)
/-- two lists of words with labels, short and few -/
structure Ok2 (P S : List Pr) : Prop where
  p : PrOk P
  s : PrOk S
  lp : LbOk P
  ls : LbOk S
  np : ∀ q ∈ P, q.1 ≠ []
  ns : ∀ q ∈ S, q.1 ≠ []
  few : FewR P S
theorem rest_lt2 {P S : List Pr} (o : Ok2 P S) {g : Bool} {rs : List (Bool × Wd)} (h : RsIs P S g rs) {q : Bool × Wd} (hq : q ∈ rs) : ∀ c ∈ q.2, isLt c := by
  obtain ⟨h1, _⟩ := h.mem hq
  obtain ⟨w, k⟩ := (runQ_reach (P := P) (S := S) 120).2 _ h1
  exact (reach_ok o.np o.p o.s k).2
theorem rests_td2 {P S : List Pr} (o : Ok2 P S) {g : Bool} {rs : List (Bool × Wd)} (h : RsIs P S g rs) : TD 2 (restsD rs) := by
  refine .inr ⟨_, rfl, ?_, fun e he => ?_⟩
  · rw [List.length_map]
    exact Nat.le_trans (h.len o.few) (by decide)
  · obtain ⟨q, hq, rfl⟩ := List.mem_map.mp he
    refine .inr ⟨_, rfl, by show 2 ≤ 200; decide, fun e he => ?_⟩
    rcases List.mem_cons.mp he with rfl | he
    · exact .inr (.inl ⟨_, rfl, side_ok _⟩)
    · rw [List.mem_singleton.mp he]
      exact .inr (.inl ⟨_, rfl, ok_sx (rest_lt2 o h hq)⟩)
theorem leads_td2 {P S : List Pr} (o : Ok2 P S) {rs : List (Bool × Wd)} (h : RsIs P S true rs) (lt : ∀ q ∈ rs, ∀ c ∈ (leadQ P S q).2, isLt c) : TD 2 (leads2D P S rs) := by
  refine .inr ⟨_, rfl, ?_, fun e he => ?_⟩
  · rw [List.length_map]
    exact Nat.le_trans (h.len o.few) (by decide)
  · obtain ⟨q, hq, rfl⟩ := List.mem_map.mp he
    refine .inr ⟨_, rfl, by show 4 ≤ 200; decide, fun e he => ?_⟩
    rcases List.mem_cons.mp he with rfl | he
    · exact .inr (.inl ⟨_, rfl, side_ok _⟩)
    rcases List.mem_cons.mp he with rfl | he
    · exact .inr (.inl ⟨_, rfl, ok_sx (rest_lt2 o h hq)⟩)
    rcases List.mem_cons.mp he with rfl | he
    · exact .inr (.inl ⟨_, rfl, side_ok _⟩)
    · rw [List.mem_singleton.mp he]
      exact .inr (.inl ⟨_, rfl, ok_sx (lt q hq)⟩)
def LdWay2 (P S : List Pr) (rs : List (Bool × Wd)) : Prop := ∀ q ∈ rs, ∃ w, Way P S .start (.rest q.1 q.2) w ∧ lead w = some (leadQ P S q)
theorem ldway_of {P S : List Pr} {Qs L R : List Pl} {W : WyL} {H : Hp} {x CG : Addr} {rs : List (Bool × Wd)} (me : MeeA K ω CG P S Qs L R W H x) (ak : Alike P S) (isl : RsIs P S true rs) : LdWay2 P S rs := fun q0 hq => by
  obtain ⟨h1, h2⟩ := isl.mem hq
  obtain ⟨⟨_, _, _, _, _, _, _, wy, _, _⟩, bf, br, few, eqQ⟩ := me
  rw [← eqQ] at h1
  obtain ⟨_, kw⟩ := wayTo_has wy.2.1 ((br.all _).mpr ((bf.all _).mp h1))
  obtain ⟨v, kv⟩ := livesB_iff.mp h2
  have e1 := ak _ (kw.trans kv)
  obtain ⟨k, e2, _⟩ := lead_back e1 e1
  have e3 : leadQ P S q0 = k := by
    unfold leadQ
    rw [← wy.2.2.2, e2]
    rfl
  exact ⟨_, kw, by rw [e3]; exact e2⟩
/-- the paper, or None -/
def PapO (CA CT : Addr) (P S : List Pr) (l1 l2 : List Nat) (H : Hp) (v : V) : Prop :=
  (Alike P S ∧ ∃ z dx l d rs rs', v = .ref z ∧ H z = some (.ins CA dx (fAlike l d)) ∧ TV H l (leads2D P S rs) ∧ TV H d (restsD rs') ∧ RsIs P S true rs ∧ RsIs P S false rs' ∧ LdWay2 P S rs) ∨
  (¬ Alike P S ∧ ∃ t : Bool, NoW P S t (if t = true then l1 else l2) ∧ (t = false → ¬ NoW P S true l1) ∧ ∃ z dx s l d rs rs', v = .ref z ∧ H z = some (.ins CT dx (fStill s l d)) ∧ TV H s (.str (sideS t)) ∧ TV H l (restsD rs) ∧ TV H d (restsD rs') ∧ RsIs P S true rs ∧ RsIs P S false rs') ∨
  (v = .non ∧ ¬ Alike P S ∧ ¬ NoW P S true l1 ∧ ¬ NoW P S false l2)
def spPaper (K : PySem.W.Frag) (ω : World) (aS aE aV aD CG CA CT : Addr) : Sp := fun vs H Q _ => ∃ (x y1 y2 : Addr) (l1 l2 : List Nat) (P S : List Pr) (Qs L R : List Pl) (W : WyL), vs = [.ref x, .ref y1, .ref y2] ∧ MeeA K ω CG P S Qs L R W H x ∧ CnH K aS aE aV H ∧ SqT K H aD [.str (sideS true), .str (sideS false)] ∧ Ok2 P S ∧ SqT K H y1 (lets l1) ∧ SqT K H y2 (lets l2) ∧
  ∀ v H', Same H H' → PapO CA CT P S l1 l2 H' v → Q v H'
section
variable {P : Program} {w : World} {mg : Str → Option Value} {base : Heap} {aS aE aV aD CG CA CT : Addr}
theorem same_mk {H : Hp} {x dx C : Addr} {o : HO} (hx : H x = none) (hd : H dx = none) : Same H (upd (upd H dx o) x (.ins C dx [])) := fun b u e => by
  rw [upd_ne (ne_of_none e hx), upd_ne (ne_of_none e hd)]
  exact e
theorem same_butx {H H1 H2 : Hp} {x : Addr} (s : Same H H1) (k : ButX x H1 H2) (hx : H x = none) : Same H H2 := fun b o e => k _ _ (s _ _ e) (ne_of_none e hx)
theorem ok_paper {f : Addr} {fd : FuncData} (F : Fun K "paper_of" "paper_of" s_paper_of f fd) (D_unlike_meeting : Df P w K mg base 4 "unlike_meeting" (spUnlike K w aS aE aV CG)) (D_leads_of : Df P w K mg base 2 "leads_of" (spLeads K w aD CG)) (D_rests_of : Df P w K mg base 1 "rests_of" (spRests K w aD CG)) (D_meeting_with : Df P w K mg base 4 "meeting_with" (spMeetW K w aS aE aV CG))
    (D_Alike : MkC P w K mg base 4 CA "Alike" (spAlikeI CA)) (D_Still : MkC P w K mg base 4 CT "Still" (spStillI CT)) : FnOk P w K mg base CX0 6 f fd ["meetings", "first_changed", "second_changed"] (spPaper K w aS aE aV aD CG CA CT) := by
  refine F.ok sc_paper_of (fun vs H Q E h => ?_) (fun cdv A outer s H vs Q E hr h => ?_)
  · obtain ⟨x, y1, y2, l1, l2, P, S, Qs, L, R, W, rfl, _⟩ := h
    rfl
  · obtain ⟨x, y1, y2, l1, l2, P1, S1, Qs, L, R, W, rfl, me, cn, hD, ok, hy1, hy2, q⟩ := h
    refine ⟨_, (pss_cons (ps_set (i := 3) sc_paper_of.nd rfl (.inl rfl) (pe_c D_rests_of hr (by decide) (by rfl) (pa_cons (pv 0) (pa_cons pe_bl pa_nil))))
      (pss_cons (ps_if (pt_cmpR op_isN (pe_c D_unlike_meeting hr (by decide) (by rfl) (pa_cons (pv 0) pa_nil)) pe_non (nomark _))
        (pss_one (ps_ret (pe_mkC D_Alike hr (by decide) (by rfl) (pa_cons (pe_c D_leads_of hr (by decide) (by rfl) (pa_cons (pv 0) pa_nil)) (pa_cons (pv 3) pa_nil)))))
        pss_nil)
      (pss_cons (ps_if (pt_cmpR op_isN (pe_c D_meeting_with hr (by decide) (by rfl) (pa_cons (pv 0) (pa_cons pe_str (pa_cons (pv 1) pa_nil)))) pe_non (nomark _))
        (pss_one (ps_ret (pe_mkC D_Still hr (by decide) (by rfl) (pa_cons pe_str (pa_cons (pe_c D_rests_of hr (by decide) (by rfl) (pa_cons (pv 0) (pa_cons pe_bl pa_nil))) (pa_cons (pv 3) pa_nil))))))
        pss_nil)
      (pss_cons (ps_if (pt_cmpR op_isN (pe_c D_meeting_with hr (by decide) (by rfl) (pa_cons (pv 0) (pa_cons pe_str (pa_cons (pv 2) pa_nil)))) pe_non (nomark _))
        (pss_one (ps_ret (pe_mkC D_Still hr (by decide) (by rfl) (pa_cons pe_str (pa_cons (pe_c D_rests_of hr (by decide) (by rfl) (pa_cons (pv 0) (pa_cons pe_bl pa_nil))) (pa_cons (pv 3) pa_nil))))))
        pss_nil)
      (pss_one (ps_ret pe_non)))))), ?_⟩
    refine ⟨_, rfl, x, false, P1, S1, Qs, L, R, W, rfl, me, hD, ok.p, ok.s, ok.few, fun ed rs' H1 s1 hd isd => ?_⟩
    have me1 := me.same s1
    have cn1 := cn.same s1
    -- a paper of still
    have still : ∀ (t : Bool) (H3 : Hp) (D : Ends) (σ : L2.St), Same H1 H3 → (NoW P1 S1 t (if t = true then l1 else l2)) → ¬ Alike P1 S1 → (t = false → ¬ NoW P1 S1 true l1) → D.rt = Q → σ[0]? = some (some (.ref x)) → σ[3]? = some (some (.ref ed)) →
        tRet (tMake CT (spStillI CT) [] E0 (tCons (tC (.str (sideS t))) (tCons (tCall (spRests K w aD CG) [] E0 (tCons (tVar 0) (tCons (tC (.bl true)) tNil))) (tCons (tVar 3) tNil)))) D σ H3 := fun t H3 D σ s3 nw na nt e0 e1 e2 => by
      have s13 : Same H H3 := fun b o z => s3 _ _ (s1 _ _ z)
      refine ⟨_, e1, x, true, P1, S1, Qs, L, R, W, rfl, me1.same s3, sq_same hD s13, ok.p, ok.s, ok.few, fun el rs H4 s4 hl isl => ⟨_, e2, fun y dy ny ndy ney => ?_⟩⟩
      have sy := same_mk (C := CT) (o := .own y) ny ndy
      have s14 : Same H1 H4 := fun b o z => s4 _ _ (s3 _ _ z)
      refine ⟨y, dy, .str (sideS t), .ref el, .ref ed, _, _, _, rfl, upd_same, .str _, TD.flat (.inr (.inl ⟨_, rfl, side_ok t⟩)) 2, (rs_tv hl).same sy, rests_td2 ok isl, ((rs_tv hd).same s14).same sy, rests_td2 ok isd, fun u0 u1 u2 H5 k5 hy t0 t1 t2 => ⟨rfl, ?_⟩⟩
      have s45 := same_butx sy k5 ny
      rw [e0]
      exact q (.ref y) H5 (fun b o z => s45 _ _ (s4 _ _ (s13 _ _ z))) (.inr (.inl ⟨na, t, nw, nt, y, dy, u0, u1, u2, rs, rs', rfl, hy, t0, t1, t2, isl, isd⟩))
    refine ⟨_, rfl, x, P1, S1, Qs, L, R, W, rfl, me1, cn1, ok.p, ok.s, ok.lp, ok.ls, ok.np, fun ak H2 s2 => ?_, fun e v H2 s2 he hw ne l13 eU => ?_⟩
    · refine ⟨rfl, _, rfl, ?_⟩
      rw [decide_eq_true rfl]
      have s12 : Same H H2 := fun b o z => s2 _ _ (s1 _ _ z)
      refine iteT ⟨_, rfl, x, P1, S1, Qs, L, R, W, rfl, me1.same s2, sq_same hD s12, ok.p, ok.s, ok.few, ak, fun el rs H3 s3 hl isl => ⟨_, rfl, fun y dy ny ndy ney => ?_⟩⟩
      have sy := same_mk (C := CA) (o := .own y) ny ndy
      have s13 : Same H1 H3 := fun b o z => s3 _ _ (s2 _ _ z)
      have ldw := ldway_of me ak isl
      refine ⟨y, dy, .ref el, .ref ed, _, _, rfl, upd_same, (ls_tv2 hl).same sy, leads_td2 ok isl (fun q0 hq => ?_), ((rs_tv hd).same s13).same sy, rests_td2 ok isd, fun u0 u1 H4 k4 hy t0 t1 => ⟨rfl, ?_⟩⟩
      · obtain ⟨w0, k0, e0⟩ := ldw q0 hq
        exact lead_lt (way_lt ok.lp ok.ls k0) e0
      · have s34 := same_butx sy k4 ny
        exact q (.ref y) H4 (fun b o z => s34 _ _ (s3 _ _ (s12 _ _ z))) (.inl ⟨ak, y, dy, u0, u1, rs, rs', rfl, hy, t0, t1, isl, isd, ldw⟩)
    · have na : ¬ Alike P1 S1 := fun a => ne (a _ hw)
      refine ⟨rfl, _, rfl, ?_⟩
      rw [decide_eq_false (show ¬ V.ref e = V.non from fun z => nomatch z)]
      refine iteF (nxtS ?_)
      have s02 : Same H H2 := fun b o z => s2 _ _ (s1 _ _ z)
      refine ⟨_, rfl, _, rfl, x, y1, true, l1, P1, S1, Qs, L, R, W, rfl, me1.same s2, cn1.same s2, ok.p, ok.s, ok.np, sq_same hy1 s02, fun nw H3 s3 => ?_, fun e3 v3 H3 s3 he3 hw3 hh l3 _ => ?_⟩
      · refine ⟨rfl, _, rfl, ?_⟩
        rw [decide_eq_true rfl]
        exact iteT (still true H3 _ _ (fun b o z => s3 _ _ (s2 _ _ z)) nw na (fun z => nomatch z) rfl rfl rfl)
      · have n1 : ¬ NoW P1 S1 true l1 := fun nw => by
          obtain ⟨c, hc, hl⟩ := hh
          exact nw v3 hw3 c hc hl
        refine ⟨rfl, _, rfl, ?_⟩
        rw [decide_eq_false (show ¬ V.ref e3 = V.non from fun z => nomatch z)]
        refine iteF (nxtS ?_)
        have s13 : Same H1 H3 := fun b o z => s3 _ _ (s2 _ _ z)
        have s03 : Same H H3 := fun b o z => s13 _ _ (s1 _ _ z)
        refine ⟨_, rfl, _, rfl, x, y2, false, l2, P1, S1, Qs, L, R, W, rfl, me1.same s13, cn1.same s13, ok.p, ok.s, ok.np, sq_same hy2 s03, fun nw H4 s4 => ?_, fun e4 v4 H4 s4 he4 hw4 hh4 l4 _ => ?_⟩
        · refine ⟨rfl, _, rfl, ?_⟩
          rw [decide_eq_true rfl]
          exact iteT (still false H4 _ _ (fun b o z => s4 _ _ (s13 _ _ z)) nw na (fun _ => n1) rfl rfl rfl)
        · have n2 : ¬ NoW P1 S1 false l2 := fun nw => by
            obtain ⟨c, hc, hl⟩ := hh4
            exact nw v4 hw4 c hc hl
          refine ⟨rfl, _, rfl, ?_⟩
          rw [decide_eq_false (show ¬ V.ref e4 = V.non from fun z => nomatch z)]
          refine iteF (nxtS ?_)
          exact q .non H4 (fun b o z => s4 _ _ (s03 _ _ z)) (.inr (.inr ⟨rfl, na, n1, n2⟩))
end
end V8
set_option Elab.async false
set_option linter.all false
set_option maxRecDepth 100000
set_option maxHeartbeats 8000000
set_option pp.maxSteps 900
/-! Two unlike texts with the same image, each with a letter that is changed. -/
namespace V8
open PySem PySem.Spec PyProof.Rows L2 MZ
variable {K : PySem.W.Frag} {ω : World}
abbrev s_merging_steps : Stmt := topS 94
theorem sc_merging_steps : FnScope ["meetings", "first_changed", "second_changed", "unlike", "joined"] ["meetings", "first_changed", "second_changed"] (defScope s_merging_steps) := ⟨rfl, rfl, rfl, by decide +kernel, rfl, by decide +kernel, by decide +kernel⟩
theorem sq1 {a b : TS} {D : Ends} {σ : L2.St} {H : Hp} (M : L2.St → Hp → Prop) (h2 : ∀ σ' H', M σ' H' → b D σ' H') (h1 : ∀ R : L2.St → Hp → Prop, (∀ σ' H', M σ' H' → R σ' H') → a { D with nx := R } σ H) : tSeq a b D σ H := h1 _ h2
/-- two rows of words with the same text, told by their labels -/
def RowsW (P S : List Pr) (w : List Nat × List Nat) : Prop := ∃ xs ys : List Pr, (∀ x ∈ xs, x ∈ P) ∧ (∀ y ∈ ys, y ∈ S) ∧ lab xs = w.1 ∧ lab ys = w.2 ∧ cat xs = cat ys
theorem rows_way {P S : List Pr} {w : List Nat × List Nat} (h : Way P S .start .fin w) : RowsW P S w := by
  obtain ⟨xs, ys, hx, hy, lx, ly, e⟩ := way_words h
  exact ⟨xs, ys, hx, hy, lx, ly, e⟩
theorem RowsW.app {P S : List Pr} {a b : List Nat × List Nat} (h : RowsW P S a) (k : RowsW P S b) : RowsW P S (a.1 ++ b.1, a.2 ++ b.2) := by
  obtain ⟨xs, ys, hx, hy, lx, ly, e⟩ := h
  obtain ⟨xs2, ys2, hx2, hy2, lx2, ly2, e2⟩ := k
  refine ⟨xs ++ xs2, ys ++ ys2, fun x m => (List.mem_append.mp m).elim (hx x) (hx2 x), fun x m => (List.mem_append.mp m).elim (hy x) (hy2 x), by rw [lab_app, lx, lx2], by rw [lab_app, ly, ly2], by rw [cat_app, cat_app, e, e2]⟩
/-- steps that show it -/
def Shows2 (P S : List Pr) (l1 l2 : List Nat) (v : List Nat × List Nat) : Prop := RowsW P S v ∧ v.1 ≠ v.2 ∧ (∃ c ∈ v.1, c ∈ l1) ∧ (∃ c ∈ v.2, c ∈ l2) ∧ wlen v ≤ 1062
def appW (a b : List Nat × List Nat) : List Nat × List Nat := (a.1 ++ b.1, a.2 ++ b.2)
/-- .. the very ones that the program finds -/
noncomputable def oneW (P S : List Pr) (l1 : List Nat) (u : List Nat × List Nat) : Option (List Nat × List Nat) := if ∃ c ∈ u.1, c ∈ l1 then some u else (withW P S true l1).map (appW u)
noncomputable def twoW (P S : List Pr) (l2 : List Nat) (v : List Nat × List Nat) : Option (List Nat × List Nat) := if ∃ c ∈ v.2, c ∈ l2 then some v else (withW P S false l2).map (appW v)
noncomputable def mergeW (P S : List Pr) (l1 l2 : List Nat) : Option (List Nat × List Nat) := (unlikeW P S).bind fun u => (oneW P S l1 u).bind fun v => (twoW P S l2 v).map fun x => if x.1 = x.2 then appW u x else x
def spMergeS (K : PySem.W.Frag) (ω : World) (aS aE aV CG : Addr) : Sp := fun vs H Q _ => ∃ (x y1 y2 : Addr) (l1 l2 : List Nat) (P S : List Pr) (Qs L R : List Pl) (W : WyL), vs = [.ref x, .ref y1, .ref y2] ∧ MeeA K ω CG P S Qs L R W H x ∧ CnH K aS aE aV H ∧ Ok2 P S ∧ SqT K H y1 (lets l1) ∧ SqT K H y2 (lets l2) ∧
  ¬ Alike P S ∧ ¬ NoW P S true l1 ∧ ¬ NoW P S false l2 ∧ ∀ e v H', Same H H' → WyT H' e v → Shows2 P S l1 l2 v → mergeW P S l1 l2 = some v → Q (.ref e) H'
section
variable {P : Program} {w : World} {mg : Str → Option Value} {base : Heap} {aS aE aV aD CG CA CT : Addr}
theorem ok_mergeS {f : Addr} {fd : FuncData} (F : Fun K "merging_steps" "merging_steps" s_merging_steps f fd) (D_unlike_meeting : Df P w K mg base 4 "unlike_meeting" (spUnlike K w aS aE aV CG)) (D_meeting_with : Df P w K mg base 4 "meeting_with" (spMeetW K w aS aE aV CG)) (D_both : Df P w K mg base 1 "both" spBoth) (D_has_one_of : Df P w K mg base 1 "has_one_of" (spHasOne K)) : FnOk P w K mg base CX0 5 f fd ["meetings", "first_changed", "second_changed"] (spMergeS K w aS aE aV CG) := by
  refine F.ok sc_merging_steps (fun vs H Q E h => ?_) (fun cdv A outer s H vs Q E hr h => ?_)
  · obtain ⟨x, y1, y2, l1, l2, P, S, Qs, L, R, W, rfl, _⟩ := h
    rfl
  · obtain ⟨x, y1, y2, l1, l2, P1, S1, Qs, L, R, W, rfl, me, cn, ok, hy1, hy2, na, n1, n2, q⟩ := h
    refine ⟨_, (pss_cons (ps_set (i := 3) sc_merging_steps.nd rfl (.inl rfl) (pe_c D_unlike_meeting hr (by decide) (by rfl) (pa_cons (pv 0) pa_nil)))
      (pss_cons (ps_set (i := 4) sc_merging_steps.nd rfl (.inl rfl) (pv 3))
      (pss_cons (ps_if (pt_not (pt_val (pe_c D_has_one_of hr (by decide) (by rfl) (pa_cons (pe_ix (ix_tupK (K := K) rfl) (pv 4) pe_int (fun _ _ => rfl)) (pa_cons (pv 1) pa_nil)))))
        (pss_one (ps_set (i := 4) sc_merging_steps.nd rfl (.inl rfl) (pe_c D_both hr (by decide) (by rfl) (pa_cons (pv 4) (pa_cons (pe_c D_meeting_with hr (by decide) (by rfl) (pa_cons (pv 0) (pa_cons pe_str (pa_cons (pv 1) pa_nil)))) pa_nil)))))
        pss_nil)
      (pss_cons (ps_if (pt_not (pt_val (pe_c D_has_one_of hr (by decide) (by rfl) (pa_cons (pe_ix (ix_tupK (K := K) rfl) (pv 4) pe_int (fun _ _ => rfl)) (pa_cons (pv 2) pa_nil)))))
        (pss_one (ps_set (i := 4) sc_merging_steps.nd rfl (.inl rfl) (pe_c D_both hr (by decide) (by rfl) (pa_cons (pv 4) (pa_cons (pe_c D_meeting_with hr (by decide) (by rfl) (pa_cons (pv 0) (pa_cons pe_str (pa_cons (pv 2) pa_nil)))) pa_nil)))))
        pss_nil)
      (pss_one (ps_ret (pe_ifExp (pt_cmpR op_eq (pe_ix (ix_tupK (K := K) rfl) (pv 4) pe_int (fun _ _ => rfl)) (pe_ix (ix_tupK (K := K) rfl) (pv 4) pe_int (fun _ _ => rfl)) (nomark _)) (pe_c D_both hr (by decide) (by rfl) (pa_cons (pv 3) (pa_cons (pv 4) pa_nil))) (pv 4)))))))), ?_⟩
    refine ⟨_, rfl, x, P1, S1, Qs, L, R, W, rfl, me, cn, ok.p, ok.s, ok.lp, ok.ls, ok.np, fun ak => absurd ak na, fun e u H1 s1 he hu ne lu eu => ?_⟩
    refine ⟨_, rfl, ?_⟩
    dsimp only [List.set_cons_succ, List.set_cons_zero]
    have ru := rows_way hu
    refine sq1 (fun σ' H' => ∃ j v, σ' = [some (.ref x), some (.ref y1), some (.ref y2), some (.ref e), some (.ref j)] ∧ WyT H' j v ∧ RowsW P1 S1 v ∧ (∃ c ∈ v.1, c ∈ l1) ∧ wlen v ≤ 521 ∧ oneW P1 S1 l1 u = some v ∧ Same H1 H') ?_ (fun R' hR => ?_)
    rotate_left
    · refine ⟨_, rfl, e, _, _, _, rfl, rfl, .inl (.inl he), atI_nat (j := 0) rfl, _, rfl, u.1, l1, y1, rfl, by unfold wlen at lu; omega, sq_same hy1 s1, fun H2 s2 => ⟨_, rfl, ?_⟩⟩
      by_cases h1 : ∃ c ∈ u.1, c ∈ l1
      · rw [decide_eq_true h1]
        exact iteF (hR _ _ ⟨e, u, rfl, s2 _ _ he, ru, h1, by omega, if_pos h1, s2⟩)
      · rw [decide_eq_false h1]
        have s12 : Same H H2 := fun b o z => s2 _ _ (s1 _ _ z)
        refine iteT ⟨_, rfl, _, rfl, _, rfl, x, y1, true, l1, P1, S1, Qs, L, R, W, rfl, me.same s12, cn.same s12, ok.p, ok.s, ok.np, sq_same hy1 s12, fun nw => absurd nw n1, fun e3 v3 H3 s3 he3 hw3 hh l3 ew => ?_⟩
        refine ⟨e, e3, u, v3, rfl, s3 _ _ (s2 _ _ he), he3, by omega, by omega, fun j H4 s4 hj => ?_⟩
        refine hR _ _ ⟨j, _, rfl, hj, ru.app (rows_way hw3), ?_, ?_, ?_, fun b o z => s4 _ _ (s3 _ _ (s2 _ _ z))⟩
        · obtain ⟨c, hc, hl⟩ := hh
          exact ⟨c, List.mem_append_right _ hc, hl⟩
        · have := wlen_app u v3
          omega
        · unfold oneW
          rw [if_neg h1, ew]
          rfl
    rintro σ' H2 ⟨j, v, rfl, hj, rv, hv1, lv, eo, s2⟩
    have s02 : Same H H2 := fun b o z => s2 _ _ (s1 _ _ z)
    refine sq1 (fun σ' H' => ∃ j v, σ' = [some (.ref x), some (.ref y1), some (.ref y2), some (.ref e), some (.ref j)] ∧ WyT H' j v ∧ RowsW P1 S1 v ∧ (∃ c ∈ v.1, c ∈ l1) ∧ (∃ c ∈ v.2, c ∈ l2) ∧ wlen v ≤ 782 ∧ (oneW P1 S1 l1 u).bind (twoW P1 S1 l2) = some v ∧ Same H1 H') ?_ (fun R' hR => ?_)
    rotate_left
    · refine ⟨_, rfl, j, _, _, _, rfl, rfl, .inl (.inl hj), atI_nat (j := 1) rfl, _, rfl, v.2, l2, y2, rfl, by unfold wlen at lv; omega, sq_same hy2 s02, fun H3 s3 => ⟨_, rfl, ?_⟩⟩
      by_cases h1 : ∃ c ∈ v.2, c ∈ l2
      · rw [decide_eq_true h1]
        exact iteF (hR _ _ ⟨j, v, rfl, s3 _ _ hj, rv, hv1, h1, by omega, by rw [eo]; exact if_pos h1, fun b o z => s3 _ _ (s2 _ _ z)⟩)
      · rw [decide_eq_false h1]
        have s03 : Same H H3 := fun b o z => s3 _ _ (s02 _ _ z)
        refine iteT ⟨_, rfl, _, rfl, _, rfl, x, y2, false, l2, P1, S1, Qs, L, R, W, rfl, me.same s03, cn.same s03, ok.p, ok.s, ok.np, sq_same hy2 s03, fun nw => absurd nw n2, fun e4 v4 H4 s4 he4 hw4 hh l4 ew => ?_⟩
        refine ⟨j, e4, v, v4, rfl, s4 _ _ (s3 _ _ hj), he4, by omega, by omega, fun j2 H5 s5 hj2 => ?_⟩
        refine hR _ _ ⟨j2, _, rfl, hj2, rv.app (rows_way hw4), ?_, ?_, ?_, ?_, fun b o z => s5 _ _ (s4 _ _ (s3 _ _ (s2 _ _ z)))⟩
        · obtain ⟨c, hc, hl⟩ := hv1
          exact ⟨c, List.mem_append_left _ hc, hl⟩
        · obtain ⟨c, hc, hl⟩ := hh
          exact ⟨c, List.mem_append_right _ hc, hl⟩
        · have := wlen_app v v4
          omega
        · rw [eo]
          show twoW P1 S1 l2 v = _
          unfold twoW
          rw [if_neg h1, ew]
          rfl
    rintro σ' H3 ⟨j2, v2, rfl, hj2, rv2, hv12, hv22, lv2, et, s3⟩
    have em : mergeW P1 S1 l1 l2 = some (if v2.1 = v2.2 then appW u v2 else v2) := by
      unfold mergeW
      rw [eu]
      show (oneW P1 S1 l1 u).bind _ = _
      cases e1 : oneW P1 S1 l1 u with
      | none =>
        rw [e1] at et
        cases et
      | some v =>
        rw [e1] at et
        have et : twoW P1 S1 l2 v = some v2 := et
        show (twoW P1 S1 l2 v).map _ = _
        rw [et]
        rfl
    have s03 : Same H H3 := fun b o z => s3 _ _ (s1 _ _ z)
    refine ⟨_, rfl, j2, _, _, _, rfl, rfl, .inl (.inl hj2), atI_nat (j := 0) rfl, _, rfl, j2, _, _, _, rfl, rfl, .inl (.inl hj2), atI_nat (j := 1) rfl, rfl, _, rfl, ?_⟩
    by_cases hq : v2.1 = v2.2
    · rw [hq, decide_eq_true rfl]
      refine iteT ⟨_, rfl, _, rfl, e, j2, u, v2, rfl, s3 _ _ he, hj2, by omega, by omega, fun j3 H4 s4 hj3 => ?_⟩
      refine q j3 _ H4 (fun b o z => s4 _ _ (s03 _ _ z)) hj3 ⟨ru.app rv2, fun z => ?_, ?_, ?_, ?_⟩ (by rw [em, if_pos hq]; rfl)
      · have z2 : u.1 ++ v2.1 = u.2 ++ v2.2 := z
        rw [hq] at z2
        exact ne (List.append_cancel_right z2)
      · obtain ⟨c, hc, hl⟩ := hv12
        exact ⟨c, List.mem_append_right _ hc, hl⟩
      · obtain ⟨c, hc, hl⟩ := hv22
        exact ⟨c, List.mem_append_right _ hc, hl⟩
      · have := wlen_app u v2
        omega
    · rw [decide_eq_false (fun z => hq (Sx_inj (V.str.inj z)))]
      exact iteF ⟨_, rfl, q j2 v2 H3 s03 hj2 ⟨rv2, hq, hv12, hv22, by omega⟩ (by rw [em, if_neg hq])⟩
end
end V8
set_option Elab.async false
set_option linter.all false
set_option maxRecDepth 100000
set_option maxHeartbeats 8000000
set_option pp.maxSteps 900
/-! Lists of misreadings: checked; pairs of places. -/
namespace V8
open PySem PySem.Spec PyProof.Rows L2 MZ
variable {K : PySem.W.Frag} {ω : World}
abbrev s_check_misreadings : Stmt := topS 42
theorem sc_check_misreadings : FnScope ["value", "at", "item"] ["value"] (defScope s_check_misreadings) := ⟨rfl, rfl, rfl, by decide +kernel, rfl, by decide +kernel, by decide +kernel⟩
abbrev s_check_lists : Stmt := topS 91
theorem sc_check_lists : FnScope ["misreadings", "misreading"] ["misreadings"] (defScope s_check_lists) := ⟨rfl, rfl, rfl, by decide +kernel, rfl, by decide +kernel, by decide +kernel⟩
/-- any walk, by what holds at each turn -/
theorem it_gen {J : It} {n : Nat} {G : Hp → Prop} {Y : Nat → Hp → V → Hp → Prop} (w : Walk J n G Y) {B : V → Hp → (Hp → Prop) → Prop} {H0 : Hp} {Qd : Hp → Prop} (Pv : Nat → Hp → Prop) (h0 : Pv 0 H0) (hG : ∀ i H, i ≤ n → Pv i H → G H)
    (hs : ∀ i x H H', i < n → Pv i H → Y i H x H' → B x H' (Pv (i + 1))) (hd : ∀ H, Pv n H → Qd H) :
    ∃ W : Nat → Nat → Hp → Prop, (∃ m, W 0 m H0) ∧ ∀ i m H, W i m H → (J.stop i H ∧ Qd H) ∨ (J.go i H ∧ ∃ Nx : Hp → Prop, (∀ H', Nx H' → ∃ m', m' < m ∧ W (i + 1) m' H') ∧ ∀ x H', J.yld i H x H' → B x H' Nx) := by
  refine ⟨fun i m H => m = n - i ∧ i ≤ n ∧ Pv i H, ⟨n, by simp, Nat.zero_le _, h0⟩, ?_⟩
  rintro i m H ⟨rfl, hi, p⟩
  have q := hG i H hi p
  by_cases hlt : i < n
  · exact .inr ⟨w.goes i H hlt q, Pv (i + 1), fun H' p' => ⟨n - (i + 1), by omega, rfl, hlt, p'⟩, fun x H' y => hs i x H H' hlt p (w.yields i H x H' hlt q y)⟩
  · have e : i = n := by omega
    subst e
    exact .inl ⟨w.stops H q, hd H p⟩
def rowP (n a : Nat) : List (Nat × Nat) := (List.range (n - a)).map fun b => (a, a + b)
def pfxP (n i : Nat) : List (Nat × Nat) := (List.range i).flatMap (rowP n)
theorem pfx_succ (n i : Nat) : pfxP n (i + 1) = pfxP n i ++ rowP n i := by
  unfold pfxP
  rw [List.range_succ, List.flatMap_append]
  simp
/-- all pairs of places, the first one at most the second one -/
def IpL (H : Hp) (D : Addr) (L : List (Nat × Nat)) : Prop := ∃ ps : List Addr, H D = some (.lst (ps.map V.ref)) ∧ Paired (fun p q => H p = some (.tup [.int (q.1 : Nat), .int (q.2 : Nat)])) ps L
def spIp : Sp := fun vs H Q _ => ∃ n : Nat, vs = [.int (n : Nat)] ∧ n ≤ 4 ∧ ∀ D H', H D = none → Same H H' → IpL H' D (pfxP n n) → Q (.ref D) H'
section
variable {P : Program} {w : World} {mg : Str → Option Value} {base : Heap} {aS aE aV aD CM CJ CG CA CT : Addr}
theorem ok_ip {f : Addr} {fd : FuncData} (F : Fun K "index_pairs" "index_pairs" s_index_pairs f fd) (T : Tp K mg CM CJ) : FnOk P w K mg base CX0 1 f fd ["size"] spIp := by
  refine F.ok sc_index_pairs (fun vs H Q E h => ?_) (fun cdv A outer s H vs Q E hr h => ?_)
  · obtain ⟨n, rfl, _⟩ := h
    rfl
  · obtain ⟨n, rfl, n4, q⟩ := h
    refine ⟨_, (pss_one (ps_ret (pe_lc2 (own := [("first", 1), ("second", 2)]) (vs1 := [2]) (g := gName 1) (g1 := gName 2) (by rfl) sc_index_pairs.nd (pi_range1 (by rfl) T.range (pa_cons (pv 0) pa_nil)) (blkOk_by (own := [("first", 1), ("second", 2)]) (N := n_index_pairs) (sc := defScope s_index_pairs) (by decide +kernel)) (by decide) (fun _ _ _ _ _ => (pg_name (i := 1) sc_index_pairs.nd rfl (.inl rfl))) (fun _ _ _ _ _ => pts_nil) (fun _ _ _ _ _ => (pi_range2 (by rfl) T.range (pa_cons (pv 1) (pa_cons (pv 0) pa_nil)))) (fun _ _ _ _ _ => (pg_name (i := 2) sc_index_pairs.nd rfl (.inl rfl))) (fun _ _ _ _ _ => pts_nil) (fun _ _ _ _ _ => (pe_tup (pa_cons (pv 1) (pa_cons (pv 2) pa_nil))))))), ?_⟩
    refine ⟨_, rfl, _, rfl, ?_⟩
    refine ⟨by omega, by omega, fun D nD => it_gen (walk_range (lo := 0) (n := n)) (fun i H2 => IpL H2 D (pfxP n i) ∧ Same H H2) ⟨⟨[], upd_same, .nil⟩, same_put (s := Same.refl H) nD⟩ (fun _ _ _ _ => trivial) ?_ ?_⟩
    · rintro i x H2 H3 hi ⟨ip, s2⟩ ⟨rfl, rfl⟩
      have e0 : (0 : Int) + ((i : Nat) : Int) = ((i : Nat) : Int) := Int.zero_add _
      show gName 1 (V.int (0 + ((i : Nat) : Int))) _ _ _
      rw [e0]
      have et : (((n : Nat) : Int) - ((i : Nat) : Int)).toNat = n - i := by omega
      refine ⟨rfl, _, rfl, _, rfl, (i : Nat), (n : Nat), rfl, ⟨by omega, by omega, by omega, by omega⟩, ?_⟩
      rw [et]
      refine it_gen (walk_range (lo := ((i : Nat) : Int)) (n := n - i)) (fun j H4 => IpL H4 D (pfxP n i ++ (rowP n i).take j) ∧ Same H H4) ⟨by rw [List.take_zero, List.append_nil]; exact ip, s2⟩ (fun _ _ _ _ => trivial) ?_ ?_
      · rintro j x H4 H5 hj ⟨⟨ps, hD, pp⟩, s4⟩ ⟨rfl, rfl⟩
        have lps : ps.length ≤ 100 := by
          rw [prd_len pp, List.length_append, List.length_take]
          have l1 : (pfxP n i).length ≤ 16 := by
            have hn : n = 0 ∨ n = 1 ∨ n = 2 ∨ n = 3 ∨ n = 4 := by omega
            have hi' : i = 0 ∨ i = 1 ∨ i = 2 ∨ i = 3 := by omega
            rcases hn with rfl | rfl | rfl | rfl | rfl <;> rcases hi' with rfl | rfl | rfl | rfl <;> decide
          have l2 : (rowP n i).length = n - i := by
            unfold rowP
            rw [List.length_map, List.length_range]
          omega
        refine ⟨rfl, _, rfl, _, rfl, by show 2 ≤ sizeLine; decide, fun p np => ?_⟩
        have s5 := same_put (s := Same.refl H5) (o := .tup [.int (i : Nat), .int (((i : Nat) : Int) + ((j : Nat) : Int))]) np
        have hp5 : upd H5 p (.tup [.int (i : Nat), .int (((i : Nat) : Int) + ((j : Nat) : Int))]) p = some (.tup [.int (i : Nat), .int (((i + j : Nat)) : Int)]) := by
          rw [upd_same]
          rfl
        generalize upd H5 p (.tup [.int (i : Nat), .int (((i : Nat) : Int) + ((j : Nat) : Int))]) = H6 at s5 hp5 ⊢
        have hD6 := s5 _ _ hD
        have up : ∀ {q : Addr} {xs : List V}, H6 q = some (.tup xs) → upd H6 D (.lst (ps.map V.ref ++ [.ref p])) q = some (.tup xs) := fun {q xs} z => by
          rw [upd_ne (ne_of z hD6 (fun y => nomatch y))]
          exact z
        refine ⟨_, hD6, by rw [List.length_map, sizeLine_eq]; omega, ⟨ps ++ [p], by rw [upd_same, List.map_append]; rfl, ?_⟩, fun b o z => by rw [upd_ne (ne_of_none z nD)]; exact s5 _ _ (s4 _ _ z)⟩
        have er : (rowP n i)[j]? = some (i, i + j) := by
          unfold rowP
          rw [List.getElem?_map, List.getElem?_range hj]
          rfl
        rw [List.take_add_one, er, ← List.append_assoc]
        exact (prd_imp pp fun _ _ z => up (s5 _ _ z)).snoc (up hp5)
      · rintro H4 ⟨ip4, s4⟩
        rw [List.take_of_length_le (by unfold rowP; rw [List.length_map, List.length_range]; exact Nat.le_refl _), ← pfx_succ] at ip4
        exact ⟨ip4, s4⟩
    · rintro H2 ⟨ip, s2⟩
      exact q D H2 nD s2 ip
end
end V8
set_option Elab.async false
set_option linter.all false
set_option maxRecDepth 100000
set_option maxHeartbeats 8000000
set_option pp.maxSteps 900
/-! Lists of misreadings: checked. -/
namespace V8
open PySem PySem.Spec PyProof.Rows L2 MZ
variable {K : PySem.W.Frag} {ω : World}
structure Tsd (K : PySem.W.Frag) (mg : Str → Option Value) (CM CJ : Addr) : Prop extends Tp K mg CM CJ where
  gMOST_MISREADINGS : GV mg "MOST_MISREADINGS" (.int 4)
  kL : PySem.W.kitAny K (.type "list") [.type "list", .type "tuple"] = some true
  kT : PySem.W.kitAny K (.type "tuple") [.type "list", .type "tuple"] = some true
/-- a list, or a tuple -/
def seqO (b : Bool) (xs : List V) : HO := if b = true then .lst xs else .tup xs
def SeqV (H : Hp) (b : Bool) (a : Addr) (xs : List V) : Prop := H a = some (seqO b xs)
theorem SeqV.sq {H : Hp} {b : Bool} {a : Addr} {xs : List V} (h : SeqV H b a xs) : SqB K b H a xs := by
  cases b with
  | true => exact SqL.of h
  | false => exact SqT.of h
/-- misreadings, one by one -/
def MsL (CM : Addr) (H : Hp) (xs : List V) (us : List Tab) : Prop := Paired (fun v u => ∃ x, v = .ref x ∧ MisAt CM H x u ∧ OkU u) xs us
theorem MsL.same {CM : Addr} {H H' : Hp} {xs : List V} {us : List Tab} (h : MsL CM H xs us) (s : Same H H') : MsL CM H' xs us := prd_imp h fun _ _ ⟨x, e, m, o⟩ => ⟨x, e, m.same2 s, o⟩
def spCkM (CM : Addr) : Sp := fun vs H Q _ => ∃ (a : Addr) (b : Bool) (xs : List V) (us : List Tab), vs = [.ref a] ∧ SeqV H b a xs ∧ MsL CM H xs us ∧ 1 ≤ us.length ∧ us.length ≤ 4 ∧ ∀ H', Same H H' → Q .non H'
section
variable {P : Program} {w : World} {mg : Str → Option Value} {base : Heap} {aS aE aV aD CM CJ CG CA CT : Addr}
theorem ok_ckM {f : Addr} {fd : FuncData} (F : Fun K "check_misreadings" "check_misreadings" s_check_misreadings f fd) (T : Tsd K mg CM CJ) : FnOk P w K mg base CX0 1 f fd ["value"] (spCkM CM) := by
  refine F.ok sc_check_misreadings (fun vs H Q E h => ?_) (fun cdv A outer s H vs Q E hr h => ?_)
  · obtain ⟨a, b, xs, us, rfl, _⟩ := h
    rfl
  · obtain ⟨a, b, xs, us, rfl, ha, hm, l1, l4, q⟩ := h
    refine ⟨_, (pss_cons (ps_if (PW.pt (pw_or (pt_not (pt_val (pe_callB call_isiT (by rfl) T.isinstance (by decide +kernel) (pa_cons (pv 0) (pa_cons (pe_tup (pa_cons (pe_bltn (v := .ty "list") (by rfl) T.list (by decide +kernel) rfl) (pa_cons (pe_bltn (v := .ty "tuple") (by rfl) T.tuple (by decide +kernel) rfl) pa_nil))) pa_nil))))) (pw_or1 (pt_not (pt_chain op_le op_le pe_int (pe_callB (call_len_seqK (K := K) rfl) (by rfl) T.len (by decide +kernel) (pa_cons (pv 0) pa_nil)) (pe_gv T.gMOST_MISREADINGS (by rfl)))))))
        (pss_one ps_never)
        pss_nil)
      (pss_one (ps_for PassesOwn.never rfl (pi_enumQ (by rfl) T.enumerate (pa_cons (pv 0) pa_nil)) (pg_tup (by rfl) (pgs_cons (pg_name (i := 1) sc_check_misreadings.nd rfl (.inl rfl)) (pgs_cons (pg_name (i := 2) sc_check_misreadings.nd rfl (.inl rfl)) pgs_nil)))
        (pss_one (ps_if (pt_not (pt_val (pe_callB call_isi (by rfl) T.isinstance (by decide +kernel) (pa_cons (pv 2) (pa_cons (pe_gv T.gMisreading (by rfl)) pa_nil)))))
          (pss_one ps_never)
          pss_nil))))), ?_⟩
    have lx := prd_len hm
    refine ⟨_, rfl, by show 2 ≤ sizeLine; decide, fun tp ntp => ?_⟩
    have s1 := same_put (s := Same.refl H) (o := .tup [.ty "list", .ty "tuple"]) ntp
    have hp : upd H tp (.tup [.ty "list", .ty "tuple"]) tp = some (.tup [.ty "list", .ty "tuple"]) := upd_same
    generalize upd H tp (.tup [.ty "list", .ty "tuple"]) = H1 at s1 hp ⊢
    have ha1 : SeqV H1 b a xs := s1 _ _ ha
    have ty : TyX K H1 (.ref a) (.type (if b = true then "list" else "tuple")) := by
      cases b with
      | true => exact .base (.lst ha1)
      | false => exact .base (.tup ha1)
    have kit : PySem.W.kitAny K (.type (if b = true then "list" else "tuple")) [.type "list", .type "tuple"] = some true := by
      cases b with
      | true => exact T.kL
      | false => exact T.kT
    have sq : SqL K H1 a xs ∨ SqT K H1 a xs := by
      cases b with
      | true => exact .inl (.of ha1)
      | false => exact .inr (.of ha1)
    refine ⟨.ref a, tp, [.ty "list", .ty "tuple"], _, [.type "list", .type "tuple"], true, rfl, hp, .cons (.ty _) (.cons (.ty _) .nil), ty, kit, true, rfl, iteF ?_⟩
    refine ⟨_, rfl, a, xs, rfl, sq, _, _, rfl, rfl, _, rfl, ?_⟩
    rw [decide_eq_true (show (1 : Int) ≤ ((xs.length : Nat) : Int) by omega), if_pos rfl]
    refine ⟨_, _, rfl, rfl, _, rfl, ?_⟩
    rw [decide_eq_true (show ((xs.length : Nat) : Int) ≤ (4 : Int) by omega)]
    refine iteF (nxtS ?_)
    refine ⟨a, b, rfl, ⟨xs, ha1.sq⟩, ?_⟩
    refine for_it (walk_enumQ (K := K) (b := b) (a := a) (xs := xs)) (fun i σ H2 => (∃ v1 v2 : Option V, σ = [some (.ref a), v1, v2]) ∧ Same H1 H2) ⟨⟨_, _, rfl⟩, Same.refl _⟩ ?_ ?_ ?_
    · rintro i σ H2 hi ⟨_, s2⟩
      exact SeqV.sq (K := K) (show SeqV H2 b a xs from s2 _ _ ha1)
    · rintro i y σ H2 H3 hi ⟨⟨v1, v2, rfl⟩, s2⟩ ⟨t, v, rfl, nt, rfl, hv⟩
      obtain ⟨u, hu, x, rfl, m, o⟩ := prd_at hm hv
      have s3 := same_put (s := s2) (o := .tup [.int (i : Nat), .ref x]) nt
      have m3 := m.same2 (fun b o z => s3 _ _ (s1 _ _ z))
      obtain ⟨dx, fs, hx⟩ := m3.ins
      refine ⟨t, _, rfl, .of upd_same, rfl, _, _, rfl, _, _, rfl, rfl, ?_⟩
      refine ⟨_, rfl, _, .ref CM, .ref CM, .ref CM, true, rfl, .own _, .base (.ins hx T.cl T.tA T.tB T.tC T.tD), T.mM, true, rfl, iteF ?_⟩
      exact ⟨⟨_, _, rfl⟩, s3⟩
    · rintro σ H2 ⟨⟨v1, v2, rfl⟩, s2⟩
      exact q H2 (fun b o z => s2 _ _ (s1 _ _ z))
theorem ok_ckL {f : Addr} {fd : FuncData} (F : Fun K "check_lists" "check_lists" s_check_lists f fd) (T : Tsd K mg CM CJ) (D_check_length : Df P w K mg base 4 "check_length" (spChkL CM)) (D_check_misreadings : Df P w K mg base 1 "check_misreadings" (spCkM CM)) : FnOk P w K mg base CX0 5 f fd ["misreadings"] (spCkM CM) := by
  refine F.ok sc_check_lists (fun vs H Q E h => ?_) (fun cdv A outer s H vs Q E hr h => ?_)
  · obtain ⟨a, b, xs, us, rfl, _⟩ := h
    rfl
  · obtain ⟨a, b, xs, us, rfl, ha, hm, l1, l4, q⟩ := h
    refine ⟨_, (pss_cons (ps_expr (pe_c D_check_misreadings hr (by decide) (by rfl) (pa_cons (pv 0) pa_nil)))
      (pss_one (ps_for PassesOwn.never rfl (pi_seq (pv 0)) (pg_name (i := 1) sc_check_lists.nd rfl (.inl rfl))
        (pss_one (ps_expr (pe_c D_check_length hr (by decide) (by rfl) (pa_cons (pv 1) pa_nil))))))), ?_⟩
    have lx := prd_len hm
    refine ⟨_, rfl, a, b, xs, us, rfl, ha, hm, l1, l4, fun H1 s1 => ?_⟩
    have ha1 : SeqV H1 b a xs := s1 _ _ ha
    refine ⟨a, b, rfl, ⟨xs, ha1.sq⟩, ?_⟩
    refine for_it (walk_seq (K := K) (b := b) (a := a) (xs := xs)) (fun i σ H2 => (∃ v1 : Option V, σ = [some (.ref a), v1]) ∧ Same H1 H2) ⟨⟨_, rfl⟩, Same.refl _⟩ ?_ ?_ ?_
    · rintro i σ H2 hi ⟨_, s2⟩
      exact SeqV.sq (K := K) (show SeqV H2 b a xs from s2 _ _ ha1)
    · rintro i y σ H20 H2 hi ⟨⟨v1, rfl⟩, s2⟩ ⟨rfl, hy⟩
      obtain ⟨u, hu, x, rfl, m, o⟩ := prd_at hm hy
      refine ⟨_, rfl, x, u, rfl, m.same2 (fun b o z => s2 _ _ (s1 _ _ z)), o, fun H3 s3 => ?_⟩
      exact ⟨⟨_, rfl⟩, fun b o z => s3 _ _ (s2 _ _ z)⟩
    · rintro σ H2 ⟨⟨v1, rfl⟩, s2⟩
      exact q H2 (fun b o z => s2 _ _ (s1 _ _ z))
end
end V8
set_option Elab.async false
set_option linter.all false
set_option maxRecDepth 100000
set_option maxHeartbeats 8000000
set_option pp.maxSteps 900
/-! copied of papers; Sound made. -/
namespace V8
open PySem PySem.Spec PyProof.Rows L2 MZ
variable {K : PySem.W.Frag} {ω : World}
abbrev s_Sound_init : Stmt := inClass (topS 86) 0
theorem sc_Sound_init : FnScope ["self", "papers"] ["self", "papers"] (defScope s_Sound_init) := ⟨rfl, rfl, rfl, by decide +kernel, rfl, by decide +kernel, by decide +kernel⟩
/-- an own class that is no list, tuple or dict -/
structure ClsI (K : PySem.W.Frag) (C : Addr) : Prop where
  cl : Cls K C
  tA : PySem.W.findIn K (.ref C) "__class__" = some (some (.builtin "object.__class__"))
  tB : PySem.W.specialIn K (.builtin "object.__class__") "__get__" = some (some (.builtin "getset_descriptor.__get__"))
  tC : PySem.W.takesIn K (.builtin "object.__class__") = some true
  tD : PySem.W.mroIn K C (.type "object") = some true
  kl : PySem.W.kitOne K (.ref C) (.type "list") = some false
  kt : PySem.W.kitOne K (.ref C) (.type "tuple") = some false
  kd : PySem.W.kitOne K (.ref C) (.type "dict") = some false
theorem ClsI.ty {C a dx : Addr} {fs : List (Str × V)} {H : Hp} (c : ClsI K C) (h : H a = some (.ins C dx fs)) : TyX K H (.ref a) (.ref C) := .base (.ins h c.cl c.tA c.tB c.tC c.tD)
def Inst (K : PySem.W.Frag) (H : Hp) (v : V) : Prop := ∃ a C dx fs, v = .ref a ∧ H a = some (.ins C dx fs) ∧ ClsI K C
theorem Inst.same {H H' : Hp} {v : V} (h : Inst K H v) (s : Same H H') : Inst K H' v := by
  obtain ⟨a, C, dx, fs, e, ha, c⟩ := h
  exact ⟨a, C, dx, fs, e, s _ _ ha, c⟩
def spCopI (K : PySem.W.Frag) : Sp := fun vs H Q _ => ∃ x : V, vs = [x] ∧ Inst K H x ∧ Q x H
def spCopP (K : PySem.W.Frag) : Sp := fun vs H Q _ => ∃ (a : Addr) (xs : List V), vs = [.ref a] ∧ H a = some (.tup xs) ∧ xs.length ≤ 1000 ∧ (∀ x ∈ xs, Inst K H x) ∧ ∀ p H', Same H H' → H' p = some (.tup xs) → Q (.ref p) H'
def fSound (a : V) : List (Str × V) := putF "papers" a []
def spSoundI (K : PySem.W.Frag) (C : Addr) : Sp := fun vs H Q _ => ∃ (x dx a : Addr) (xs : List V), vs = [.ref x, .ref a] ∧ H x = some (.ins C dx []) ∧ H a = some (.tup xs) ∧ xs.length ≤ 1000 ∧ (∀ v ∈ xs, Inst K H v) ∧ ∀ p H', ButX x H H' → H' x = some (.ins C dx (fSound (.ref p))) → H' p = some (.tup xs) → Q .non H'
section
variable {P : Program} {w : World} {mg : Str → Option Value} {base : Heap}
theorem ok_copI {f : Addr} {fd : FuncData} (F : Fun K "copied" "copied" s_copied f fd) (T : Te mg) (D_copied : Df P w K mg base 0 "copied" (fun _ _ _ _ => False)) : FnOk P w K mg base CX0 1 f fd ["value"] (spCopI K) := by
  refine F.ok sc_copied (fun vs H Q E h => ?_) (fun cdv A outer s H vs Q E hr h => ?_)
  · obtain ⟨x, rfl, _⟩ := h
    rfl
  · obtain ⟨x, rfl, ⟨a, C, dx, fs, rfl, ha, c⟩, q⟩ := h
    refine ⟨_, (pss_cons (ps_if (pt_val (pe_callB call_isi (by rfl) T.isinstance (by decide +kernel) (pa_cons (pv 0) (pa_cons (pe_bltn (v := .ty "list") (by rfl) T.list (by decide +kernel) rfl) pa_nil))))
        (pss_one (ps_ret (pe_lc (own := [("part", 1)]) (g := gName 1) (by rfl) sc_copied.nd (pi_list (pv 0)) (blkOk_by (own := [("part", 1)]) (N := n_copied) (sc := defScope s_copied) (by decide +kernel)) (fun _ _ _ _ _ => (pg_name (i := 1) sc_copied.nd rfl (.inl rfl))) (fun _ _ _ _ _ => pts_nil) (fun _ _ _ _ _ => (pe_c D_copied hr (Nat.le_refl _) (by rfl) (pa_cons (pv 1) pa_nil))))))
        pss_nil)
      (pss_cons (ps_if (pt_val (pe_callB call_isi (by rfl) T.isinstance (by decide +kernel) (pa_cons (pv 0) (pa_cons (pe_bltn (v := .ty "tuple") (by rfl) T.tuple (by decide +kernel) rfl) pa_nil))))
        (pss_one (ps_ret (pe_callTy (call_tuple_ofK (K := K) rfl) (by rfl) T.tuple (by decide +kernel) (pa_cons (pe_lc (own := [("part", 1)]) (g := gName 1) (by rfl) sc_copied.nd (pi_tup (pv 0)) (blkOk_by (own := [("part", 1)]) (N := n_copied) (sc := defScope s_copied) (by decide +kernel)) (fun _ _ _ _ _ => (pg_name (i := 1) sc_copied.nd rfl (.inl rfl))) (fun _ _ _ _ _ => pts_nil) (fun _ _ _ _ _ => (pe_c D_copied hr (Nat.le_refl _) (by rfl) (pa_cons (pv 1) pa_nil)))) pa_nil))))
        pss_nil)
      (pss_cons (ps_if (pt_val (pe_callB call_isi (by rfl) T.isinstance (by decide +kernel) (pa_cons (pv 0) (pa_cons (pe_bltn (v := .ty "dict") (by rfl) T.dict (by decide +kernel) rfl) pa_nil))))
        (pss_one (ps_ret (pe_lock (pe_dc (own := [("key", 2)]) (g := gName 2) (by rfl) sc_copied.nd (pi_keys (pv 0)) (blkOk_by (own := [("key", 2)]) (N := n_copied) (sc := defScope s_copied) (by decide +kernel)) (fun _ _ _ _ _ => (pg_name (i := 2) sc_copied.nd rfl (.inl rfl))) (fun _ _ _ _ _ => pts_nil) (fun _ _ _ _ _ => (pv 2)) (fun _ _ _ _ _ => (pe_c D_copied hr (Nat.le_refl _) (by rfl) (pa_cons (pe_dget (hu_of hr) (pv 0) (pv 2) (fun _ _ => rfl)) pa_nil)))))))
        pss_nil)
      (pss_one (ps_ret (pv 0)))))), ?_⟩
    refine ⟨_, rfl, _, .ty "list", .ref C, .type "list", false, rfl, .ty _, c.ty ha, c.kl, false, rfl, iteF ?_⟩
    refine ⟨_, rfl, _, .ty "tuple", .ref C, .type "tuple", false, rfl, .ty _, c.ty ha, c.kt, false, rfl, iteF ?_⟩
    refine ⟨_, rfl, _, .ty "dict", .ref C, .type "dict", false, rfl, .ty _, c.ty ha, c.kd, false, rfl, iteF ?_⟩
    exact ⟨_, rfl, q⟩
theorem ok_copP {f : Addr} {fd : FuncData} (F : Fun K "copied" "copied" s_copied f fd) (T : Te mg) (D_copied : Df P w K mg base 1 "copied" (spCopI K)) : FnOk P w K mg base CX0 2 f fd ["value"] (spCopP K) := by
  refine F.ok sc_copied (fun vs H Q E h => ?_) (fun cdv A outer s H vs Q E hr h => ?_)
  · obtain ⟨a, xs, rfl, _⟩ := h
    rfl
  · obtain ⟨a, xs, rfl, ha, l, hi', q⟩ := h
    refine ⟨_, (pss_cons (ps_if (pt_val (pe_callB call_isi (by rfl) T.isinstance (by decide +kernel) (pa_cons (pv 0) (pa_cons (pe_bltn (v := .ty "list") (by rfl) T.list (by decide +kernel) rfl) pa_nil))))
        (pss_one (ps_ret (pe_lc (own := [("part", 1)]) (g := gName 1) (by rfl) sc_copied.nd (pi_list (pv 0)) (blkOk_by (own := [("part", 1)]) (N := n_copied) (sc := defScope s_copied) (by decide +kernel)) (fun _ _ _ _ _ => (pg_name (i := 1) sc_copied.nd rfl (.inl rfl))) (fun _ _ _ _ _ => pts_nil) (fun _ _ _ _ _ => (pe_c D_copied hr (Nat.le_refl _) (by rfl) (pa_cons (pv 1) pa_nil))))))
        pss_nil)
      (pss_cons (ps_if (pt_val (pe_callB call_isi (by rfl) T.isinstance (by decide +kernel) (pa_cons (pv 0) (pa_cons (pe_bltn (v := .ty "tuple") (by rfl) T.tuple (by decide +kernel) rfl) pa_nil))))
        (pss_one (ps_ret (pe_callTy (call_tuple_ofK (K := K) rfl) (by rfl) T.tuple (by decide +kernel) (pa_cons (pe_lc (own := [("part", 1)]) (g := gName 1) (by rfl) sc_copied.nd (pi_tup (pv 0)) (blkOk_by (own := [("part", 1)]) (N := n_copied) (sc := defScope s_copied) (by decide +kernel)) (fun _ _ _ _ _ => (pg_name (i := 1) sc_copied.nd rfl (.inl rfl))) (fun _ _ _ _ _ => pts_nil) (fun _ _ _ _ _ => (pe_c D_copied hr (Nat.le_refl _) (by rfl) (pa_cons (pv 1) pa_nil)))) pa_nil))))
        pss_nil)
      (pss_cons (ps_if (pt_val (pe_callB call_isi (by rfl) T.isinstance (by decide +kernel) (pa_cons (pv 0) (pa_cons (pe_bltn (v := .ty "dict") (by rfl) T.dict (by decide +kernel) rfl) pa_nil))))
        (pss_one (ps_ret (pe_lock (pe_dc (own := [("key", 2)]) (g := gName 2) (by rfl) sc_copied.nd (pi_keys (pv 0)) (blkOk_by (own := [("key", 2)]) (N := n_copied) (sc := defScope s_copied) (by decide +kernel)) (fun _ _ _ _ _ => (pg_name (i := 2) sc_copied.nd rfl (.inl rfl))) (fun _ _ _ _ _ => pts_nil) (fun _ _ _ _ _ => (pv 2)) (fun _ _ _ _ _ => (pe_c D_copied hr (Nat.le_refl _) (by rfl) (pa_cons (pe_dget (hu_of hr) (pv 0) (pv 2) (fun _ _ => rfl)) pa_nil)))))))
        pss_nil)
      (pss_one (ps_ret (pv 0)))))), ?_⟩
    refine ⟨_, rfl, _, .ty "list", .type "tuple", .type "list", false, rfl, .ty _, .base (.tup ha), kit_ty (by decide +kernel), false, rfl, iteF ?_⟩
    refine ⟨_, rfl, _, .ty "tuple", .type "tuple", .type "tuple", true, rfl, .ty _, .base (.tup ha), kit_ty (by decide +kernel), true, rfl, iteT ?_⟩
    refine ⟨_, rfl, a, rfl, ⟨_, .inl (.inl ha)⟩, fun D nD => lc_it (walk_tup (K := K) (a := a) (xs := xs)) (fun i H2 => H2 = upd H D (.lst (xs.take i))) rfl ?_ ?_ ?_⟩
    · rintro i H2 hi rfl
      exact .inl (.inl (by rw [upd_ne (ne_of_none ha nD)]; exact ha))
    · rintro i y H2 H3 hi rfl ⟨rfl, hy⟩
      have s2 := same_put (s := Same.refl H) (o := .lst (xs.take i)) nD
      refine ⟨rfl, _, rfl, y, rfl, (hi' y (List.mem_of_getElem? hy)).same s2, ?_⟩
      exact acc_okL hy (by rw [sizeLine_eq]; omega)
    · rintro H2 rfl
      rw [List.take_length]
      have s2 := same_put (s := Same.refl H) (o := .lst xs) nD
      exact ⟨D, xs, rfl, .inl ⟨SqL.of upd_same, fun b nb => q b _ (same_put (s := s2) nb) upd_same⟩⟩
theorem ok_soundI {C : Addr} {f : Addr} {fd : FuncData} (F : Fun K "__init__" "Sound.__init__" s_Sound_init f fd) (cl : Cls K C) (n0 : NoAttr K C "papers") (D_copied : Df P w K mg base 2 "copied" (spCopP K)) : FnOk P w K mg base CX0 3 f fd ["self", "papers"] (spSoundI K C) := by
  refine F.ok sc_Sound_init (fun vs H Q E h => ?_) (fun cdv A outer s H vs Q E hr h => ?_)
  · obtain ⟨x, dx, a, xs, rfl, _⟩ := h
    rfl
  · obtain ⟨x, dx, a, xs, rfl, hx, ha, l, hi, q⟩ := h
    refine ⟨_, (pss_one (ps_fld (pv 0) (pe_c D_copied hr (by decide) (by rfl) (pa_cons (pv 1) pa_nil)) rfl)), ?_⟩
    refine ⟨_, rfl, a, xs, rfl, ha, l, hi, fun p H1 s1 hp => ?_⟩
    have hx1 := s1 _ _ hx
    refine ⟨_, rfl, x, C, dx, _, rfl, hx1, cl, n0, by show 0 < 1000; decide, ?_⟩
    refine q p _ (fun c o e n => ?_) upd_same ?_
    · rw [upd_ne n]
      exact s1 _ _ e
    · rw [upd_ne (ne_of hp hx1 (fun z => nomatch z))]
      exact hp
end
end V8
set_option Elab.async false
set_option linter.all false
set_option maxRecDepth 100000
set_option maxHeartbeats 8000000
set_option pp.maxSteps 900
/-! sound. -/
namespace V8
open PySem PySem.Spec PyProof.Rows L2 MZ
variable {K : PySem.W.Frag} {ω : World}
abbrev s_sound : Stmt := topS 90
theorem sc_sound : FnScope ["misreadings", "papers", "first", "second", "left", "right", "meetings", "paper", "one", "other"] ["misreadings"] (defScope s_sound) := ⟨rfl, rfl, rfl, by decide +kernel, rfl, by decide +kernel, by decide +kernel⟩
theorem prd_mem_r2 {α β : Type} {R : α → β → Prop} {xs : List α} {ys : List β} (h : Paired R xs ys) {y : β} (m : y ∈ ys) : ∃ x ∈ xs, R x y := by
  induction h with
  | nil => exact nomatch m
  | cons r _ ih =>
    rcases List.mem_cons.mp m with rfl | z
    · exact ⟨_, List.mem_cons_self, r⟩
    · obtain ⟨x, hx, k⟩ := ih z
      exact ⟨x, List.mem_cons_of_mem _ hx, k⟩
def tabI (us : List Tab) (i : Nat) : Tab := (us[i]?).getD []
def FewAll (us : List Tab) : Prop := ∀ u ∈ us, ∀ v ∈ us, FewR (pairsT u) (pairsT v)
/-- what is told of a pair of places -/
def PairV (CA CT : Addr) (us : List Tab) (H : Hp) (v : V) (q : Nat × Nat) : Prop := PapO CA CT (pairsT (tabI us q.1)) (pairsT (tabI us q.2)) (chg (tabI us q.1)) (chg (tabI us q.2)) H v ∧ v ≠ .non
def BadP (us : List Tab) (i j : Nat) : Prop := ¬ Alike (pairsT (tabI us i)) (pairsT (tabI us j)) ∧ ¬ NoW (pairsT (tabI us i)) (pairsT (tabI us j)) true (chg (tabI us i)) ∧ ¬ NoW (pairsT (tabI us i)) (pairsT (tabI us j)) false (chg (tabI us j))
/-- the first bad pair of places -/
def FirstB (us : List Tab) (i j : Nat) : Prop := ∃ k, (pfxP us.length us.length)[k]? = some (i, j) ∧ ∀ (k' : Nat) (q : Nat × Nat), k' < k → (pfxP us.length us.length)[k']? = some q → ¬ BadP us q.1 q.2
/-- what sound answers -/
def SndR (CA CT CS CU : Addr) (us : List Tab) (H : Hp) (z : Addr) : Prop :=
  (∃ dx p xs, H z = some (.ins CS dx (fSound (.ref p))) ∧ H p = some (.tup xs) ∧ Paired (PairV CA CT us H) xs (pfxP us.length us.length)) ∨
  ∃ dx a b c d i j v, H z = some (.ins CU dx (fUnsound a b c d)) ∧ TV H a (.str (Sx v.1)) ∧ TV H b (.int (i : Nat)) ∧ TV H c (.str (Sx v.2)) ∧ TV H d (.int (j : Nat)) ∧ FirstB us i j ∧ BadP us i j ∧ Shows2 (pairsT (tabI us i)) (pairsT (tabI us j)) (chg (tabI us i)) (chg (tabI us j)) v ∧ mergeW (pairsT (tabI us i)) (pairsT (tabI us j)) (chg (tabI us i)) (chg (tabI us j)) = some v
theorem PapO.keep {CA CT : Addr} {P S : List Pr} {l1 l2 : List Nat} {H H' : Hp} {v : V} (p : PapO CA CT P S l1 l2 H v) (k : ∀ b o, H b = some o → (∀ xs, o ≠ .lst xs) → H' b = some o) : PapO CA CT P S l1 l2 H' v := by
  have tv : ∀ {x : V} {d : PyData}, TV H x d → TV H' x d := fun t => t.keep fun b ys e => k b _ e fun _ z => nomatch z
  rcases p with ⟨a, z, dx, l, d, rs, rs', e, h, t1, t2, r⟩ | ⟨a, t, nw, nt, z, dx, s, l, d, rs, rs', e, h, t0, t1, t2, r⟩ | p
  · exact .inl ⟨a, z, dx, l, d, rs, rs', e, k _ _ h (fun _ z => nomatch z), tv t1, tv t2, r⟩
  · exact .inr (.inl ⟨a, t, nw, nt, z, dx, s, l, d, rs, rs', e, k _ _ h (fun _ z => nomatch z), tv t0, tv t1, tv t2, r⟩)
  · exact .inr (.inr p)
theorem PairV.keep {CA CT : Addr} {us : List Tab} {H H' : Hp} {v : V} {q : Nat × Nat} (p : PairV CA CT us H v q) (k : ∀ b o, H b = some o → (∀ xs, o ≠ .lst xs) → H' b = some o) : PairV CA CT us H' v q := ⟨p.1.keep k, p.2⟩
theorem PairV.inst {CA CT : Addr} {us : List Tab} {H : Hp} {v : V} {q : Nat × Nat} (p : PairV CA CT us H v q) (cA : ClsI K CA) (cT : ClsI K CT) : Inst K H v := by
  obtain ⟨p, n⟩ := p
  rcases p with ⟨_, z, dx, l, d, rs, rs', e, h, _⟩ | ⟨_, t, _, _, z, dx, s, l, d, rs, rs', e, h, _⟩ | ⟨e, _⟩
  · exact ⟨z, CA, dx, _, e, h, cA⟩
  · exact ⟨z, CT, dx, _, e, h, cT⟩
  · exact absurd e n
theorem rows_lt {P S : List Pr} (lP : LbOk P) (lS : LbOk S) {v : List Nat × List Nat} (h : RowsW P S v) : (∀ c ∈ v.1, isLt c) ∧ ∀ c ∈ v.2, isLt c := by
  obtain ⟨xs, ys, hx, hy, lx, ly, _⟩ := h
  constructor
  · intro c hc
    rw [← lx] at hc
    obtain ⟨z, hz, rfl⟩ := List.mem_map.mp hc
    exact lP z (hx z hz)
  · intro c hc
    rw [← ly] at hc
    obtain ⟨z, hz, rfl⟩ := List.mem_map.mp hc
    exact lS z (hy z hz)
def spSound (K : PySem.W.Frag) (aS aE aV aD CM CA CT CS CU : Addr) : Sp := fun vs H Q _ => ∃ (a : Addr) (b : Bool) (xs : List V) (us : List Tab), vs = [.ref a] ∧ SeqV H b a xs ∧ MsL CM H xs us ∧ 1 ≤ us.length ∧ us.length ≤ 4 ∧ FewAll us ∧ CnH K aS aE aV H ∧ SqT K H aD [.str (sideS true), .str (sideS false)] ∧
  ∀ z H', Same H H' → H z = none → SndR CA CT CS CU us H' z → Q (.ref z) H'
section
variable {P : Program} {w : World} {mg : Str → Option Value} {base : Heap} {aS aE aV aD CM CJ CG CA CT CS CU : Addr}
theorem ok_sound {f : Addr} {fd : FuncData} (F : Fun K "sound" "sound" s_sound f fd) (T : Tsd K mg CM CJ) (cA : ClsI K CA) (cT : ClsI K CT) (D_check_lists : Df P w K mg base 5 "check_lists" (spCkM CM)) (D_index_pairs : Df P w K mg base 1 "index_pairs" spIp) (D_image_pairs : Df P w K mg base 4 "image_pairs" (spPairs CM)) (D_Meetings : MkC P w K mg base 5 CG "Meetings" (spMee K w aS aE aV CG))
    (D_paper_of : Df P w K mg base 6 "paper_of" (spPaper K w aS aE aV aD CG CA CT)) (D_merging_steps : Df P w K mg base 5 "merging_steps" (spMergeS K w aS aE aV CG)) (D_Unsound : MkC P w K mg base 4 CU "Unsound" (spUnsoundI CU)) (D_Sound : MkC P w K mg base 3 CS "Sound" (spSoundI K CS)) : FnOk P w K mg base CX0 7 f fd ["misreadings"] (spSound K aS aE aV aD CM CA CT CS CU) := by
  refine F.ok sc_sound (fun vs H Q E h => ?_) (fun cdv A outer s H vs Q E hr h => ?_)
  · obtain ⟨a, b, xs, us, rfl, _⟩ := h
    rfl
  · obtain ⟨a, b, xs, us, rfl, ha, hm, l1, l4, few, cn, hD, q⟩ := h
    refine ⟨_, (pss_cons (ps_expr (pe_c D_check_lists hr (by decide) (by rfl) (pa_cons (pv 0) pa_nil)))
      (pss_cons (ps_set (i := 1) sc_sound.nd rfl (.inl rfl) (pe_lst pa_nil))
      (pss_cons (ps_for PassesOwn.never rfl (pi_list (pe_c D_index_pairs hr (by decide) (by rfl) (pa_cons (pe_callB (call_len_seqK (K := K) rfl) (by rfl) T.len (by decide +kernel) (pa_cons (pv 0) pa_nil)) pa_nil))) (pg_tup (by rfl) (pgs_cons (pg_name (i := 2) sc_sound.nd rfl (.inl rfl)) (pgs_cons (pg_name (i := 3) sc_sound.nd rfl (.inl rfl)) pgs_nil)))
        (pss_cons (ps_set (i := 4) sc_sound.nd rfl (.inl rfl) (pe_ix ix_seq (pv 0) (pv 2) (fun _ _ => rfl)))
        (pss_cons (ps_set (i := 5) sc_sound.nd rfl (.inl rfl) (pe_ix ix_seq (pv 0) (pv 3) (fun _ _ => rfl)))
        (pss_cons (ps_set (i := 6) sc_sound.nd rfl (.inl rfl) (pe_mkC D_Meetings hr (by decide) (by rfl) (pa_cons (pe_c D_image_pairs hr (by decide) (by rfl) (pa_cons (pv 4) pa_nil)) (pa_cons (pe_c D_image_pairs hr (by decide) (by rfl) (pa_cons (pv 5) pa_nil)) pa_nil))))
        (pss_cons (ps_set (i := 7) sc_sound.nd rfl (.inl rfl) (pe_c D_paper_of hr (by decide) (by rfl) (pa_cons (pv 6) (pa_cons (pe_fldK (K := K) rfl (pv 4) rfl) (pa_cons (pe_fldK (K := K) rfl (pv 5) rfl) pa_nil)))))
        (pss_cons (ps_if (pt_cmpR op_isN (pv 7) pe_non (nomark _))
          (pss_cons (ps_asg (pe_c D_merging_steps hr (by decide) (by rfl) (pa_cons (pv 6) (pa_cons (pe_fldK (K := K) rfl (pv 4) rfl) (pa_cons (pe_fldK (K := K) rfl (pv 5) rfl) pa_nil)))) (pg_tup (by rfl) (pgs_cons (pg_name (i := 8) sc_sound.nd rfl (.inl rfl)) (pgs_cons (pg_name (i := 9) sc_sound.nd rfl (.inl rfl)) pgs_nil))))
          (pss_one (ps_ret (pe_mkC D_Unsound hr (by decide) (by rfl) (pa_cons (pv 8) (pa_cons (pv 2) (pa_cons (pv 9) (pa_cons (pv 3) pa_nil))))))))
          pss_nil)
        (pss_one (ps_expr (pe_bmK (K := K) rfl PySem.F.plainAttrs_list PySem.F.slot_list_append PySem.F.type_list_append mt_append (pv 1) (pa_cons (pv 7) pa_nil))))))))))
      (pss_one (ps_ret (pe_mkC D_Sound hr (by decide) (by rfl) (pa_cons (pe_callTy (call_tuple_ofK (K := K) rfl) (by rfl) T.tuple (by decide +kernel) (pa_cons (pv 1) pa_nil)) pa_nil))))))), ?_⟩
    have lx := prd_len hm
    refine ⟨_, rfl, a, b, xs, us, rfl, ha, hm, l1, l4, fun H1 s1 => ?_⟩
    have ls_ : ∀ {A : Hp}, Same H A → SeqV A b a xs := fun s => s _ _ ha
    have ixA : ∀ (A : Hp) (k : Nat) (v : V) (R : VK), Same H A → xs[k]? = some v → R v A → rIx K (.ref a) (.int (k : Nat)) A R := fun A k v R s e r => by
      have h := ls_ s
      cases b with
      | true => exact .inl ⟨a, xs, _, v, rfl, rfl, .of h, atI_nat e, r⟩
      | false => exact .inr (.inl ⟨a, xs, _, v, rfl, rfl, .of h, atI_nat e, r⟩)
    have sqA : ∀ (A : Hp), Same H A → SqL K A a xs ∨ SqT K A a xs := fun A s => by
      have h := ls_ s
      cases b with
      | true => exact .inl (.of h)
      | false => exact .inr (.of h)
    refine ⟨Nat.zero_le _, fun pl npl => ?_⟩
    have npH : H pl = none := by
      cases z : H pl with
      | none => rfl
      | some o =>
        rw [s1 _ _ z] at npl
        cases npl
    have sP := same_put (s := s1) (o := .lst []) npl
    have hpl : upd H1 pl (.lst []) pl = some (.lst []) := upd_same
    show tSeq _ _ _ _ (upd H1 pl (.lst []))
    generalize upd H1 pl (.lst []) = H2 at sP hpl ⊢
    refine ⟨_, rfl, a, xs, rfl, sqA H2 sP, xs.length, rfl, by omega, fun D HB nD sB ⟨ps, hD2, pp⟩ => ?_⟩
    have plB := sB _ _ hpl
    have sHB : Same H HB := fun b o z => sB _ _ (sP _ _ z)
    have Dpl : D ≠ pl := fun z => by
      rw [z, hpl] at nD
      cases nD
    have sOf : ∀ {A : Hp}, ButX pl HB A → Same H A := fun k b o z => k _ _ (sHB _ _ z) (ne_of_none z npH)
    have lpp := prd_len pp
    have lpf : (pfxP xs.length xs.length).length ≤ 16 := by
      have hn : xs.length = 0 ∨ xs.length = 1 ∨ xs.length = 2 ∨ xs.length = 3 ∨ xs.length = 4 := by omega
      rcases hn with e | e | e | e | e <;> rw [e] <;> decide
    refine ⟨D, rfl, ⟨_, .of hD2⟩, for_it (walk_list (K := K) (a := D) (xs := ps.map V.ref)) (fun i σ A => (∃ v2 v3 v4 v5 v6 v7 v8 v9 : Option V, σ = [some (.ref a), some (.ref pl), v2, v3, v4, v5, v6, v7, v8, v9]) ∧ ∃ zs, A pl = some (.lst zs) ∧ Paired (PairV CA CT us A) zs ((pfxP xs.length xs.length).take i) ∧ ButX pl HB A) ?_ ?_ ?_ ?_⟩
    · exact ⟨⟨_, _, _, _, _, _, _, _, rfl⟩, [], plB, .nil, fun _ _ e _ => e⟩
    · rintro i σ A hi ⟨_, zs, _, _, kA⟩
      exact .of (kA _ _ hD2 Dpl)
    · rintro i y σ A0 A hi ⟨⟨v2, v3, v4, v5, v6, v7, v8, v9, rfl⟩, zs, hzs, pz, kA⟩ ⟨rfl, hy⟩
      rw [List.getElem?_map] at hy
      obtain ⟨p, hp, rfl⟩ := Option.map_eq_some_iff.mp hy
      obtain ⟨⟨i0, j0⟩, hij, hpt⟩ := prd_at pp hp
      have ppl : p ≠ pl := fun z => by
        rw [z, plB] at hpt
        cases hpt
      have hptA := kA _ _ hpt ppl
      have hmem : (i0, j0) ∈ pfxP xs.length xs.length := List.mem_of_getElem? hij
      have hlt : i0 < xs.length ∧ j0 < xs.length := by
        obtain ⟨a0, h1, h2⟩ := List.mem_flatMap.mp hmem
        obtain ⟨b0, h3, h4⟩ := List.mem_map.mp h2
        cases h4
        have := List.mem_range.mp h1
        have := List.mem_range.mp h3
        omega
      have sA : Same H A := sOf kA
      have mis : ∀ k, k < xs.length → ∃ x, xs[k]? = some (.ref x) ∧ (∀ B, Same H B → MisAt CM B x (tabI us k)) ∧ OkU (tabI us k) ∧ tabI us k ∈ us := fun k hk => by
        obtain ⟨u, hu, x, e, m, o⟩ := prd_at hm (List.getElem?_eq_getElem hk)
        have eu : tabI us k = u := by
          unfold tabI
          rw [hu]
          rfl
        rw [eu]
        exact ⟨x, by rw [List.getElem?_eq_getElem hk, e], fun B s => m.same2 s, o, List.mem_of_getElem? hu⟩
      obtain ⟨x1, e1, m1, o1, in1⟩ := mis i0 hlt.1
      obtain ⟨x2, e2, m2, o2, in2⟩ := mis j0 hlt.2
      have ok2 : Ok2 (pairsT (tabI us i0)) (pairsT (tabI us j0)) := ⟨o1.prOk, o2.prOk, o1.lb, o2.lb, o1.ne, o2.ne, few _ in1 _ in2⟩
      refine ⟨p, _, rfl, .of hptA, rfl, _, _, rfl, _, _, rfl, rfl, ?_⟩
      refine ⟨_, rfl, _, rfl, ixA A i0 _ _ sA e1 ?_⟩
      refine ⟨_, rfl, _, rfl, ixA A j0 _ _ sA e2 ?_⟩
      refine ⟨_, rfl, x1, _, rfl, m1 A sA, o1, fun f1 A1 t1 hf1 => ⟨_, rfl, x2, _, rfl, m2 A1 (fun b o z => t1 _ _ (sA _ _ z)), o2, fun f2 A2 t2 hf2 => fun g dg ng ndg neg => ?_⟩⟩
      have sA2 : Same H A2 := fun b o z => t2 _ _ (t1 _ _ (sA _ _ z))
      have smk := same_mk (C := CG) (o := .own g) ng ndg
      refine ⟨g, dg, f1, f2, pairsT (tabI us i0), pairsT (tabI us j0), rfl, upd_same, (hf1.same t2).same smk, hf2.same smk, (cn.same sA2).same smk, o1.prOk, o2.prOk, o1.ne, fun Qs L R W A3 k3 me => ⟨rfl, ?_⟩⟩
      have s23 : Same A2 A3 := same_butx smk k3 ng
      have sA3 : Same H A3 := fun b o z => s23 _ _ (sA2 _ _ z)
      have sAA3 : Same A A3 := fun b o z => s23 _ _ (t2 _ _ (t1 _ _ z))
      obtain ⟨dx1, a1, b1, c1, hx1, _, _, hc1⟩ := (m1 A3 sA3).at_
      obtain ⟨dx2, a2, b2, c2, hx2, _, _, hc2⟩ := (m2 A3 sA3).at_
      show tSeq _ _ _ _ A3
      refine ⟨_, rfl, _, rfl, x1, CM, dx1, _, .ref c1, rfl, hx1, T.cl, T.nC, f3_C a1 b1 c1, _, rfl, x2, CM, dx2, _, .ref c2, rfl, hx2, T.cl, T.nC, f3_C a2 b2 c2, g, c1, c2, chg (tabI us i0), chg (tabI us j0), _, _, Qs, L, R, W, rfl, me, cn.same sA3, sq_same hD sA3, ok2, .inl (.inl hc1), .inl (.inl hc2), fun v A4 s4 pap => ?_⟩
      have sA4 : Same H A4 := fun b o z => s4 _ _ (sA3 _ _ z)
      have sAA4 : Same A A4 := fun b o z => s4 _ _ (sAA3 _ _ z)
      refine ⟨_, rfl, rfl, _, rfl, ?_⟩
      by_cases hv : v = .non
      · subst hv
        rw [decide_eq_true rfl]
        refine iteT ?_
        have bad : BadP us i0 j0 := by
          rcases pap with ⟨_, _, _, _, _, _, _, z, _⟩ | ⟨_, _, _, _, _, _, _, _, _, _, _, z, _⟩ | ⟨_, b1, b2, b3⟩
          · cases z
          · cases z
          · exact ⟨b1, b2, b3⟩
        have me4 := me.same s4
        have hx14 := s4 _ _ hx1
        have hx24 := s4 _ _ hx2
        refine ⟨_, rfl, _, rfl, x1, CM, dx1, _, .ref c1, rfl, hx14, T.cl, T.nC, f3_C a1 b1 c1, _, rfl, x2, CM, dx2, _, .ref c2, rfl, hx24, T.cl, T.nC, f3_C a2 b2 c2, g, c1, c2, chg (tabI us i0), chg (tabI us j0), _, _, Qs, L, R, W, rfl, me4, cn.same sA4, ok2, .inl (.inl (s4 _ _ hc1)), .inl (.inl (s4 _ _ hc2)), bad.1, bad.2.1, bad.2.2, fun e v A5 s5 hv sh em => ?_⟩
        have sA5 : Same H A5 := fun b o z => s5 _ _ (sA4 _ _ z)
        refine ⟨e, _, rfl, .of hv, rfl, _, _, rfl, _, _, rfl, rfl, ?_⟩
        refine ⟨_, rfl, _, rfl, _, rfl, _, rfl, fun z dz nz ndz nez => ?_⟩
        obtain ⟨lt1, lt2⟩ := rows_lt ok2.lp ok2.ls sh.1
        have smk2 := same_mk (C := CU) (o := .own z) nz ndz
        refine ⟨z, dz, .str (Sx v.1), .int (i0 : Nat), .str (Sx v.2), .int (j0 : Nat), _, _, _, _, rfl, upd_same, .str _, TD.flat (.inr (.inl ⟨_, rfl, ok_sx lt1⟩)) 2, .int _, TD.flat (.inr (.inr ⟨_, rfl⟩)) 2, .str _, TD.flat (.inr (.inl ⟨_, rfl, ok_sx lt2⟩)) 2, .int _, TD.flat (.inr (.inr ⟨_, rfl⟩)) 2, fun u0 u1 u2 u3 A6 k6 hz t0 t1 t2 t3 => ⟨rfl, ?_⟩⟩
        have s56 := same_butx smk2 k6 nz
        have nzH : H z = none := by
          cases e : H z with
          | none => rfl
          | some o =>
            rw [sA5 _ _ e] at nz
            cases nz
        have hijx : (pfxP us.length us.length)[i]? = some (i0, j0) := by rw [← lx]; exact hij
        refine q z A6 (fun b o e => s56 _ _ (sA5 _ _ e)) nzH (.inr ⟨dz, u0, u1, u2, u3, i0, j0, v, hz, t0, t1, t2, t3, ⟨i, hijx, fun k' q hk hq => ?_⟩, bad, sh, em⟩)
        obtain ⟨v', _, pv⟩ := prd_mem_r2 pz (show q ∈ (pfxP xs.length xs.length).take i from List.mem_iff_getElem?.mpr ⟨k', by rw [List.getElem?_take, if_pos hk, lx]; exact hq⟩)
        rcases pv.1 with ⟨ak, _⟩ | ⟨na, t, nw, _⟩ | ⟨z, _⟩
        · exact fun b => b.1 ak
        · intro b
          cases t with
          | true => exact b.2.1 nw
          | false => exact b.2.2 nw
        · exact absurd z pv.2
      · rw [decide_eq_false hv]
        refine iteF (nxtS ?_)
        have hz4 := sAA4 _ _ hzs
        have lz := prd_len pz
        rw [List.length_take] at lz
        refine ⟨_, rfl, .inl ⟨rfl, _, .of hz4⟩, _, rfl, pl, zs, v, rfl, rfl, hz4, by rw [sizeLine_eq]; omega, ?_⟩
        have kp : ∀ b o, A4 b = some o → (∀ xs, o ≠ .lst xs) → upd A4 pl (.lst (zs ++ [v])) b = some o := fun b o z n => by
          rw [upd_ne (fun e => by rw [e, hz4] at z; cases z; exact n _ rfl)]
          exact z
        refine ⟨⟨_, _, _, _, _, _, _, _, rfl⟩, zs ++ [v], upd_same, ?_, fun b o z n => ?_⟩
        · rw [List.take_add_one, hij]
          exact (prd_imp pz fun _ _ z => (z.keep fun b o e _ => sAA4 _ _ e).keep kp).snoc (PairV.keep ⟨pap, hv⟩ kp)
        · rw [upd_ne n]
          exact sAA4 _ _ (kA _ _ z n)
    · rintro σ A ⟨⟨v2, v3, v4, v5, v6, v7, v8, v9, rfl⟩, zs, hzs, pz, kA⟩
      rw [List.length_map, lpp, List.take_length] at pz
      have lz := prd_len pz
      have sA : Same H A := sOf kA
      refine ⟨_, rfl, pl, zs, rfl, .inl ⟨.of hzs, fun l nl => fun z dz nz ndz nez => ?_⟩⟩
      have sl := same_put (s := Same.refl A) (o := .tup zs) nl
      have smk := same_mk (C := CS) (o := .own z) nz ndz
      refine ⟨z, dz, l, zs, rfl, upd_same, smk _ _ upd_same, by omega, fun v hv => ?_, fun p A6 k6 hz hp => ⟨rfl, ?_⟩⟩
      · obtain ⟨k, hk, ek⟩ := List.getElem_of_mem hv
        obtain ⟨q0, _, pv⟩ := prd_at pz (show zs[k]? = some v by rw [List.getElem?_eq_getElem hk, ek])
        exact ((pv.inst cA cT).same sl).same smk
      · have s6 := same_butx smk k6 nz
        have nzH : H z = none := by
          cases e : H z with
          | none => rfl
          | some o =>
            rw [sl _ _ (sA _ _ e)] at nz
            cases nz
        rw [lx] at pz
        exact q z A6 (fun b o e => s6 _ _ (sl _ _ (sA _ _ e))) nzH (.inl ⟨dz, p, zs, hz, hp, prd_imp pz fun _ _ w => w.keep fun b o e _ => s6 _ _ (sl _ _ e)⟩)
end
end V8
set_option Elab.async false
set_option linter.all false
set_option maxRecDepth 100000
set_option maxHeartbeats 8000000
set_option pp.maxSteps 900
/-! Few rests, where the words are few and short. -/
namespace V8
open PySem PySem.Spec PyProof.Rows L2 MZ
theorem sum_few {P : List Pr} {a b : Nat} (l : P.length ≤ a) (h : ∀ q ∈ P, q.1.length ≤ b) : sumL P ≤ a * b := by
  have key : ∀ Q : List Pr, (∀ q ∈ Q, q.1.length ≤ b) → sumL Q ≤ Q.length * b := by
    intro Q
    induction Q with
    | nil => exact fun _ => Nat.zero_le _
    | cons x r ih =>
      intro hx
      have h1 := hx x List.mem_cons_self
      have h2 := ih fun q hq => hx q (List.mem_cons_of_mem _ hq)
      show x.1.length + sumL r ≤ (r.length + 1) * b
      rw [Nat.succ_mul]
      omega
  exact Nat.le_trans (key P h) (Nat.mul_le_mul_right b l)
/-- few rests on a side: all are ends of the words of that side -/
theorem few_of {P S : List Pr} (np : ∀ q ∈ P, q.1 ≠ []) (hP : sumL P ≤ 63) (hS : sumL S ≤ 63) : FewR P S := fun s => by
  have nd := (runQ_reach (P := P) (S := S) 120).1
  have sub : ∀ p ∈ (placesQ P S).filter (onSide s), p ∈ (if s = true then P else S).flatMap fun q => (tails q.1).map (Pl.rest s) := fun p hp => by
    obtain ⟨h1, h2⟩ := List.mem_filter.mp hp
    obtain ⟨w, k⟩ := (runQ_reach (P := P) (S := S) 120).2 p h1
    have z := (reach_uni np k).2
    cases p with
    | start => cases h2
    | fin => cases h2
    | rest a r =>
      have ea : a = s := of_decide_eq_true h2
      subst ea
      cases a with
      | true =>
        obtain ⟨hr, q, hq, c, e⟩ := z
        exact List.mem_flatMap.mpr ⟨q, hq, List.mem_map_of_mem (tails_has _ _ _ e hr)⟩
      | false =>
        obtain ⟨hr, q, hq, c, e⟩ := z
        exact List.mem_flatMap.mpr ⟨q, hq, List.mem_map_of_mem (tails_has _ _ _ e hr)⟩
  have l := nd_le (List.Pairwise.filter (onSide s) nd) sub
  rw [flat_len] at l
  refine Nat.le_trans l ?_
  cases s with
  | true => exact hP
  | false => exact hS
theorem pairs_sum {u : Tab} {a b : Nat} (l : (keysOf u).length ≤ a) (h : ∀ c ∈ keysOf u, ((lookT u c).getD []).length ≤ b) : sumL (pairsT u) ≤ a * b := by
  refine sum_few (by unfold pairsT; rw [List.length_map]; exact l) fun q hq => ?_
  obtain ⟨c, hc, rfl⟩ := List.mem_map.mp hq
  exact h c hc
/-- tables of five letters at most with images of four at most -/
def Small5 (u : Tab) : Prop := (keysOf u).length ≤ 5 ∧ ∀ c ∈ keysOf u, ((lookT u c).getD []).length ≤ 4
theorem few_all {us : List Tab} (h : ∀ u ∈ us, OkU u ∧ Small5 u) : FewAll us := fun u hu v hv => by
  obtain ⟨o1, s1⟩ := h u hu
  obtain ⟨o2, s2⟩ := h v hv
  exact few_of o1.ne (Nat.le_trans (pairs_sum s1.1 s1.2) (by decide)) (Nat.le_trans (pairs_sum s2.1 s2.2) (by decide))
end V8
set_option Elab.async false
set_option linter.all false
set_option maxRecDepth 100000
set_option maxHeartbeats 8000000
set_option pp.maxSteps 900
/-! Two unlike texts with steps to one text; images backwards, other names. -/
namespace V8
open PySem PySem.Spec PyProof.Rows L2 MZ
/-- every label of rows with one text stands in a meeting -/
theorem rows_in_ways {P S : List Pr} (hP : ∀ q ∈ P, q.1 ≠ []) (hS : ∀ q ∈ S, q.1 ≠ []) : ∀ (n : Nat) (xs ys : List Pr), xs.length + ys.length ≤ n → (∀ x ∈ xs, x ∈ P) → (∀ y ∈ ys, y ∈ S) → cat xs = cat ys → ∀ (t : Bool) (c : Nat), c ∈ sideW t (lab xs, lab ys) → ∃ u, Way P S .start .fin u ∧ c ∈ sideW t u
  | n, [], ys, hn, hx, hy, e, t, c, hc => by
    have e2 : ys = [] := cat_empty (fun y m => hS y (hy y m)) e.symm
    subst e2
    cases t <;> cases hc
  | 0, x :: xs, ys, hn, hx, hy, e, t, c, hc => by
    rw [List.length_cons] at hn
    omega
  | n + 1, x :: xs, ys, hn, hx, hy, e, t, c, hc => by
    have hxP := hx x List.mem_cons_self
    have hxs := fun z hz => hx z (List.mem_cons_of_mem _ hz)
    rw [cat_cons] at e
    obtain ⟨x1, x2, y1, y2, ex, ey, k, e2⟩ := way_on hP hS (xs.length + ys.length) true x.1 xs ys (Nat.le_refl _) (hP x hxP) hxs hy (by show x.1 ++ cat xs = cat ys; exact e)
    have h0 : Way P S .start (.rest true x.1) ([x.2], []) := Way.step (P := P) (S := S) (.nil (o := .start)) (t := true) (l := x.2) (q := .rest true x.1) (List.mem_map.mpr ⟨x, hxP, rfl⟩)
    have hl : x1.length + x2.length = xs.length := by rw [ex, List.length_append]
    have hl2 : y1.length + y2.length = ys.length := by rw [ey, List.length_append]
    rw [List.length_cons] at hn
    have kw : Way P S .start .fin ([x.2] ++ lab x1, [] ++ lab y1) := h0.trans k
    have sp : sideW t (lab (x :: xs), lab ys) = sideW t ([x.2] ++ lab x1, [] ++ lab y1) ++ sideW t (lab x2, lab y2) := by
      have e1 : lab (x :: xs) = ([x.2] ++ lab x1) ++ lab x2 := by
        rw [ex]
        show x.2 :: lab (x1 ++ x2) = _
        rw [lab_app]
        rfl
      have e3 : lab ys = ([] ++ lab y1) ++ lab y2 := by rw [ey, lab_app]; rfl
      rw [e1, e3]
      exact side_app t ([x.2] ++ lab x1, [] ++ lab y1) (lab x2, lab y2)
    rw [sp] at hc
    rcases List.mem_append.mp hc with z | z
    · exact ⟨_, kw, z⟩
    · exact rows_in_ways hP hS n x2 y2 (by omega) (fun z m => hxs z (by rw [ex]; exact List.mem_append_right _ m)) (fun z m => hy z (by rw [ey]; exact List.mem_append_right _ m)) e2 t c z
/-- rows of a text and its image -/
theorem rows_of {u : Tab} : ∀ {cs g : List Nat}, imF (lk u) cs = some g → ∃ xs : List Pr, (∀ x ∈ xs, x ∈ pairsT u) ∧ lab xs = cs ∧ cat xs = g
  | [], g, e => by
    cases Option.some.inj e
    exact ⟨[], by simp, rfl, rfl⟩
  | c :: cs, g, e => by
    have h' : (lk u c).bind (fun a => (imF (lk u) cs).map (a ++ ·)) = some g := e
    cases e1 : lk u c with
    | none =>
      rw [e1] at h'
      cases h'
    | some s =>
      cases e2 : imF (lk u) cs with
      | none =>
        rw [e1, e2] at h'
        cases h'
      | some x =>
        rw [e1, e2] at h'
        have h3 : s ++ x = g := Option.some.inj h'
        obtain ⟨xs, hx, lx, cx⟩ := rows_of e2
        obtain ⟨hk, h2⟩ := lk_some e1
        have hp : (s, c) ∈ pairsT u := List.mem_map.mpr ⟨c, hk, by rw [h2]; rfl⟩
        refine ⟨(s, c) :: xs, fun y hy => ?_, ?_, ?_⟩
        · rcases List.mem_cons.mp hy with rfl | hy
          · exact hp
          · exact hx y hy
        · show c :: lab xs = c :: cs
          rw [lx]
        · rw [cat_cons, cx]
          exact h3
theorem chg_not {u : Tab} {c : Nat} {s : List Nat} (e : lk u c = some s) (n : c ∉ chg u) : s = [c] := by
  obtain ⟨hk, h⟩ := lk_some e
  have z : lookT u c = some [c] := Decidable.byContradiction fun k => n (List.mem_filter.mpr ⟨hk, decide_eq_true k⟩)
  rw [h] at z
  exact Option.some.inj z
/-- a text that is not its own image has a letter that is changed -/
theorem changed_in {u : Tab} (hg : ∀ c s, lk u c = some s → c ∉ chg u → s = [c]) : ∀ {cs g : List Nat}, imF (lk u) cs = some g → g ≠ cs → ∃ c ∈ cs, c ∈ chg u
  | [], g, e, n => absurd (Option.some.inj e).symm n
  | c :: cs, g, e, n => by
    have h' : (lk u c).bind (fun a => (imF (lk u) cs).map (a ++ ·)) = some g := e
    cases e1 : lk u c with
    | none =>
      rw [e1] at h'
      cases h'
    | some s =>
      cases e2 : imF (lk u) cs with
      | none =>
        rw [e1, e2] at h'
        cases h'
      | some x =>
        rw [e1, e2] at h'
        have h3 : s ++ x = g := Option.some.inj h'
        by_cases hc : c ∈ chg u
        · exact ⟨c, List.mem_cons_self, hc⟩
        · have es := hg c s e1 hc
          have hx : x ≠ cs := fun z => n (by rw [← h3, es, z]; rfl)
          obtain ⟨d, hd, hd2⟩ := changed_in hg e2 hx
          exact ⟨d, List.mem_cons_of_mem _ hd, hd2⟩
theorem im_cons {f : Nat → Option (List Nat)} {c : Nat} {cs g : List Nat} (e : imF f (c :: cs) = some g) : ∃ s x, f c = some s ∧ imF f cs = some x ∧ s ++ x = g := by
  have h' : (f c).bind (fun a => (imF f cs).map (a ++ ·)) = some g := e
  cases e1 : f c with
  | none =>
    rw [e1] at h'
    cases h'
  | some s =>
    cases e2 : imF f cs with
    | none =>
      rw [e1, e2] at h'
      cases h'
    | some x =>
      rw [e1, e2] at h'
      exact ⟨s, x, rfl, rfl, Option.some.inj h'⟩
theorem im_longer {f : Nat → Option (List Nat)} (hn : ∀ c s, f c = some s → s ≠ []) : ∀ {w g : List Nat}, imF f w = some g → w.length ≤ g.length
  | [], g, e => Nat.zero_le _
  | c :: cs, g, e => by
    obtain ⟨s, x, e1, e2, rfl⟩ := im_cons e
    have h1 := List.length_pos_iff.mpr (hn c s e1)
    have h2 := im_longer hn e2
    rw [List.length_append, List.length_cons]
    omega
/-- a text that is its own image has only letters that are their own images -/
theorem im_own {f : Nat → Option (List Nat)} (hn : ∀ c s, f c = some s → s ≠ []) : ∀ {w : List Nat}, imF f w = some w → ∀ c ∈ w, f c = some [c]
  | [], e => fun c hc => nomatch hc
  | c :: cs, e => by
    obtain ⟨s, x, e1, e2, e3⟩ := im_cons e
    have h2 := im_longer hn e2
    have e4 := congrArg List.length e3
    rw [List.length_append, List.length_cons] at e4
    match s, e1, e3, e4 with
    | [], e1, _, _ => exact absurd rfl (hn c [] e1)
    | [d], e1, e3, _ =>
      have z : d :: x = c :: cs := e3
      have zd : d = c := (List.cons.inj z).1
      have zx : x = cs := (List.cons.inj z).2
      rw [zd] at e1
      rw [zx] at e2
      intro k hk
      rcases List.mem_cons.mp hk with rfl | hk
      · exact e1
      · exact im_own hn e2 k hk
    | _ :: _ :: r, _, _, e4 =>
      rw [List.length_cons, List.length_cons] at e4
      omega
theorem im_app {f : Nat → Option (List Nat)} : ∀ {a b g h : List Nat}, imF f a = some g → imF f b = some h → imF f (a ++ b) = some (g ++ h)
  | [], b, g, h, e, k => by
    have z : g = [] := (Option.some.inj e).symm
    rw [z]
    exact k
  | c :: cs, b, g, h, e, k => by
    obtain ⟨s, x, e1, e2, rfl⟩ := im_cons e
    have z := im_app e2 k
    show (f c).bind (fun a => (imF f (cs ++ b)).map (a ++ ·)) = _
    rw [e1, z, List.append_assoc]
    rfl
theorem lk_pair {u : Tab} (ha : ∀ c ∈ keysOf u, c ∈ abc) (ne : ∀ q ∈ pairsT u, q.1 ≠ []) {q : Pr} (hq : q ∈ pairsT u) : lk u q.2 = some q.1 := by
  have n := ne q hq
  obtain ⟨c, hc, rfl⟩ := List.mem_map.mp hq
  show (if c ∈ abc then lookT u c else none) = some ((lookT u c).getD [])
  rw [if_pos (ha c hc)]
  cases e : lookT u c with
  | none => exact absurd (show ((lookT u c).getD []) = [] by rw [e]; rfl) n
  | some s => rfl
theorem im_rows {u : Tab} (ha : ∀ c ∈ keysOf u, c ∈ abc) (ne : ∀ q ∈ pairsT u, q.1 ≠ []) : ∀ xs : List Pr, (∀ x ∈ xs, x ∈ pairsT u) → imF (lk u) (lab xs) = some (cat xs)
  | [], _ => rfl
  | q :: xs, h => by
    have e1 := lk_pair ha ne (h q List.mem_cons_self)
    have e2 := im_rows ha ne xs fun x hx => h x (List.mem_cons_of_mem _ hx)
    show (lk u q.2).bind (fun a => (imF (lk u) (lab xs)).map (a ++ ·)) = _
    rw [e1, e2, cat_cons]
    rfl
theorem lk_ne {u : Tab} (ne : ∀ q ∈ pairsT u, q.1 ≠ []) : ∀ c s, lk u c = some s → s ≠ [] := fun c s e => by
  obtain ⟨hk, h⟩ := lk_some e
  exact ne (s, c) (List.mem_map.mpr ⟨c, hk, by rw [h]; rfl⟩)
/-- a text with a changed letter is not its own image -/
theorem chg_step {u : Tab} (ne : ∀ q ∈ pairsT u, q.1 ≠ []) {w g : List Nat} (e : imF (lk u) w = some g) (h : ∃ c ∈ w, c ∈ chg u) : g ≠ w := fun z => by
  obtain ⟨c, hc, hg⟩ := h
  rw [z] at e
  have e1 := (lk_some (im_own (lk_ne ne) e c hc)).2
  exact of_decide_eq_true (List.mem_filter.mp hg).2 e1
theorem prd_backW {α β : Type} {R : α → β → Prop} : ∀ {xs : List α} {ys : List β}, Paired R xs ys → ∀ {k : Nat} {y : β}, ys[k]? = some y → ∃ x, xs[k]? = some x ∧ R x y
  | _, _, .nil, _, _, h => nomatch h
  | _, _, .cons r t, 0, _, h => by
    cases h
    exact ⟨_, rfl, r⟩
  | _, _, .cons r t, k + 1, _, h => prd_backW t (k := k) h
/-- two unlike texts with steps to one -/
def Bad2 (u1 u2 : Tab) : Prop := ∃ w1 w2 g, imF (lk u1) w1 = some g ∧ imF (lk u2) w2 = some g ∧ w1 ≠ w2 ∧ g ≠ w1 ∧ g ≠ w2
theorem Bad2.symm {u1 u2 : Tab} (h : Bad2 u1 u2) : Bad2 u2 u1 := by
  obtain ⟨w1, w2, g, a, b, c, d, e⟩ := h
  exact ⟨w2, w1, g, b, a, Ne.symm c, e, d⟩
def NeU (u : Tab) : Prop := ∀ q ∈ pairsT u, q.1 ≠ []
theorem keys_abcA {u : Tab} : ∀ c ∈ keysOf u, c ∈ abc := fun c hc => (keysOf_mem.mp hc).1
def BadPQ (u1 u2 : Tab) : Prop := ¬ Alike (pairsT u1) (pairsT u2) ∧ ¬ NoW (pairsT u1) (pairsT u2) true (chg u1) ∧ ¬ NoW (pairsT u1) (pairsT u2) false (chg u2)
theorem way_im {u1 u2 : Tab} (n1 : NeU u1) (n2 : NeU u2) {v : List Nat × List Nat} (k : Way (pairsT u1) (pairsT u2) .start .fin v) : ∃ g, imF (lk u1) v.1 = some g ∧ imF (lk u2) v.2 = some g := by
  obtain ⟨xs, ys, hx, hy, lx, ly, e⟩ := way_words k
  have e : cat xs = cat ys := e
  refine ⟨cat xs, ?_, ?_⟩
  · rw [← lx]
    exact im_rows keys_abcA n1 xs hx
  · rw [← ly, e]
    exact im_rows keys_abcA n2 ys hy
theorem bad2_iff {u1 u2 : Tab} (n1 : NeU u1) (n2 : NeU u2) : BadPQ u1 u2 ↔ Bad2 u1 u2 := by
  constructor
  · rintro ⟨h1, h2, h3⟩
    obtain ⟨a1, b1, g1, i1, j1, ne⟩ : ∃ a b g, imF (lk u1) a = some g ∧ imF (lk u2) b = some g ∧ a ≠ b := by
      refine Classical.byContradiction fun no => h1 fun v k => Classical.byContradiction fun n => no ?_
      obtain ⟨g, e1, e2⟩ := way_im n1 n2 k
      exact ⟨v.1, v.2, g, e1, e2, n⟩
    obtain ⟨a2, b2, g2, i2, j2, c2, hc2, hd2⟩ : ∃ a b g, imF (lk u1) a = some g ∧ imF (lk u2) b = some g ∧ ∃ c ∈ a, c ∈ chg u1 := by
      refine Classical.byContradiction fun no => h2 fun v k c hc hd => no ?_
      obtain ⟨g, e1, e2⟩ := way_im n1 n2 k
      exact ⟨v.1, v.2, g, e1, e2, c, hc, hd⟩
    obtain ⟨a3, b3, g3, i3, j3, c3, hc3, hd3⟩ : ∃ a b g, imF (lk u1) a = some g ∧ imF (lk u2) b = some g ∧ ∃ c ∈ b, c ∈ chg u2 := by
      refine Classical.byContradiction fun no => h3 fun v k c hc hd => no ?_
      obtain ⟨g, e1, e2⟩ := way_im n1 n2 k
      exact ⟨v.1, v.2, g, e1, e2, c, hc, hd⟩
    have i := im_app i2 i3
    have j := im_app j2 j3
    have ca : ∃ c ∈ a2 ++ a3, c ∈ chg u1 := ⟨c2, List.mem_append_left _ hc2, hd2⟩
    have cb : ∃ c ∈ b2 ++ b3, c ∈ chg u2 := ⟨c3, List.mem_append_right _ hc3, hd3⟩
    by_cases e : a2 ++ a3 = b2 ++ b3
    · refine ⟨a1 ++ (a2 ++ a3), b1 ++ (b2 ++ b3), g1 ++ (g2 ++ g3), im_app i1 i, im_app j1 j, fun z => ?_, chg_step n1 (im_app i1 i) ?_, chg_step n2 (im_app j1 j) ?_⟩
      · rw [e] at z
        exact ne (List.append_cancel_right z)
      · obtain ⟨c, h1, h2⟩ := ca
        exact ⟨c, List.mem_append_right _ h1, h2⟩
      · obtain ⟨c, h1, h2⟩ := cb
        exact ⟨c, List.mem_append_right _ h1, h2⟩
    · exact ⟨_, _, _, i, j, e, chg_step n1 i ca, chg_step n2 j cb⟩
  · rintro ⟨w1, w2, g, i, j, ne, s1, s2⟩
    obtain ⟨xs, hx, lx, ex⟩ := rows_of i
    obtain ⟨ys, hy, ly, ey⟩ := rows_of j
    have ec : cat xs = cat ys := by rw [ex, ey]
    refine ⟨fun ak => ?_, fun nw => ?_, fun nw => ?_⟩
    · have z := (alike_iff n1 n2).mp ak xs ys hx hy ec
      rw [lx, ly] at z
      exact ne z
    · obtain ⟨c, hc, hd⟩ := changed_in (fun c s e n => chg_not e n) i s1
      obtain ⟨w0, k, hw⟩ := rows_in_ways n1 n2 (xs.length + ys.length) xs ys (Nat.le_refl _) hx hy ec true c (by show c ∈ lab xs; rw [lx]; exact hc)
      exact nw w0 k c hw hd
    · obtain ⟨c, hc, hd⟩ := changed_in (fun c s e n => chg_not e n) j s2
      obtain ⟨w0, k, hw⟩ := rows_in_ways n1 n2 (xs.length + ys.length) xs ys (Nat.le_refl _) hx hy ec false c (by show c ∈ lab ys; rw [ly]; exact hc)
      exact nw w0 k c hw hd
theorem bad2_help {u : Tab} {w1 w2 : List Nat} (i : imF (lk u) w1 = some w1) (j : imF (lk u) w2 = some w1) (ne : w1 ≠ w2) : Bad2 u u := by
  refine ⟨w1 ++ w2, w2 ++ w2, w1 ++ w1, im_app i j, im_app j j, fun z => ne (List.append_cancel_right z), fun z => ne (List.append_cancel_left z), fun z => ?_⟩
  have l := congrArg List.length z
  rw [List.length_append, List.length_append] at l
  exact ne (List.append_inj_left z (by omega))
theorem bad2_self {u : Tab} (n : NeU u) : Bad2 u u ↔ ¬ Alike (pairsT u) (pairsT u) := by
  constructor
  · exact fun h => ((bad2_iff n n).mpr h).1
  · intro h
    obtain ⟨a, b, g, i, j, ne⟩ : ∃ a b g, imF (lk u) a = some g ∧ imF (lk u) b = some g ∧ a ≠ b := by
      refine Classical.byContradiction fun no => h fun v k => Classical.byContradiction fun n' => no ?_
      obtain ⟨g, e1, e2⟩ := way_im n n k
      exact ⟨v.1, v.2, g, e1, e2, n'⟩
    by_cases e1 : g = a
    · subst e1
      exact bad2_help i j ne
    by_cases e2 : g = b
    · subst e2
      exact (bad2_help j i (Ne.symm ne)).symm
    exact ⟨a, b, g, i, j, ne, e1, e2⟩
/-! ### one that leaves each letter as it is -/
def Stl (u : Tab) : Prop := ∀ c s, lk u c = some s → s = [c]
theorem stl_im {u : Tab} (h : Stl u) : ∀ {w g : List Nat}, imF (lk u) w = some g → g = w
  | [], g, e => (Option.some.inj e).symm
  | c :: cs, g, e => by
    obtain ⟨s, x, e1, e2, rfl⟩ := im_cons e
    rw [h c s e1, stl_im h e2]
    rfl
theorem stl_bad {u v : Tab} (h : Stl v) : ¬ Bad2 u v := fun ⟨w1, w2, g, _, j, _, _, n⟩ => n (stl_im h j)
theorem stl_bad' {u v : Tab} (h : Stl v) : ¬ Bad2 v u := fun b => stl_bad h b.symm
/-! ### images backwards -/
def Bck (u v : Tab) : Prop := ∀ c, lk v c = (lk u c).map List.reverse
theorem Bck.symm {u v : Tab} (h : Bck u v) : Bck v u := fun c => by
  rw [h c, Option.map_map, show (List.reverse ∘ List.reverse : List Nat → List Nat) = id from funext List.reverse_reverse, Option.map_id]
  rfl
theorem bck_im {u v : Tab} (h : Bck u v) : ∀ {w g : List Nat}, imF (lk u) w = some g → imF (lk v) w.reverse = some g.reverse
  | [], g, e => by
    cases Option.some.inj e
    rfl
  | c :: cs, g, e => by
    obtain ⟨s, x, e1, e2, rfl⟩ := im_cons e
    rw [List.reverse_cons, List.reverse_append]
    refine im_app (bck_im h e2) ?_
    have e3 : lk v c = some s.reverse := by rw [h c, e1]; rfl
    show (lk v c).bind (fun a => (imF (lk v) []).map (a ++ ·)) = _
    rw [e3]
    show some (s.reverse ++ []) = _
    rw [List.append_nil]
theorem rev_ne {a b : List Nat} (h : a ≠ b) : a.reverse ≠ b.reverse := fun z => h (List.reverse_inj.mp z)
theorem bck_bad {u1 u2 v1 v2 : Tab} (h1 : Bck u1 v1) (h2 : Bck u2 v2) (b : Bad2 u1 u2) : Bad2 v1 v2 := by
  obtain ⟨w1, w2, g, i, j, ne, s1, s2⟩ := b
  exact ⟨_, _, _, bck_im h1 i, bck_im h2 j, rev_ne ne, rev_ne s1, rev_ne s2⟩
/-! ### other names -/
structure Nmd (ν : Nat → Nat) (D : List Nat) (u v : Tab) : Prop where
  fwd : ∀ c s, lk u c = some s → c ∈ D ∧ (∀ d ∈ s, d ∈ D) ∧ lk v (ν c) = some (s.map ν)
  bwd : ∀ c' s', lk v c' = some s' → ∃ c s, c' = ν c ∧ lk u c = some s
def InjD (ν : Nat → Nat) (D : List Nat) : Prop := ∀ a ∈ D, ∀ b ∈ D, ν a = ν b → a = b
theorem map_inj_d {ν : Nat → Nat} {D : List Nat} (inj : InjD ν D) : ∀ {a b : List Nat}, (∀ c ∈ a, c ∈ D) → (∀ c ∈ b, c ∈ D) → a.map ν = b.map ν → a = b
  | [], [], _, _, _ => rfl
  | [], _ :: _, _, _, e => nomatch e
  | _ :: _, [], _, _, e => nomatch e
  | x :: a, y :: b, ha, hb, e => by
    rw [List.map_cons, List.map_cons] at e
    rw [inj x (ha x List.mem_cons_self) y (hb y List.mem_cons_self) (List.cons.inj e).1, map_inj_d inj (fun c h => ha c (List.mem_cons_of_mem _ h)) (fun c h => hb c (List.mem_cons_of_mem _ h)) (List.cons.inj e).2]
theorem nmd_im {ν : Nat → Nat} {D : List Nat} {u v : Tab} (h : Nmd ν D u v) : ∀ {w g : List Nat}, imF (lk u) w = some g → (∀ c ∈ w, c ∈ D) ∧ (∀ c ∈ g, c ∈ D) ∧ imF (lk v) (w.map ν) = some (g.map ν)
  | [], g, e => by
    cases Option.some.inj e
    exact ⟨(fun c z => nomatch z), (fun c z => nomatch z), rfl⟩
  | c :: cs, g, e => by
    obtain ⟨s, x, e1, e2, rfl⟩ := im_cons e
    obtain ⟨h1, h2, h3⟩ := h.fwd c s e1
    obtain ⟨k1, k2, k3⟩ := nmd_im h e2
    refine ⟨fun d hd => ?_, fun d hd => ?_, ?_⟩
    · rcases List.mem_cons.mp hd with rfl | hd
      · exact h1
      · exact k1 d hd
    · rcases List.mem_append.mp hd with hd | hd
      · exact h2 d hd
      · exact k2 d hd
    · rw [List.map_cons, List.map_append]
      show (lk v (ν c)).bind (fun a => (imF (lk v) (cs.map ν)).map (a ++ ·)) = _
      rw [h3, k3]
      rfl
theorem nmd_back {ν : Nat → Nat} {D : List Nat} {u v : Tab} (h : Nmd ν D u v) : ∀ {w' g' : List Nat}, imF (lk v) w' = some g' → ∃ w g, w' = w.map ν ∧ g' = g.map ν ∧ imF (lk u) w = some g
  | [], g, e => by
    cases Option.some.inj e
    exact ⟨[], [], rfl, rfl, rfl⟩
  | c' :: cs, g, e => by
    obtain ⟨s', x', e1, e2, rfl⟩ := im_cons e
    obtain ⟨c, s, rfl, e3⟩ := h.bwd c' s' e1
    obtain ⟨w, x, rfl, rfl, e4⟩ := nmd_back h e2
    have e5 := (h.fwd c s e3).2.2
    rw [e1] at e5
    refine ⟨c :: w, s ++ x, rfl, ?_, ?_⟩
    · rw [List.map_append, Option.some.inj e5]
    · show (lk u c).bind (fun a => (imF (lk u) w).map (a ++ ·)) = _
      rw [e3, e4]
      rfl
theorem nmd_bad {ν : Nat → Nat} {D : List Nat} {u1 u2 v1 v2 : Tab} (inj : InjD ν D) (h1 : Nmd ν D u1 v1) (h2 : Nmd ν D u2 v2) : Bad2 v1 v2 ↔ Bad2 u1 u2 := by
  constructor
  · rintro ⟨w1, w2, g, i, j, ne, s1, s2⟩
    obtain ⟨x1, g1, rfl, rfl, i1⟩ := nmd_back h1 i
    obtain ⟨x2, g2, rfl, e, j1⟩ := nmd_back h2 j
    obtain ⟨d1, d2, _⟩ := nmd_im h1 i1
    obtain ⟨d3, d4, _⟩ := nmd_im h2 j1
    have eg := map_inj_d inj d2 d4 e
    subst eg
    exact ⟨x1, x2, g1, i1, j1, fun z => ne (by rw [z]), fun z => s1 (by rw [z]), fun z => s2 (by rw [z])⟩
  · rintro ⟨w1, w2, g, i, j, ne, s1, s2⟩
    obtain ⟨d1, d2, i2⟩ := nmd_im h1 i
    obtain ⟨d3, d4, j2⟩ := nmd_im h2 j
    exact ⟨_, _, _, i2, j2, fun z => ne (map_inj_d inj d1 d3 z), fun z => s1 (map_inj_d inj d2 d1 z), fun z => s2 (map_inj_d inj d2 d3 z)⟩
/-! ### lists -/
def BadL (us : List Tab) : Prop := ∃ u ∈ us, ∃ v ∈ us, Bad2 u v
theorem BadL.sub {us vs : List Tab} (h : ∀ u ∈ us, u ∈ vs) (b : BadL us) : BadL vs := by
  obtain ⟨u, hu, v, hv, b⟩ := b
  exact ⟨u, h u hu, v, h v hv, b⟩
theorem badL_mem {us vs : List Tab} (h : ∀ u, u ∈ us ↔ u ∈ vs) : BadL us ↔ BadL vs := ⟨BadL.sub fun u hu => (h u).mp hu, BadL.sub fun u hu => (h u).mpr hu⟩
theorem badL_still {us : List Tab} {s : Tab} (h : Stl s) {vs : List Tab} (m : ∀ u, u ∈ vs ↔ u ∈ us ∨ u = s) : BadL vs ↔ BadL us := by
  constructor
  · rintro ⟨u, hu, v, hv, b⟩
    rcases (m u).mp hu with hu | rfl
    · rcases (m v).mp hv with hv | rfl
      · exact ⟨u, hu, v, hv, b⟩
      · exact absurd b (stl_bad h)
    · exact absurd b (stl_bad' h)
  · exact BadL.sub fun u hu => (m u).mpr (.inl hu)
theorem badL_map {us : List Tab} {f : Tab → Tab} (h : ∀ u ∈ us, ∀ v ∈ us, Bad2 (f u) (f v) ↔ Bad2 u v) : BadL (us.map f) ↔ BadL us := by
  constructor
  · rintro ⟨u', hu', v', hv', b⟩
    obtain ⟨u, hu, rfl⟩ := List.mem_map.mp hu'
    obtain ⟨v, hv, rfl⟩ := List.mem_map.mp hv'
    exact ⟨u, hu, v, hv, (h u hu v hv).mp b⟩
  · rintro ⟨u, hu, v, hv, b⟩
    exact ⟨f u, List.mem_map_of_mem hu, f v, List.mem_map_of_mem hv, (h u hu v hv).mpr b⟩
theorem badL_one {u : Tab} : BadL [u] ↔ Bad2 u u := by
  constructor
  · rintro ⟨a, ha, b, hb, h⟩
    rw [List.mem_singleton.mp ha, List.mem_singleton.mp hb] at h
    exact h
  · exact fun h => ⟨u, List.mem_singleton_self _, u, List.mem_singleton_self _, h⟩
theorem pfx_mem {n : Nat} {q : Nat × Nat} : q ∈ pfxP n n ↔ q.1 ≤ q.2 ∧ q.2 < n := by
  unfold pfxP rowP
  rw [List.mem_flatMap]
  constructor
  · rintro ⟨i, hi, h⟩
    obtain ⟨j, hj, rfl⟩ := List.mem_map.mp h
    have h1 := List.mem_range.mp hi
    have h2 := List.mem_range.mp hj
    exact ⟨by show i ≤ i + j; omega, by show i + j < n; omega⟩
  · rintro ⟨h1, h2⟩
    refine ⟨q.1, List.mem_range.mpr (by omega), List.mem_map.mpr ⟨q.2 - q.1, List.mem_range.mpr (by omega), ?_⟩⟩
    show (q.1, q.1 + (q.2 - q.1)) = q
    rw [show q.1 + (q.2 - q.1) = q.2 by omega]
end V8
set_option Elab.async false
set_option linter.all false
set_option maxRecDepth 100000
set_option maxHeartbeats 8000000
set_option pp.maxSteps 500
/-! What sound answers; an Unsound that is right is shown. -/
namespace V8
open PySem PySem.Spec PyProof.Rows L2 MZ
abbrev s_is_index : Stmt := topS 26
theorem sc_is_index : FnScope ["value", "size"] ["value", "size"] (defScope s_is_index) := ⟨rfl, rfl, rfl, by decide +kernel, rfl, by decide +kernel, by decide +kernel⟩
abbrev s_can_happen : Stmt := topS 81
theorem sc_can_happen : FnScope ["misreading", "value"] ["misreading", "value"] (defScope s_can_happen) := ⟨rfl, rfl, rfl, by decide +kernel, rfl, by decide +kernel, by decide +kernel⟩
abbrev s_right_unsound : Stmt := topS 101
theorem sc_right_unsound : FnScope ["misreadings", "value", "size", "first", "second", "image"] ["misreadings", "value"] (defScope s_right_unsound) := ⟨rfl, rfl, rfl, by decide +kernel, rfl, by decide +kernel, by decide +kernel⟩
abbrev s_shows_sound : Stmt := topS 98
theorem sc_shows_sound : FnScope ["misreadings", "value"] ["misreadings", "value"] (defScope s_shows_sound) := ⟨rfl, rfl, rfl, by decide +kernel, rfl, by decide +kernel, by decide +kernel⟩
/-- steps of two texts to one -/
def Stp (u1 u2 : Tab) (w1 w2 : List Nat) : Prop := (∃ g, imF (lk u1) w1 = some g ∧ imF (lk u2) w2 = some g ∧ w1 ≠ w2 ∧ g ≠ w1 ∧ g ≠ w2) ∧ (∀ c ∈ w1, isLt c) ∧ (∀ c ∈ w2, isLt c) ∧ w1.length ≤ 2000 ∧ w2.length ≤ 2000
theorem Stp.bad {u1 u2 : Tab} {w1 w2 : List Nat} (h : Stp u1 u2 w1 w2) : Bad2 u1 u2 := by
  obtain ⟨⟨g, a, b, c, d, e⟩, _⟩ := h
  exact ⟨w1, w2, g, a, b, c, d, e⟩
theorem Stp.symm {u1 u2 : Tab} {w1 w2 : List Nat} (h : Stp u1 u2 w1 w2) : Stp u2 u1 w2 w1 := by
  obtain ⟨⟨g, a, b, c, d, e⟩, l1, l2, n1, n2⟩ := h
  exact ⟨⟨g, b, a, Ne.symm c, e, d⟩, l2, l1, n2, n1⟩
theorem Stp.bck {u1 u2 v1 v2 : Tab} {w1 w2 : List Nat} (h1 : Bck u1 v1) (h2 : Bck u2 v2) (h : Stp u1 u2 w1 w2) : Stp v1 v2 w1.reverse w2.reverse := by
  obtain ⟨⟨g, a, b, c, d, e⟩, l1, l2, n1, n2⟩ := h
  exact ⟨⟨_, bck_im h1 a, bck_im h2 b, rev_ne c, rev_ne d, rev_ne e⟩, fun x hx => l1 x (List.mem_reverse.mp hx), fun x hx => l2 x (List.mem_reverse.mp hx), by rw [List.length_reverse]; exact n1, by rw [List.length_reverse]; exact n2⟩
theorem Stp.nmd {ν : Nat → Nat} {D : List Nat} {u1 u2 v1 v2 : Tab} {w1 w2 : List Nat} (inj : InjD ν D) (lt : ∀ c ∈ D, isLt (ν c)) (h1 : Nmd ν D u1 v1) (h2 : Nmd ν D u2 v2) (h : Stp u1 u2 w1 w2) : Stp v1 v2 (w1.map ν) (w2.map ν) := by
  obtain ⟨⟨g, a, b, c, d, e⟩, l1, l2, n1, n2⟩ := h
  obtain ⟨d1, d2, i⟩ := nmd_im h1 a
  obtain ⟨d3, d4, j⟩ := nmd_im h2 b
  refine ⟨⟨_, i, j, fun z => c (map_inj_d inj d1 d3 z), fun z => d (map_inj_d inj d2 d1 z), fun z => e (map_inj_d inj d2 d3 z)⟩, fun x hx => ?_, fun x hx => ?_, by rw [List.length_map]; exact n1, by rw [List.length_map]; exact n2⟩
  · obtain ⟨y, hy, rfl⟩ := List.mem_map.mp hx
    exact lt y (d1 y hy)
  · obtain ⟨y, hy, rfl⟩ := List.mem_map.mp hx
    exact lt y (d3 y hy)
/-- what sound answers, told by texts -/
def SndB (CS CU : Addr) (us : List Tab) (H : Hp) (z : Addr) : Prop :=
  (∃ dx fs, H z = some (.ins CS dx fs) ∧ ¬ BadL us) ∨
  ∃ (dx : Addr) (i j : Nat) (w1 w2 : List Nat), H z = some (.ins CU dx (fUnsound (.str (Sx w1)) (.int (i : Nat)) (.str (Sx w2)) (.int (j : Nat)))) ∧ i < us.length ∧ j < us.length ∧ Stp (tabI us i) (tabI us j) w1 w2 ∧ BadL us
theorem SndB.same {CS CU : Addr} {us : List Tab} {H H' : Hp} {z : Addr} (h : SndB CS CU us H z) (s : Same H H') : SndB CS CU us H' z := by
  rcases h with ⟨dx, fs, h, r⟩ | ⟨dx, i, j, w1, w2, h, r⟩
  · exact .inl ⟨dx, fs, s _ _ h, r⟩
  · exact .inr ⟨dx, i, j, w1, w2, s _ _ h, r⟩
theorem tabI_mem {us : List Tab} {i : Nat} (h : i < us.length) : tabI us i ∈ us := by
  unfold tabI
  rw [List.getElem?_eq_getElem h]
  exact List.getElem_mem h
theorem mem_tabI {us : List Tab} {u : Tab} (h : u ∈ us) : ∃ i, i < us.length ∧ tabI us i = u := by
  obtain ⟨i, hi, e⟩ := List.getElem_of_mem h
  refine ⟨i, hi, ?_⟩
  unfold tabI
  rw [List.getElem?_eq_getElem hi, e]
  rfl
theorem snd_b {CA CT CS CU : Addr} {us : List Tab} {H : Hp} {z : Addr} (ok : ∀ u ∈ us, OkU u) (h : SndR CA CT CS CU us H z) : SndB CS CU us H z := by
  rcases h with ⟨dx, p, xs, hz, _, pr⟩ | ⟨dx, a, b, c, d, i, j, v, hz, ta, tb, tc, td, hm, bad, sh⟩
  · refine .inl ⟨dx, _, hz, ?_⟩
    have key : ∀ i j, i ≤ j → j < us.length → ¬ Bad2 (tabI us i) (tabI us j) := fun i j hij hj b => by
      obtain ⟨k, hk, ek⟩ := List.getElem_of_mem (pfx_mem (n := us.length) (q := (i, j)) |>.mpr ⟨hij, hj⟩)
      obtain ⟨x, hx, pv, nv⟩ := prd_backW pr (y := (i, j)) (k := k) (by rw [List.getElem?_eq_getElem hk, ek])
      have n1 := (ok _ (tabI_mem (show i < us.length by omega))).ne
      have n2 := (ok _ (tabI_mem hj)).ne
      obtain ⟨b1, b2, b3⟩ := (bad2_iff n1 n2).mpr b
      rcases pv with ⟨ak, _⟩ | ⟨_, t, nw, _⟩ | ⟨e, _⟩
      · exact b1 ak
      · cases t with
        | true => exact b2 nw
        | false => exact b3 nw
      · exact nv e
    rintro ⟨u, hu, v, hv, b⟩
    obtain ⟨i, hi, rfl⟩ := mem_tabI hu
    obtain ⟨j, hj, rfl⟩ := mem_tabI hv
    rcases Nat.le_total i j with h | h
    · exact key i j h hj b
    · exact key j i h hi b.symm
  · cases ta
    cases tb
    cases tc
    cases td
    have hij := pfx_mem.mp (List.mem_of_getElem? hm.choose_spec.1)
    have h2 : j < us.length := hij.2
    have h1 : i < us.length := by
      have : i ≤ j := hij.1
      omega
    have o1 := ok _ (tabI_mem h1)
    have o2 := ok _ (tabI_mem h2)
    obtain ⟨lt1, lt2⟩ := rows_lt o1.lb o2.lb sh.1.1
    have hw : wlen v ≤ 1062 := sh.1.2.2.2.2
    unfold wlen at hw
    have st : Stp (tabI us i) (tabI us j) v.1 v.2 := by
      obtain ⟨⟨xs, ys, hx, hy, l1, l2, e⟩, ne, c1, c2, _⟩ := sh.1
      have i1 := im_rows keys_abcA o1.ne xs hx
      have i2 := im_rows keys_abcA o2.ne ys hy
      rw [l1] at i1
      rw [l2, ← e] at i2
      exact ⟨⟨_, i1, i2, ne, chg_step o1.ne i1 c1, chg_step o2.ne i2 c2⟩, lt1, lt2, by omega, by omega⟩
    exact .inr ⟨dx, i, j, v.1, v.2, hz, h1, h2, st, _, tabI_mem h1, _, tabI_mem h2, st.bad⟩
theorem SeqV.or {K : PySem.W.Frag} {H : Hp} {b : Bool} {a : Addr} {xs : List V} (h : SeqV H b a xs) : SqL K H a xs ∨ SqT K H a xs := by
  cases b with
  | true => exact .inl (SqL.of h)
  | false => exact .inr (SqT.of h)
theorem SeqV.ix {K : PySem.W.Frag} {H : Hp} {b : Bool} {a : Addr} {xs : List V} {i : Nat} {v : V} {Q : VK} (h : SeqV H b a xs) (e : xs[i]? = some v) (q : Q v H) : rIx K (.ref a) (.int (i : Nat)) H Q := by
  rcases h.or (K := K) with sq | sq
  · exact .inl ⟨a, xs, _, v, rfl, rfl, sq, atI_nat e, q⟩
  · exact .inr (.inl ⟨a, xs, _, v, rfl, rfl, sq, atI_nat e, q⟩)
theorem ms_at {CM : Addr} {H : Hp} {xs : List V} {us : List Tab} {i : Nat} (h : MsL CM H xs us) (hi : i < us.length) : ∃ x, xs[i]? = some (.ref x) ∧ MisAt CM H x (tabI us i) ∧ OkU (tabI us i) := by
  obtain ⟨v, hv, x, rfl, m, o⟩ := prd_backW h (List.getElem?_eq_getElem hi)
  unfold tabI
  rw [List.getElem?_eq_getElem hi]
  exact ⟨x, hv, m, o⟩
theorem in_two {g w1 w2 : Wd} (n2 : g ≠ w1) (n3 : g ≠ w2) : inV (V.str (Sx g)) [.str (Sx w1), .str (Sx w2)] = false := by
  unfold inV
  rw [List.any_eq_false]
  intro y hy
  rcases List.mem_cons.mp hy with rfl | hy
  · exact fun e => n2 (Sx_inj (beq_iff_eq.mp (show (Sx w1 == Sx g) = true from e))).symm
  · obtain rfl := List.mem_singleton.mp hy
    exact fun e => n3 (Sx_inj (beq_iff_eq.mp (show (Sx w2 == Sx g) = true from e))).symm
structure Tu5 (K : PySem.W.Frag) (mg : Str → Option Value) (CM CJ CS CU : Addr) : Prop extends Tp K mg CM CJ where
  gSound : GV mg "Sound" (.ref CS)
  gUnsound : GV mg "Unsound" (.ref CU)
  clU : Cls K CU
  u1 : PySem.W.findIn K (.ref CU) "one" = some none
  u2 : PySem.W.findIn K (.ref CU) "first" = some none
  u3 : PySem.W.findIn K (.ref CU) "other" = some none
  u4 : PySem.W.findIn K (.ref CU) "second" = some none
  kUS : PySem.W.kitOne K (.ref CU) (.ref CS) = some false
  kUU : PySem.W.kitOne K (.ref CU) (.ref CU) = some true
  tyU : ∀ (H : Hp) (x dx : Addr) (fs : List (Str × V)), H x = some (.ins CU dx fs) → TyX K H (.ref x) (.ref CU)
def spIdx : Sp := fun vs H Q _ => ∃ i n : Nat, vs = [.int (i : Nat), .int (n : Nat)] ∧ i < n ∧ n ≤ 100 ∧ Q (.bl true) H
def spCan (CM : Addr) : Sp := fun vs H Q _ => ∃ (x : Addr) (u : Tab) (cs r : List Nat), vs = [.ref x, .str (Sx cs)] ∧ MisAt CM H x u ∧ (∀ c ∈ cs, isLt c) ∧ cs.length ≤ 2000 ∧ imF (lk u) cs = some r ∧ ∀ H', Same H H' → Q (.bl true) H'
def spRU (CM CU : Addr) : Sp := fun vs H Q _ => ∃ (a z dz : Addr) (b : Bool) (xs : List V) (us : List Tab) (i j : Nat) (w1 w2 : List Nat), vs = [.ref a, .ref z] ∧ SeqV H b a xs ∧ MsL CM H xs us ∧ us.length ≤ 4 ∧ (∀ u ∈ us, Bnd 64 (lk u)) ∧ H z = some (.ins CU dz (fUnsound (.str (Sx w1)) (.int (i : Nat)) (.str (Sx w2)) (.int (j : Nat)))) ∧ i < us.length ∧ j < us.length ∧ Stp (tabI us i) (tabI us j) w1 w2 ∧ ∀ H', Same H H' → Q (.bl true) H'
theorem op_notIn_seqK {X : Cx} {K : PySem.W.Frag} (hK : X.K = K) : OpR X (compareOp .NotIn) (rIn K true) := by
  subst hK
  exact op_notIn_seq
section
variable {P : Program} {w : World} {K : PySem.W.Frag} {mg : Str → Option Value} {base : Heap} {CM CJ CS CU : Addr}
theorem ok_index {f : Addr} {fd : FuncData} (F : Fun K "is_index" "is_index" s_is_index f fd) (D_is_between : Df P w K mg base 2 "is_between" spBtw) : FnOk P w K mg base CX0 3 f fd ["value", "size"] spIdx := by
  refine F.ok sc_is_index (fun vs H Q E h => ?_) (fun cdv A outer s H vs Q E hr h => ?_)
  · obtain ⟨i, n, rfl, _⟩ := h
    rfl
  · obtain ⟨i, n, rfl, h1, h2, q⟩ := h
    refine ⟨_, (pss_one (ps_ret (pe_c D_is_between hr (by decide) (by rfl) (pa_cons (pv 0) (pa_cons pe_int (pa_cons (pe_op op_sub (pv 1) pe_int) pa_nil)))))), ?_⟩
    refine ⟨_, rfl, _, rfl, _, _, rfl, rfl, _, _, _, rfl, by omega, by omega, q⟩
theorem ok_can {f : Addr} {fd : FuncData} (F : Fun K "can_happen" "can_happen" s_can_happen f fd) (T : Tz K mg CM CJ) (D_is_text : Df P w K mg base 2 "is_text" spIsText) (D_first_barred : Mf P w K mg base 1 CM "first_barred" (spFB CM)) : FnOk P w K mg base CX0 3 f fd ["misreading", "value"] (spCan CM) := by
  refine F.ok sc_can_happen (fun vs H Q E h => ?_) (fun cdv A outer s H vs Q E hr h => ?_)
  · obtain ⟨x, u, cs, r, rfl, _⟩ := h
    rfl
  · obtain ⟨x, u, cs, r, rfl, mx, hl, h2, er, q⟩ := h
    refine ⟨_, (pss_one (ps_ret (pe_and (pe_c D_is_text hr (by decide) (by rfl) (pa_cons (pv 1) pa_nil)) (pe_one (pe_cmpR op_isN (pe_mt T.cl D_first_barred hr (by decide) (pv 0) (pa_cons (pv 1) pa_nil)) pe_non (nomark _)))))), ?_⟩
    obtain ⟨dx, a, b, c', hx, ha, hb, hc⟩ := id mx.at_
    refine ⟨_, rfl, cs, rfl, hl, h2, true, rfl, iteT ?_⟩
    refine ⟨_, rfl, x, dx, _, rfl, hx, f3_no (by decide +kernel) (by decide +kernel) (by decide +kernel), _, rfl, x, u, cs, rfl, mx, by omega, fun r' H3 er' s3 => ⟨rfl, by rw [decide_eq_true rfl]; exact q _ s3⟩, fun k H3 hk en s3 => ?_⟩
    rw [er] at en
    cases en
theorem ok_rightU {f : Addr} {fd : FuncData} (F : Fun K "right_unsound" "right_unsound" s_right_unsound f fd) (T : Tu5 K mg CM CJ CS CU) (D_is_index : Df P w K mg base 3 "is_index" spIdx) (D_can_happen : Df P w K mg base 3 "can_happen" (spCan CM)) (D_image : Mf P w K mg base 1 CM "image" (spImg CM)) : FnOk P w K mg base CX0 4 f fd ["misreadings", "value"] (spRU CM CU) := by
  refine F.ok sc_right_unsound (fun vs H Q E h => ?_) (fun cdv A outer s H vs Q E hr h => ?_)
  · obtain ⟨a, z, dz, b, xs, us, i, j, w1, w2, rfl, _⟩ := h
    rfl
  · obtain ⟨a, z, dz, b, xs, us, i, j, w1, w2, rfl, ha, hm, l4, bd, hz, hi, hj, st, q⟩ := h
    refine ⟨_, (pss_cons (ps_set (i := 2) sc_right_unsound.nd rfl (.inl rfl) (pe_callB (call_len_seqK (K := K) rfl) (by rfl) T.len (by decide +kernel) (pa_cons (pv 0) pa_nil)))
      (pss_cons (ps_if (PW.pt (pw_or (pt_not (pt_val (pe_c D_is_index hr (by decide) (by rfl) (pa_cons (pe_fldK (K := K) rfl (pv 1) rfl) (pa_cons (pv 2) pa_nil))))) (pw_or1 (pt_not (pt_val (pe_c D_is_index hr (by decide) (by rfl) (pa_cons (pe_fldK (K := K) rfl (pv 1) rfl) (pa_cons (pv 2) pa_nil))))))))
        (pss_one (ps_ret pe_bl))
        pss_nil)
      (pss_cons (ps_set (i := 3) sc_right_unsound.nd rfl (.inl rfl) (pe_ix ix_seq (pv 0) (pe_fldK (K := K) rfl (pv 1) rfl) (fun _ _ => rfl)))
      (pss_cons (ps_set (i := 4) sc_right_unsound.nd rfl (.inl rfl) (pe_ix ix_seq (pv 0) (pe_fldK (K := K) rfl (pv 1) rfl) (fun _ _ => rfl)))
      (pss_cons (ps_if (PW.pt (pw_or (pt_not (pt_val (pe_c D_can_happen hr (by decide) (by rfl) (pa_cons (pv 3) (pa_cons (pe_fldK (K := K) rfl (pv 1) rfl) pa_nil))))) (pw_or (pt_not (pt_val (pe_c D_can_happen hr (by decide) (by rfl) (pa_cons (pv 4) (pa_cons (pe_fldK (K := K) rfl (pv 1) rfl) pa_nil))))) (pw_or1 (pt_cmpR op_eq (pe_fldK (K := K) rfl (pv 1) rfl) (pe_fldK (K := K) rfl (pv 1) rfl) (nomark _))))))
        (pss_one (ps_ret pe_bl))
        pss_nil)
      (pss_cons (ps_set (i := 5) sc_right_unsound.nd rfl (.inl rfl) (pe_mt T.cl D_image hr (by decide) (pv 3) (pa_cons (pe_fldK (K := K) rfl (pv 1) rfl) pa_nil)))
      (pss_one (ps_ret (pe_and (pe_cmpR op_eq (pv 5) (pe_mt T.cl D_image hr (by decide) (pv 4) (pa_cons (pe_fldK (K := K) rfl (pv 1) rfl) pa_nil)) (nomark _)) (pe_one (pe_cmpR (op_notIn_seqK (K := K) rfl) (pv 5) (pe_tup (pa_cons (pe_fldK (K := K) rfl (pv 1) rfl) (pa_cons (pe_fldK (K := K) rfl (pv 1) rfl) pa_nil))) rfl))))))))))), ?_⟩
    have lx := prd_len hm
    have sq : SqL K H a xs ∨ SqT K H a xs := ha.or
    obtain ⟨x1, e1, m1, o1⟩ := ms_at hm hi
    obtain ⟨x2, e2, m2, o2⟩ := ms_at hm hj
    have bd1 := bd _ (tabI_mem hi)
    have bd2 := bd _ (tabI_mem hj)
    obtain ⟨⟨g, i1, i2, n1, n2, n3⟩, l1, l2, b1, b2⟩ := st
    refine ⟨_, rfl, a, xs, rfl, sq, ?_⟩
    rw [lx]
    refine ⟨_, rfl, z, CU, dz, _, _, rfl, hz, T.clU, T.u2, fUnsound_1 .., _, rfl, i, _, rfl, hi, by omega, true, rfl, ?_⟩
    refine iteF ?_
    refine ⟨_, rfl, z, CU, dz, _, _, rfl, hz, T.clU, T.u4, fUnsound_3 .., _, rfl, j, _, rfl, hj, by omega, true, rfl, ?_⟩
    refine iteF ?_
    refine ⟨_, rfl, _, rfl, z, CU, dz, _, _, rfl, hz, T.clU, T.u2, fUnsound_1 .., ha.ix e1 ?_⟩
    refine ⟨_, rfl, _, rfl, z, CU, dz, _, _, rfl, hz, T.clU, T.u4, fUnsound_3 .., ha.ix e2 ?_⟩
    refine ⟨_, rfl, _, rfl, z, CU, dz, _, _, rfl, hz, T.clU, T.u1, fUnsound_0 .., x1, _, w1, g, rfl, m1, l1, b1, i1, fun H1 s1 => ⟨_, rfl, iteF ?_⟩⟩
    refine ⟨_, rfl, _, rfl, z, CU, dz, _, _, rfl, s1 _ _ hz, T.clU, T.u3, fUnsound_2 .., x2, _, w2, g, rfl, m2.same2 s1, l2, b2, i2, fun H2 s2 => ⟨_, rfl, iteF ?_⟩⟩
    have s12 := s1.trans s2
    have sx_ne : ∀ {v w : Wd}, v ≠ w → V.str (Sx v) ≠ V.str (Sx w) := fun h e => h (Sx_inj (by injection e))
    refine ⟨_, rfl, z, CU, dz, _, _, rfl, s12 _ _ hz, T.clU, T.u1, fUnsound_0 .., _, rfl, z, CU, dz, _, _, rfl, s12 _ _ hz, T.clU, T.u3, fUnsound_2 .., rfl, ?_⟩
    rw [decide_eq_false (sx_ne n1)]
    refine ⟨_, rfl, iteF ?_⟩
    obtain ⟨dx1, a1, b1', c1, hx1, _⟩ := id m1.at_
    obtain ⟨dx2, a2, b2', c2, hx2, _⟩ := id m2.at_
    refine ⟨_, rfl, x1, dx1, _, rfl, s12 _ _ hx1, f3_no (by decide +kernel) (by decide +kernel) (by decide +kernel), _, rfl, z, CU, dz, _, _, rfl, s12 _ _ hz, T.clU, T.u1, fUnsound_0 .., x1, _, w1, g, rfl, m1.same2 s12, bd1, i1, b1, fun H3 s3 => ?_⟩
    have s13 := s12.trans s3
    refine ⟨_, rfl, _, rfl, x2, dx2, _, rfl, s13 _ _ hx2, f3_no (by decide +kernel) (by decide +kernel) (by decide +kernel), _, rfl, z, CU, dz, _, _, rfl, s13 _ _ hz, T.clU, T.u3, fUnsound_2 .., x2, _, w2, g, rfl, m2.same2 s13, bd2, i2, b2, fun H4 s4 => ?_⟩
    have s14 := s13.trans s4
    refine ⟨rfl, ?_⟩
    rw [decide_eq_true rfl]
    refine ⟨_, rfl, iteT ?_⟩
    refine ⟨_, rfl, _, rfl, z, CU, dz, _, _, rfl, s14 _ _ hz, T.clU, T.u1, fUnsound_0 .., _, rfl, z, CU, dz, _, _, rfl, s14 _ _ hz, T.clU, T.u3, fUnsound_2 .., by show 2 ≤ sizeLine; decide, fun p np => ⟨p, [.str (Sx w1), .str (Sx w2)], rfl, .inr (SqT.of upd_same), rfl, rfl, ?_⟩⟩
    have hin : inV (V.str (Sx g)) [.str (Sx w1), .str (Sx w2)] = false := in_two n2 n3
    rw [hin]
    exact q _ (same_put s14 np)
end
end V8
set_option Elab.async false
set_option linter.all false
set_option maxRecDepth 100000
set_option maxHeartbeats 8000000
set_option pp.maxSteps 900
/-! Tables drawn: near ones, lists of them. -/
namespace V8
open PySem PySem.Spec PyProof.Rows L2 MZ
variable {K : PySem.W.Frag} {ω : World}
abbrev s__law_near : Stmt := topS 110
theorem sc__law_near : FnScope ["_law_pen_here", "_law_table_here", "_law_some", "_law_found", "_law_letter", "_law_way"] ["_law_pen_here", "_law_table_here", "_law_some"] (defScope s__law_near) := ⟨rfl, rfl, rfl, by decide +kernel, rfl, by decide +kernel, by decide +kernel⟩
abbrev s__law_tables : Stmt := topS 111
theorem sc__law_tables : FnScope ["_law_pen_here", "_law_most", "_law_some", "_law_found", "_law_k", "_law_way"] ["_law_pen_here", "_law_most"] (defScope s__law_tables) := ⟨rfl, rfl, rfl, by decide +kernel, rfl, by decide +kernel, by decide +kernel⟩
def spNear : Sp := fun vs H Q _ => ∃ (p l d so : Addr) (ns : List Int) (n : Nat) (cs : List Nat) (t : Tab), vs = [.ref p, .ref d, .ref so] ∧ PenAt H p l ns (n + 300) ∧ H d = some (.dK (encT t)) ∧ GoodT cs t ∧ H so = some (.lst (lets cs)) ∧ so ≠ p ∧ cs ≠ [] ∧ cs.length ≤ 26 ∧ (∀ c ∈ cs, isLt c) ∧
  ∀ (e : Addr) (t2 : Tab) (H' : Hp), GoodT cs t2 → PenAt H' p l ns n → Fr p H H' → H e = none → H' e = some (.dK (encT t2)) → Q (.ref e) H'
theorem drop_encN (t : Tab) (c : Nat) : dropK (encT t) (Sum.inr (L1 c)) = encT (t.filter fun q => decide (q.1 ≠ c)) := by
  unfold dropK encT
  induction t with
  | nil => rfl
  | cons q r ih =>
    rw [List.map_cons, List.filter_cons, List.filter_cons]
    have e : decide ((Sum.inr (L1 q.1) : Key) ≠ Sum.inr (L1 c)) = decide (q.1 ≠ c) := by
      rw [decide_eq_decide]
      have k := key_dec q.1 c
      rw [decide_eq_decide] at k
      exact not_congr k
    show (if decide ((Sum.inr (L1 q.1) : Key) ≠ Sum.inr (L1 c)) = true then _ else _) = _
    rw [e]
    by_cases h : decide (q.1 ≠ c) = true
    · rw [if_pos h, if_pos h, ih]
      rfl
    · rw [if_neg h, if_neg h, ih]
theorem good_drop {cs : List Nat} {t : Tab} (g : GoodT cs t) (c : Nat) : GoodT cs (t.filter fun q => decide (q.1 ≠ c)) :=
  ⟨List.Pairwise.sublist (List.Sublist.map _ (List.filter_sublist)) g.nd, fun q hq => g.key q (List.mem_filter.mp hq).1, fun q hq => g.img q (List.mem_filter.mp hq).1⟩
/-- tables, one by one, in the heap -/
def TbL (H : Hp) (cs : List Nat) (ds : List Addr) (ts : List Tab) : Prop := Paired (fun d t => H d = some (.dK (encT t)) ∧ GoodT cs t) ds ts
def spTables : Sp := fun vs H Q _ => ∃ (p l : Addr) (ns : List Int) (n m : Nat), vs = [.ref p, .int (m : Nat)] ∧ PenAt H p l ns (n + 2000) ∧ 1 ≤ m ∧ m ≤ 4 ∧
  ∀ (D : Addr) (ds : List Addr) (ts : List Tab) (cs : List Nat) (H' : Hp), cs ≠ [] → cs.length ≤ 5 → cs.Nodup → (∀ c ∈ cs, isLt c) → H' D = some (.lst (ds.map V.ref)) → TbL H' cs ds ts → 1 ≤ ts.length → ts.length ≤ m → PenAt H' p l ns n → Fr p H H' → H D = none → Q (.ref D) H'
theorem atI_m1 {xs : List V} {v : V} (h : xs[xs.length - 1]? = some v) : atI xs (-1) = some v := by
  have l : 0 < xs.length := by
    cases xs with
    | nil => simp at h
    | cons _ _ => exact Nat.succ_pos _
  unfold atI ixN
  rw [if_neg (by decide), if_pos (by omega)]
  have e : (-1 + ((xs.length : Nat) : Int)).toNat = xs.length - 1 := by omega
  show (xs[(-1 + ((xs.length : Nat) : Int)).toNat]? : Option V) = _
  rw [e]
  exact h
section
variable {P : Program} {w : World} {mg : Str → Option Value} {base : Heap}
theorem ok_near {f : Addr} {fd : FuncData} (F : Fun K "_law_near" "_law_near" s__law_near f fd) (T : Blt mg) (D_draw : Df P w K mg base 1 "_law_draw" spDraw) (D_pick : Df P w K mg base 2 "_law_pick" (spPick K)) (D_any_image : Df P w K mg base 3 "_law_any_image" spImage) : FnOk P w K mg base CX0 4 f fd ["_law_pen_here", "_law_table_here", "_law_some"] spNear := by
  refine F.ok sc__law_near (fun vs H Q E h => ?_) (fun cdv A outer s H vs Q E hr h => ?_)
  · obtain ⟨p, l, d, so, ns, n, cs, t, rfl, _⟩ := h
    rfl
  · obtain ⟨p, l, d, so, ns, n, cs, t, rfl, PA, hd, G, hso, hsp, hne, h26, hlt, q⟩ := h
    refine ⟨_, (pss_cons (ps_set (i := 3) sc__law_near.nd rfl (.inl rfl) (pe_callTy call_dictD (by rfl) T.dict (by decide +kernel) (pa_cons (pv 1) pa_nil)))
      (pss_cons (ps_for PassesOwn.never rfl (pi_list (pv 2)) (pg_name (i := 4) sc__law_near.nd rfl (.inl rfl))
        (pss_cons (ps_set (i := 5) sc__law_near.nd rfl (.inl rfl) (pe_c D_draw hr (by decide) (by rfl) (pa_cons (pv 0) (pa_cons pe_int pa_nil))))
        (pss_one (ps_if (PW.pt (pw_and (pt_cmpR op_eq (pv 5) pe_int (nomark _)) (pw_and1 (pt_cmp (pc_din (hu_of hr) (pv 4) (pv 3))))))
          (pss_one (ps_expr (pe_dpop1 (pv 3) (pv 4) ⟨by rfl, by rfl, by rfl, by rfl⟩)))
          (pss_one (ps_if (pt_cmpR op_eq (pv 5) pe_int (nomark _))
            (pss_one (ps_dput (hu_of hr) (pv 3) (pv 4) (pe_c D_pick hr (by decide) (by rfl) (pa_cons (pv 0) (pa_cons (pe_lst (pa_cons (pv 4) (pa_cons (pe_c D_any_image hr (by decide) (by rfl) (pa_cons (pv 0) (pa_cons (pv 2) pa_nil))) pa_nil))) pa_nil))) rfl))
            pss_nil))))))
      (pss_one (ps_ret (pv 3))))), ?_⟩
    have hcs : 0 < cs.length := List.length_pos_iff.mpr hne
    refine ⟨_, rfl, d, encT t, rfl, .inl hd, fun e ne => ?_⟩
    have hep := PA.nep ne
    have hel := PA.nel ne
    have hse : so ≠ e := ne_of_none hso ne
    have PA1 := PA.new (o := .dK (encT t)) ne
    refine ⟨_, rfl, so, rfl, ⟨_, SqL.of (by rw [upd_ne hse]; exact hso)⟩, for_it (walk_list (K := K) (a := so) (xs := lets cs)) (fun i σ H2 => ∃ (t2 : Tab) (v4 v5 : Option V), σ = [some (.ref p), some (.ref d), some (.ref so), some (.ref e), v4, v5] ∧ H2 so = some (.lst (lets cs)) ∧ H2 e = some (.dK (encT t2)) ∧ GoodT cs t2 ∧ PenAt H2 p l ns (n + 10 * (26 - i)) ∧ Fr p H H2) ?_ ?_ ?_ ?_⟩
    · exact ⟨t, _, _, rfl, by rw [upd_ne hse]; exact hso, upd_same, G, PA1.less (by omega), Fr.new ne⟩
    · rintro i σ H2 hi ⟨_, _, _, _, hs2, _⟩
      exact SqL.of hs2
    · rintro i y σ H20 H2 hi ⟨t2, v4, v5, rfl, hs2, he2, G2, PA2, fr2⟩ ⟨rfl, hy⟩
      obtain ⟨hi', rfl⟩ := lets_get hy
      have hi26 : i < 26 := by omega
      have hmem : cs[i] ∈ cs := List.getElem_mem hi'
      refine ⟨_, rfl, p, l, ns, n + 10 * (26 - (i + 1)) + 9, 5, rfl, PA2.less (by omega), by decide, by decide, fun v H3 w0 w1 PA3 fr3 => ?_⟩
      have hs3 := fr3 _ _ hs2 hsp
      have he3 := fr3 _ _ he2 hep
      have fr03 := fr2.trans fr3
      have lt2 := G2.len
      have small : (encT t2).length < sizeLine := by rw [encT_len, sizeLine_eq]; omega
      -- the second way
      have els : ∀ (D : Ends), (∀ σ' H', (∃ (t2 : Tab) (v4 v5 : Option V), σ' = [some (.ref p), some (.ref d), some (.ref so), some (.ref e), v4, v5] ∧ H' so = some (.lst (lets cs)) ∧ H' e = some (.dK (encT t2)) ∧ GoodT cs t2 ∧ PenAt H' p l ns (n + 10 * (26 - (i + 1))) ∧ Fr p H H') → D.nx σ' H') →
          tIfS (tTest (tOp rEq (tVar 5) (tC (V.int 1)))) (sDPut (tVar 3) (tVar 4) (tCall (spPick K) [] E0 (tCons (tVar 0) (tCons (tLst (tCons (tVar 4) (tCons (tCall spImage [] E0 (tCons (tVar 0) (tCons (tVar 2) tNil))) tNil))) tNil)))) tNext D
            [some (.ref p), some (.ref d), some (.ref so), some (.ref e), some (.str (L1 cs[i])), some (.int v)] H3 := fun D hn => by
        refine ⟨_, rfl, rfl, _, rfl, ?_⟩
        by_cases h1 : V.int v = V.int 1
        · rw [decide_eq_true h1]
          refine iteT ⟨_, rfl, _, rfl, _, rfl, _, rfl, p, l, so, ns, n + 10 * (26 - (i + 1)) + 4, cs, rfl, PA3.less (by omega), hs3, hsp, hne, h26, hlt, fun s4 H4 gi PA4 fr4 => ⟨by show 2 ≤ sizeLine; decide, fun b nb => ?_⟩⟩
          have hbp := PA4.nep nb
          have he4 := fr4 _ _ he3 hep
          have hs4 := fr4 _ _ hs3 hsp
          refine ⟨p, l, b, ns, n + 10 * (26 - (i + 1)) + 3, [.str (L1 cs[i]), .str (Sx s4)], rfl, (PA4.new nb).less (by omega), SqL.of upd_same, Nat.succ_pos _, by show 2 < 1000; decide, fun H' fr => SqL.of (fr _ _ upd_same hbp), fun w5 H5 hv PA5 fr5 => ?_⟩
          have he5 := fr5 _ _ (show upd H4 b _ e = _ by rw [upd_ne (ne_of_none he4 nb)]; exact he4) hep
          have hs5 := fr5 _ _ (show upd H4 b _ so = _ by rw [upd_ne (ne_of_none hs4 nb)]; exact hs4) hsp
          have fr05 : Fr p H H5 := ((fr03.trans fr4).trans (Fr.new nb)).trans fr5
          obtain ⟨s5, rfl, gi5⟩ : ∃ s5, w5 = .str (Sx s5) ∧ GoodI cs s5 := by
            rcases List.mem_cons.mp hv with rfl | hv
            · exact ⟨[cs[i]], rfl, goodI1 hmem⟩
            · rw [List.mem_singleton.mp hv]
              exact ⟨s4, rfl, gi⟩
          refine ⟨_, rfl, _, rfl, e, _, rfl, DPut.k (k := Sum.inr (L1 cs[i])) he5 (by rw [encT_len]; exact small1000 (by omega)), ?_⟩
          rw [putK_enc]
          exact hn _ _ ⟨putT t2 cs[i] s5, _, _, rfl, by rw [upd_ne hse]; exact hs5, upd_same, G2.put hmem gi5, (PA5.other hep hel).less (by omega), fr05.put ne⟩
        · rw [decide_eq_false h1]
          exact iteF (hn _ _ ⟨t2, _, _, rfl, hs3, he3, G2, PA3.less (by omega), fr03⟩)
      refine ⟨_, rfl, rfl, _, rfl, ?_⟩
      by_cases h0 : V.int v = V.int 0
      rotate_left
      · rw [decide_eq_false h0]
        exact iteF (iteF (els _ (fun _ _ z => z)))
      rw [decide_eq_true h0]
      refine iteT ⟨_, rfl, _, rfl, e, (lookT t2 cs[i]).map fun s => V.str (Sx s), rfl, .inl ⟨_, Sum.inr (L1 cs[i]), .inl he3, rfl, (valV_enc _ _).symm⟩, ?_⟩
      cases hl : lookT t2 cs[i] with
      | none => exact ⟨_, rfl, iteF (els _ (fun _ _ z => z))⟩
      | some s6 =>
        refine ⟨_, rfl, iteT ⟨_, rfl, e, rfl, .inl ⟨_, .inl he3⟩, _, rfl, encT t2, Sum.inr (L1 cs[i]), V.str (Sx s6), he3, rfl, by rw [valV_enc, hl]; rfl, ?_⟩⟩
        have e7 : dropK (encT t2) (Sum.inr (L1 cs[i])) = encT (t2.filter fun q => decide (q.1 ≠ cs[i])) := drop_encN t2 cs[i]
        rw [e7]
        exact ⟨_, _, _, rfl, by rw [upd_ne hse]; exact hs3, upd_same, good_drop G2 cs[i], (PA3.other hep hel).less (by omega), fr03.put ne⟩
    · rintro σ H2 ⟨t2, v4, v5, rfl, hs2, he2, G2, PA2, fr2⟩
      exact ⟨_, rfl, q e t2 H2 G2 (PA2.less (by omega)) fr2 ne he2⟩
theorem ok_tables {f : Addr} {fd : FuncData} (F : Fun K "_law_tables" "_law_tables" s__law_tables f fd) (T : Blt mg) (D_draw : Df P w K mg base 1 "_law_draw" spDraw) (D_some_letters : Df P w K mg base 2 "_law_some_letters" spLetters) (D_escaped : Df P w K mg base 2 "_law_escaped" (spTab 52)) (D_table : Df P w K mg base 4 "_law_table" (spTab 260)) (D_near : Df P w K mg base 4 "_law_near" spNear) : FnOk P w K mg base CX0 5 f fd ["_law_pen_here", "_law_most"] spTables := by
  refine F.ok sc__law_tables (fun vs H Q E h => ?_) (fun cdv A outer s H vs Q E hr h => ?_)
  · obtain ⟨p, l, ns, n, m, rfl, _⟩ := h
    rfl
  · obtain ⟨p, l, ns, n, m, rfl, PA, m1, m4, q⟩ := h
    refine ⟨_, (pss_cons (ps_set (i := 2) sc__law_tables.nd rfl (.inl rfl) (pe_c D_some_letters hr (by decide) (by rfl) (pa_cons (pv 0) (pa_cons (pe_op op_add pe_int (pe_c D_draw hr (by decide) (by rfl) (pa_cons (pv 0) (pa_cons pe_int pa_nil)))) pa_nil))))
      (pss_cons (ps_set (i := 3) sc__law_tables.nd rfl (.inl rfl) (pe_lst (pa_cons (pe_ifExp (pt_cmpR op_gt (pe_c D_draw hr (by decide) (by rfl) (pa_cons (pv 0) (pa_cons pe_int pa_nil))) pe_int (nomark _)) (pe_c D_escaped hr (by decide) (by rfl) (pa_cons (pv 0) (pa_cons (pv 2) pa_nil))) (pe_c D_table hr (by decide) (by rfl) (pa_cons (pv 0) (pa_cons (pv 2) pa_nil)))) pa_nil)))
      (pss_cons (ps_for PassesOwn.never rfl (pi_range1 (by rfl) T.range (pa_cons (pe_c D_draw hr (by decide) (by rfl) (pa_cons (pv 0) (pa_cons (pv 1) pa_nil))) pa_nil)) (pg_name (i := 4) sc__law_tables.nd rfl (.inl rfl))
        (pss_cons (ps_set (i := 5) sc__law_tables.nd rfl (.inl rfl) (pe_c D_draw hr (by decide) (by rfl) (pa_cons (pv 0) (pa_cons pe_int pa_nil))))
        (pss_one (ps_if (pt_cmpR op_eq (pv 5) pe_int (nomark _))
          (pss_one (ps_expr (pe_bmK (K := K) rfl PySem.F.plainAttrs_list PySem.F.slot_list_append PySem.F.type_list_append mt_append (pv 3) (pa_cons (pe_c D_table hr (by decide) (by rfl) (pa_cons (pv 0) (pa_cons (pv 2) pa_nil))) pa_nil))))
          (pss_one (ps_if (pt_cmpR op_eq (pv 5) pe_int (nomark _))
            (pss_one (ps_expr (pe_bmK (K := K) rfl PySem.F.plainAttrs_list PySem.F.slot_list_append PySem.F.type_list_append mt_append (pv 3) (pa_cons (pe_c D_escaped hr (by decide) (by rfl) (pa_cons (pv 0) (pa_cons (pe_revL (pv 2)) pa_nil))) pa_nil))))
            (pss_one (ps_expr (pe_bmK (K := K) rfl PySem.F.plainAttrs_list PySem.F.slot_list_append PySem.F.type_list_append mt_append (pv 3) (pa_cons (pe_c D_near hr (by decide) (by rfl) (pa_cons (pv 0) (pa_cons (pe_ix (ix_listK (K := K) rfl) (pv 3) (pe_un un_neg pe_int) (fun _ _ => rfl)) (pa_cons (pv 2) pa_nil)))) pa_nil))))))))))
      (pss_one (ps_ret (pv 3)))))), ?_⟩
    refine ⟨_, rfl, _, rfl, p, l, ns, n + 1990, 5, rfl, PA.less (by omega), by decide, by decide, fun v H1 w0 w1 PA1 fr1 => ?_⟩
    obtain ⟨j, rfl⟩ : ∃ j : Nat, v = j := ⟨v.toNat, by omega⟩
    refine ⟨_, _, rfl, rfl, ?_⟩
    refine ⟨p, l, ns, n + 1980, 1 + j, by rw [show ((1 + j : Nat) : Int) = 1 + (j : Int) by omega]; rfl, PA1.less (by omega), by omega, fun so cs H2 hlen hnd hlt PA2 fr2 nso hso => ?_⟩
    have h5 : cs.length ≤ 5 := by omega
    have hne : cs ≠ [] := fun z => by
      rw [z] at hlen
      simp at hlen
      omega
    have hsp : so ≠ p := PA1.nep nso
    have fr02 := fr1.trans fr2
    refine via (t := tIf (tTest (tOp (rI0 fun i j => V.bl (decide (i > j))) (tCall spDraw [] E0 (tCons (tVar 0) (tCons (tC (V.int 3)) tNil))) (tC (V.int 0)))) (tCall (spTab 52) [] E0 (tCons (tVar 0) (tCons (tVar 2) tNil))) (tCall (spTab 260) [] E0 (tCons (tVar 0) (tCons (tVar 2) tNil)))) (fun v H3 => ∃ d t, v = .ref d ∧ H3 d = some (.dK (encT t)) ∧ GoodT cs t ∧ PenAt H3 p l ns (n + 1600) ∧ Fr p H2 H3) (fun R hR => ?_) (fun v H3 z => ?_)
    · refine ⟨_, rfl, p, l, ns, n + 1970, 3, rfl, PA2.less (by omega), by decide, by decide, fun v H3 u0 u1 PA3 fr3 => ⟨_, _, rfl, rfl, _, rfl, ?_⟩⟩
      have hs3 := fr3 _ _ hso hsp
      generalize decide (v > 0) = bb
      cases bb with
      | true => exact iteT ⟨_, rfl, _, rfl, p, l, so, ns, n + 1600, cs, rfl, PA3.less (by omega), hs3, hsp, hne, hnd, by omega, hlt, fun d t H4 G PA4 fr4 nd hd => hR _ _ ⟨d, t, rfl, hd, G, PA4, fr3.trans fr4⟩⟩
      | false => exact iteF ⟨_, rfl, _, rfl, p, l, so, ns, n + 1600, cs, rfl, PA3.less (by omega), hs3, hsp, hne, hnd, by omega, hlt, fun d t H4 G PA4 fr4 nd hd => hR _ _ ⟨d, t, rfl, hd, G, PA4, fr3.trans fr4⟩⟩
    obtain ⟨d0, t0, rfl, hd0, G0, PA3, fr3⟩ := z
    refine ⟨by show 1 ≤ sizeLine; decide, fun D nD => ?_⟩
    have hDp := PA3.nep nD
    have hDl := PA3.nel nD
    have fr03 := fr02.trans fr3
    have nDH : H D = none := fr03.back nD hDp
    have hsD : so ≠ D := ne_of_none (fr3 _ _ hso hsp) nD
    have PA4 := PA3.new (o := .lst [.ref d0]) nD
    have hs4 : upd H3 D (.lst [.ref d0]) so = some (.lst (lets cs)) := by
      have z := fr3 _ _ hso hsp
      rw [upd_ne (ne_of_none z nD)]
      exact z
    have hd4 : upd H3 D (.lst [.ref d0]) d0 = some (.dK (encT t0)) := by rw [upd_ne (ne_of_none hd0 nD)]; exact hd0
    have hD4 : upd H3 D (.lst [.ref d0]) D = some (.lst [.ref d0]) := upd_same
    have fr04 : Fr p H (upd H3 D (.lst [.ref d0])) := fr03.trans (Fr.new nD)
    show tSeq _ _ _ _ (upd H3 D (.lst [.ref d0]))
    generalize upd H3 D (.lst [.ref d0]) = H4 at PA4 hs4 hd4 hD4 fr04 ⊢
    refine ⟨_, rfl, _, rfl, p, l, ns, n + 1500, m, rfl, PA4.less (by omega), by omega, by omega, fun v H5 u0 u1 PA5 fr5 => ?_⟩
    obtain ⟨k, rfl⟩ : ∃ k : Nat, v = k := ⟨v.toNat, by omega⟩
    have hk : k < m := by omega
    have tl0 : TbL H5 cs [d0] [t0] := .cons ⟨fr5 _ _ hd4 (by
      intro z
      obtain ⟨xs, hx⟩ := PA4.pen
      rw [z, hx] at hd4
      cases hd4), G0⟩ .nil
    refine ⟨(k : Nat), rfl, by omega, by omega, for_it (walk_range (lo := 0) (n := k)) (fun i σ A => ∃ (v4 v5 : Option V) (ds : List Addr) (ts : List Tab), σ = [some (.ref p), some (.int (m : Nat)), some (.ref so), some (.ref D), v4, v5] ∧ A so = some (.lst (lets cs)) ∧ A D = some (.lst (ds.map V.ref)) ∧ TbL A cs ds ts ∧ 1 ≤ ts.length ∧ ts.length ≤ i + 1 ∧ PenAt A p l ns (n + 310 * (4 - i)) ∧ Fr p H A) ?_ (fun _ _ _ _ _ => trivial) ?_ ?_⟩
    · exact ⟨_, _, [d0], [t0], rfl, fr5 _ _ hs4 hsp, fr5 _ _ hD4 hDp, tl0, Nat.le_refl _, Nat.le_refl _, PA5.less (by omega), fr04.trans fr5⟩
    · rintro i x σ A0 A hi ⟨v4, v5, ds, ts, rfl, hsA, hDA, tbA, t1, t2, PAA, frA⟩ ⟨rfl, rfl⟩
      have lds := prd_len tbA
      have key : ∀ (B : Hp) (d : Addr) (t : Tab) (E0' : Ends) (σ' : L2.St), (∀ σ2 A2, (∃ (v4 v5 : Option V) (ds : List Addr) (ts : List Tab), σ2 = [some (.ref p), some (.int (m : Nat)), some (.ref so), some (.ref D), v4, v5] ∧ A2 so = some (.lst (lets cs)) ∧ A2 D = some (.lst (ds.map V.ref)) ∧ TbL A2 cs ds ts ∧ 1 ≤ ts.length ∧ ts.length ≤ (i + 1) + 1 ∧ PenAt A2 p l ns (n + 310 * (4 - (i + 1))) ∧ Fr p H A2) → E0'.nx σ2 A2) →
          (∃ v4 v5, σ' = [some (.ref p), some (.int (m : Nat)), some (.ref so), some (.ref D), v4, v5]) → Fr p A B → B d = some (.dK (encT t)) → GoodT cs t → PenAt B p l ns (n + 310 * (4 - (i + 1))) →
          ∃ lst xs v, V.ref D = .ref lst ∧ [V.ref d] = [v] ∧ B lst = some (.lst xs) ∧ xs.length < sizeLine ∧ E0'.nx σ' (upd B lst (.lst (xs ++ [v]))) := fun B d t E0' σ' hn hσ frB hd G PB => by
        obtain ⟨v4, v5, rfl⟩ := hσ
        have hDB := frB _ _ hDA hDp
        have hsB := frB _ _ hsA hsp
        obtain ⟨pv, hpv⟩ := PAA.pen
        refine ⟨D, ds.map V.ref, .ref d, rfl, rfl, hDB, by rw [List.length_map, sizeLine_eq]; omega, hn _ _ ⟨v4, v5, ds ++ [d], ts ++ [t], rfl, ?_, ?_, ?_, ?_, ?_, PB.other hDp hDl, (frA.trans frB).put nDH⟩⟩
        · rw [upd_ne hsD]
          exact hsB
        · rw [upd_same, List.map_append]
          rfl
        · refine (prd_imp tbA fun d1 t1 ⟨h1, g1⟩ => ⟨by
            have z1 := frB _ _ h1 (fun e => by rw [e, hpv] at h1; cases h1)
            rw [upd_ne (ne_of z1 hDB (fun y => nomatch y))]
            exact z1, g1⟩).snoc ⟨by
            rw [upd_ne (ne_of hd hDB (fun y => nomatch y))]
            exact hd, G⟩
        · rw [List.length_append]
          omega
        · rw [List.length_append]
          show ts.length + 1 ≤ _
          omega
      refine ⟨_, rfl, p, l, ns, n + 310 * (4 - (i + 1)) + 309, 4, rfl, PAA.less (by omega), by decide, by decide, fun v B w2 w3 PB frB => ?_⟩
      have hsB := frB _ _ hsA hsp
      have hDB := frB _ _ hDA hDp
      refine ⟨_, rfl, rfl, _, rfl, ?_⟩
      by_cases h0 : V.int v = V.int 0
      · rw [decide_eq_true h0]
        exact iteT ⟨_, rfl, .inl ⟨rfl, _, SqL.of hDB⟩, _, rfl, _, rfl, p, l, so, ns, n + 310 * (4 - (i + 1)), cs, rfl, PB.less (by omega), hsB, hsp, hne, hnd, by omega, hlt, fun d t B2 G PB2 fr2 nd hd => key B2 d t _ _ (fun _ _ z => z) ⟨_, _, rfl⟩ (frB.trans fr2) hd G PB2⟩
      rw [decide_eq_false h0]
      refine iteF ⟨_, rfl, rfl, _, rfl, ?_⟩
      by_cases h1 : V.int v = V.int 1
      · rw [decide_eq_true h1]
        refine iteT ⟨_, rfl, .inl ⟨rfl, _, SqL.of hDB⟩, _, rfl, _, rfl, so, lets cs, rfl, SqL.of hsB, fun r nr => ?_⟩
        have hrp := PB.nep nr
        have PBr := PB.new (o := .lst (lets cs).reverse) nr
        have er : (lets cs).reverse = lets cs.reverse := by
          show (cs.map _).reverse = cs.reverse.map _
          rw [List.map_reverse]
        rw [er] at PBr ⊢
        refine ⟨p, l, r, ns, n + 310 * (4 - (i + 1)), cs.reverse, rfl, PBr.less (by omega), upd_same, hrp, fun z => hne (by simpa using z), (List.reverse_perm cs).nodup_iff.mpr hnd, by rw [List.length_reverse]; omega, fun c hc => hlt c (List.mem_reverse.mp hc), fun d t B2 G PB2 fr2 nd hd => ?_⟩
        have G' : GoodT cs t := ⟨G.nd, fun q hq => List.mem_reverse.mp (G.key q hq), fun q hq => ⟨(G.img q hq).1, (G.img q hq).2.1, fun d hd => List.mem_reverse.mp ((G.img q hq).2.2 d hd)⟩⟩
        exact key B2 d t _ _ (fun _ _ z => z) ⟨_, _, rfl⟩ ((frB.trans (Fr.new nr)).trans fr2) hd G' PB2
      · rw [decide_eq_false h1]
        have hl : ds.length - 1 < ds.length := by omega
        obtain ⟨tL, htL, hdl, gL⟩ := prd_at tbA (List.getElem?_eq_getElem hl)
        have hlast : (ds.map V.ref)[(ds.map V.ref).length - 1]? = some (.ref ds[ds.length - 1]) := by
          rw [List.length_map, List.getElem?_map, List.getElem?_eq_getElem hl]
          rfl
        obtain ⟨pv, hpv⟩ := PAA.pen
        have hdB := frB _ _ hdl (fun e => by rw [e, hpv] at hdl; cases hdl)
        refine iteF ⟨_, rfl, .inl ⟨rfl, _, SqL.of hDB⟩, _, rfl, _, rfl, _, rfl, D, ds.map V.ref, -1, _, rfl, rfl, SqL.of hDB, atI_m1 hlast, _, rfl, p, l, ds[ds.length - 1], so, ns, n + 310 * (4 - (i + 1)), cs, tL, rfl, PB.less (by omega), hdB, gL, hsB, hsp, hne, by omega, hlt, fun d t B2 G PB2 fr2 nd hd => ?_⟩
        exact key B2 d t _ _ (fun _ _ z => z) ⟨_, _, rfl⟩ (frB.trans fr2) hd G PB2
    · rintro σ A ⟨v4, v5, ds, ts, rfl, hsA, hDA, tbA, t1, t2, PAA, frA⟩
      exact ⟨_, rfl, q D ds ts cs A hne h5 hnd hlt hDA tbA t1 (by omega) (PAA.less (by omega)) frA nDH⟩
end
end V8
set_option Elab.async false
set_option linter.all false
set_option maxRecDepth 100000
set_option maxHeartbeats 8000000
set_option pp.maxSteps 900
/-! Sound and Unsound as tests; tables that sound takes; few texts. -/
namespace V8
open PySem PySem.Spec PyProof.Rows L2 MZ
abbrev s_Sound_bool : Stmt := inClass (topS 86) 2
theorem sc_Sound_bool : FnScope ["self"] ["self"] (defScope s_Sound_bool) := ⟨rfl, rfl, rfl, by decide +kernel, rfl, by decide +kernel, by decide +kernel⟩
abbrev s_Unsound_bool : Stmt := inClass (topS 87) 2
theorem sc_Unsound_bool : FnScope ["self"] ["self"] (defScope s_Unsound_bool) := ⟨rfl, rfl, rfl, by decide +kernel, rfl, by decide +kernel, by decide +kernel⟩
def spSays (b : Bool) : Sp := fun vs H Q _ => ∃ x : Addr, vs = [.ref x] ∧ Q (.bl b) H
section
variable {P : Program} {w : World} {K : PySem.W.Frag} {mg : Str → Option Value} {base : Heap}
theorem ok_soundB {f : Addr} {fd : FuncData} (F : Fun K "__bool__" "Sound.__bool__" s_Sound_bool f fd) : FnOk P w K mg base CX0 1 f fd ["self"] (spSays true) := by
  refine F.ok sc_Sound_bool (fun vs H Q E h => ?_) (fun cdv A outer s H vs Q E hr h => ?_)
  · obtain ⟨x, rfl, _⟩ := h
    rfl
  · obtain ⟨x, rfl, q⟩ := h
    refine ⟨_, (pss_one (ps_ret pe_bl)), ?_⟩
    exact q
theorem ok_unsoundB {f : Addr} {fd : FuncData} (F : Fun K "__bool__" "Unsound.__bool__" s_Unsound_bool f fd) : FnOk P w K mg base CX0 1 f fd ["self"] (spSays false) := by
  refine F.ok sc_Unsound_bool (fun vs H Q E h => ?_) (fun cdv A outer s H vs Q E hr h => ?_)
  · obtain ⟨x, rfl, _⟩ := h
    rfl
  · obtain ⟨x, rfl, q⟩ := h
    refine ⟨_, (pss_one (ps_ret pe_bl)), ?_⟩
    exact q
end
theorem GoodT.toAbc {cs : List Nat} {t : Tab} (g : GoodT cs t) (h : ∀ c ∈ cs, isLt c) : GoodT abc t := ⟨g.nd, fun q hq => abc_mem.mpr (h _ (g.key q hq)), fun q hq => ⟨(g.img q hq).1, (g.img q hq).2.1, fun d hd => abc_mem.mpr (h d ((g.img q hq).2.2 d hd))⟩⟩
theorem keys_few {t : Tab} : (keysOf t).length ≤ t.length := by
  have : (keysOf t).length ≤ (t.map (·.1)).length := nd_le (keysOf_nd t) fun c hc => by
    obtain ⟨s, e⟩ := Option.isSome_iff_exists.mp (keysOf_mem.mp hc).2
    exact List.mem_map.mpr ⟨_, look_in e, rfl⟩
  rwa [List.length_map] at this
theorem okU_of {t : Tab} (g : GoodT abc t) (l8 : t.length ≤ 8) : OkU t := by
  refine ⟨Nat.le_trans keys_few l8, fun c hc => ?_⟩
  obtain ⟨s, e⟩ := Option.isSome_iff_exists.mp (keysOf_mem.mp hc).2
  have i := g.img _ (look_in e)
  refine ⟨s, e, fun z => ?_, Nat.le_trans i.2.1 (by decide), fun d hd => abc_mem.mp (i.2.2 d hd)⟩
  have := i.1
  rw [show (c, s).2 = s from rfl, z] at this
  exact absurd this (by decide)
theorem small_of {t : Tab} (g : GoodT abc t) (l5 : t.length ≤ 5) : Small5 t := by
  refine ⟨Nat.le_trans keys_few l5, fun c hc => ?_⟩
  obtain ⟨s, e⟩ := Option.isSome_iff_exists.mp (keysOf_mem.mp hc).2
  rw [e]
  exact (g.img _ (look_in e)).2.1
/-- what stays of the module: three places, two sides -/
structure CnS (K : PySem.W.Frag) (aS aE aV aD : Addr) (H : Hp) : Prop where
  cn : CnH K aS aE aV H
  sd : SqT K H aD [.str (sideS true), .str (sideS false)]
theorem CnS.same {K : PySem.W.Frag} {aS aE aV aD : Addr} {H H' : Hp} (c : CnS K aS aE aV aD H) (s : Same H H') : CnS K aS aE aV aD H' := ⟨c.cn.same s, sq_same c.sd s⟩
theorem CnS.fr {K : PySem.W.Frag} {aS aE aV aD p l : Addr} {ns : List Int} {n : Nat} {H H' : Hp} (c : CnS K aS aE aV aD H) (P : PenAt H p l ns n) (f : Fr p H H') : CnS K aS aE aV aD H' := by
  obtain ⟨xs, hp⟩ := P.pen
  have g : ∀ {b : Addr} {ys : List V}, SqT K H b ys → SqT K H' b ys := fun e => sq_mono e fun o eo z => f _ _ eo fun q => by
    rw [q, hp] at eo
    cases eo
    rcases z with z | ⟨_, z⟩ <;> cases z
  exact ⟨⟨g c.cn.st, g c.cn.en, g c.cn.ev⟩, g c.sd⟩
theorem atNm {i : Nat} {v : V} {σ : L2.St} {H : Hp} {Q : L2.St → Hp → Prop} (h : Q (σ.set i (some v)) H) : gName i v σ H Q := h
theorem un_ltrs {cs : List Nat} : ∀ ys : List Str, (∀ y ∈ ys, y ∈ cs.map L1) → ∃ ls : List Nat, ys = ls.map L1 ∧ ∀ c ∈ ls, c ∈ cs
  | [], _ => ⟨[], rfl, fun c hc => nomatch hc⟩
  | y :: r, h => by
    obtain ⟨c, hc, e⟩ := List.mem_map.mp (h y List.mem_cons_self)
    obtain ⟨ls, e2, k⟩ := un_ltrs r fun z hz => h z (List.mem_cons_of_mem _ hz)
    refine ⟨c :: ls, ?_, fun d hd => ?_⟩
    · rw [← e, e2]
      rfl
    · rcases List.mem_cons.mp hd with rfl | hd
      · exact hc
      · exact k d hd
theorem cutN (xs : List V) (k : Nat) : cutV xs none (some (k : Nat)) = xs.take k := by
  unfold cutV
  rw [HT.sIx_none, List.drop_zero]
  have e : HT.sIx xs.length xs.length (some (k : Nat)) = min k xs.length := HT.sIx_nat _ _ k
  rw [e, Nat.sub_zero, ← List.take_eq_take_min]
end V8
set_option Elab.async false
set_option linter.all false
set_option maxRecDepth 100000
set_option maxHeartbeats 8000000
set_option pp.maxSteps 500
/-! An Unsound that is right is shown; misreadings of tables; tables backwards. -/
namespace V8
open PySem PySem.Spec PyProof.Rows L2 MZ
abbrev s__law_made : Stmt := topS 112
abbrev n__law_made : List Str := ["_law_tables_here", "_law_table_here"]
theorem sc__law_made : FnScope ["_law_tables_here", "_law_table_here"] ["_law_tables_here"] (defScope s__law_made) := ⟨rfl, rfl, rfl, by decide +kernel, rfl, by decide +kernel, by decide +kernel⟩
abbrev s__law_back : Stmt := topS 114
abbrev n__law_back : List Str := ["_law_table_here", "_law_letter"]
theorem sc__law_back : FnScope ["_law_table_here", "_law_letter"] ["_law_table_here"] (defScope s__law_back) := ⟨rfl, rfl, rfl, by decide +kernel, rfl, by decide +kernel, by decide +kernel⟩
theorem pe_no {X : Cx} {e : Expr} : PE X e (fun _ _ _ => False) := ⟨fun _ _ _ _ _ _ h => h.elim⟩
theorem revS_sx (w : Wd) : revS (Sx w) = Sx w.reverse := rfl
def spShows (CM CU : Addr) : Sp := fun vs H Q _ => ∃ (a z dz : Addr) (b : Bool) (xs : List V) (us : List Tab) (i j : Nat) (w1 w2 : List Nat), vs = [.ref a, .ref z] ∧ SeqV H b a xs ∧ MsL CM H xs us ∧ 1 ≤ us.length ∧ us.length ≤ 4 ∧ (∀ u ∈ us, Bnd 64 (lk u)) ∧ H z = some (.ins CU dz (fUnsound (.str (Sx w1)) (.int (i : Nat)) (.str (Sx w2)) (.int (j : Nat)))) ∧ i < us.length ∧ j < us.length ∧ Stp (tabI us i) (tabI us j) w1 w2 ∧ ∀ H', Same H H' → Q (.bl true) H'
/-- tables, one by one, with what is asked of each -/
def TbP (p : Tab → Prop) (H : Hp) (ds : List Addr) (ts : List Tab) : Prop := Paired (fun d t => H d = some (.dK (encT t)) ∧ p t) ds ts
theorem TbP.same {p : Tab → Prop} {H H' : Hp} {ds : List Addr} {ts : List Tab} (h : TbP p H ds ts) (s : Same H H') : TbP p H' ds ts := prd_imp h fun _ _ ⟨e, g⟩ => ⟨s _ _ e, g⟩
def Gd5 (t : Tab) : Prop := GoodT abc t ∧ t.length ≤ 5
def spMade (CM : Addr) : Sp := fun vs H Q _ => ∃ (D : Addr) (ds : List Addr) (ts : List Tab), vs = [.ref D] ∧ H D = some (.lst (ds.map V.ref)) ∧ TbP Gd5 H ds ts ∧ ts.length ≤ 4 ∧ ∀ M xs H', H M = none → Same H H' → H' M = some (.lst xs) → MsL CM H' xs ts → Q (.ref M) H'
def backT (t : Tab) : Tab := t.map fun q => (q.1, q.2.reverse)
def spBack : Sp := fun vs H Q _ => ∃ (d : Addr) (t : Tab), vs = [.ref d] ∧ H d = some (.dK (encT t)) ∧ Gd5 t ∧ ∀ r H', H r = none → Same H H' → H' r = some (.dK (encT (backT t))) → Q (.ref r) H'
theorem back_good {t : Tab} (g : Gd5 t) : Gd5 (backT t) := by
  refine ⟨⟨?_, fun q hq => ?_, fun q hq => ?_⟩, by unfold backT; rw [List.length_map]; exact g.2⟩
  · unfold backT
    rw [List.map_map]
    exact g.1.nd
  · obtain ⟨p, hp, rfl⟩ := List.mem_map.mp hq
    exact g.1.key p hp
  · obtain ⟨p, hp, rfl⟩ := List.mem_map.mp hq
    obtain ⟨a, b, c⟩ := g.1.img p hp
    exact ⟨by rw [List.length_reverse]; exact a, by rw [List.length_reverse]; exact b, fun d hd => c d (List.mem_reverse.mp hd)⟩
theorem back_bck (t : Tab) : Bck t (backT t) := fun c => by
  have key : lookT (backT t) c = (lookT t c).map List.reverse := by
    unfold backT lookT
    rw [List.find?_map, Option.map_map, Option.map_map]
    rfl
  unfold lk
  by_cases h : c ∈ abc
  · rw [if_pos h, if_pos h, key]
  · rw [if_neg h, if_neg h]
    rfl
section
variable {P : Program} {w : World} {K : PySem.W.Frag} {mg : Str → Option Value} {base : Heap} {CM CJ CS CU : Addr}
theorem ok_shows {f : Addr} {fd : FuncData} (F : Fun K "shows_sound" "shows_sound" s_shows_sound f fd) (T : Tu5 K mg CM CJ CS CU) (D_check_lists : Df P w K mg base 5 "check_lists" (spCkM CM)) (D_right_unsound : Df P w K mg base 4 "right_unsound" (spRU CM CU)) : FnOk P w K mg base CX0 6 f fd ["misreadings", "value"] (spShows CM CU) := by
  refine F.ok sc_shows_sound (fun vs H Q E h => ?_) (fun cdv A outer s H vs Q E hr h => ?_)
  · obtain ⟨a, z, dz, b, xs, us, i, j, w1, w2, rfl, _⟩ := h
    rfl
  · obtain ⟨a, z, dz, b, xs, us, i, j, w1, w2, rfl, ha, hm, l1, l4, bd, hz, hi, hj, st, q⟩ := h
    refine ⟨_, (pss_cons (ps_expr (pe_c D_check_lists hr (by decide) (by rfl) (pa_cons (pv 0) pa_nil)))
      (pss_cons (ps_if (pt_val (pe_callB call_isi (by rfl) T.isinstance (by decide +kernel) (pa_cons (pv 1) (pa_cons (pe_gv T.gSound (by rfl)) pa_nil))))
        (pss_one (ps_ret pe_no))
        pss_nil)
      (pss_one (ps_ret (pe_and (pe_callB call_isi (by rfl) T.isinstance (by decide +kernel) (pa_cons (pv 1) (pa_cons (pe_gv T.gUnsound (by rfl)) pa_nil))) (pe_one (pe_c D_right_unsound hr (by decide) (by rfl) (pa_cons (pv 0) (pa_cons (pv 1) pa_nil))))))))), ?_⟩
    refine ⟨_, rfl, a, b, xs, us, rfl, ha, hm, l1, l4, fun H1 s1 => ?_⟩
    refine ⟨_, rfl, _, .ref CS, .ref CU, .ref CS, false, rfl, .own _, T.tyU _ _ _ _ (s1 _ _ hz), T.kUS, false, rfl, iteF ?_⟩
    refine ⟨_, rfl, _, .ref CU, .ref CU, .ref CU, true, rfl, .own _, T.tyU _ _ _ _ (s1 _ _ hz), T.kUU, true, rfl, iteT ?_⟩
    exact ⟨_, rfl, _, rfl, a, z, dz, b, xs, us, i, j, w1, w2, rfl, s1 _ _ ha, hm.same s1, l4, bd, s1 _ _ hz, hi, hj, st, fun H2 s2 => q _ (s1.trans s2)⟩
theorem ok_made {f : Addr} {fd : FuncData} (F : Fun K "_law_made" "_law_made" s__law_made f fd) (D_mk : Mkr P w K mg base CM) : FnOk P w K mg base CX0 8 f fd ["_law_tables_here"] (spMade CM) := by
  refine F.ok sc__law_made (fun vs H Q E h => ?_) (fun cdv A outer s H vs Q E hr h => ?_)
  · obtain ⟨D, ds, ts, rfl, _⟩ := h
    rfl
  · obtain ⟨D, ds, ts, rfl, hD, tb, t4, q⟩ := h
    refine ⟨_, (pss_one (ps_ret (pe_lc (own := [("_law_table_here", 1)]) (g := gName 1) (by rfl) sc__law_made.nd (pi_list (pv 0)) (blkOk_by (own := [("_law_table_here", 1)]) (N := n__law_made) (sc := defScope s__law_made) (by decide +kernel)) (fun _ _ _ _ _ => (pg_name (i := 1) sc__law_made.nd rfl (.inl rfl))) (fun _ _ _ _ _ => pts_nil) (fun _ _ _ _ _ => (pe_mk1 D_mk hr (by decide) (by rfl) (pa_cons (pv 1) pa_nil)))))), ?_⟩
    have lds := prd_len tb
    refine ⟨_, rfl, D, rfl, ⟨_, .of hD⟩, fun M nM => lc_it (walk_list (K := K) (a := D) (xs := ds.map V.ref)) (fun i A => ∃ xs, A M = some (.lst xs) ∧ MsL CM A xs (ts.take i) ∧ Same H A) ⟨[], upd_same, .nil, same_put (Same.refl _) nM⟩ ?_ ?_ ?_⟩
    · rintro i A hi ⟨_, _, _, sA⟩
      exact .of (sA _ _ hD)
    · rintro i x A A2 hi ⟨xs, hM, pm, sA⟩ ⟨rfl, hy⟩
      rw [List.getElem?_map] at hy
      obtain ⟨d, hdd, rfl⟩ := Option.map_eq_some_iff.mp hy
      obtain ⟨t, ht, htd, A1, t5⟩ := prd_at tb hdd
      have c12 : ∀ c ∈ abc, isLt c := fun c hc => abc_mem.mp hc
      refine ⟨rfl, _, rfl, d, abc, [], t, rfl, sA _ _ htd, A1, ⟨by rw [toldT_nil A1.nd]; omega, by rw [abc_len]; omega⟩, c12, fun c h => (nomatch h), by decide, fun x A3 nx m7 s7 => ?_⟩
      have m := m7.mis
      rw [toldT_nil A1.nd] at m
      have hM3 := s7 _ _ hM
      have lpm := prd_len pm
      rw [List.length_take] at lpm
      have kp : ∀ b o, A3 b = some o → (∀ xs, o ≠ .lst xs) → upd A3 M (.lst (xs ++ [.ref x])) b = some o := fun b o z n => by
        rw [upd_ne (fun e => by rw [e, hM3] at z; cases z; exact n _ rfl)]
        exact z
      refine ⟨xs, hM3, by rw [sizeLine_eq]; omega, xs ++ [.ref x], upd_same, ?_, same_over (fun b o e => s7 _ _ (sA _ _ e)) nM⟩
      rw [List.take_add_one, ht]
      exact (prd_imp pm fun _ _ ⟨x, e, m, o⟩ => ⟨x, e, (m.same2 s7).mono kp, o⟩).snoc ⟨x, rfl, m.mono kp, okU_of A1 (by omega)⟩
    rintro H7 ⟨xs, hM, ms, s7⟩
    rw [List.length_map, lds, List.take_length] at ms
    exact q _ _ _ nM s7 hM ms
theorem ok_back {f : Addr} {fd : FuncData} (F : Fun K "_law_back" "_law_back" s__law_back f fd) (T : Tz K mg CM CJ) : FnOk P w K mg base CX0 1 f fd ["_law_table_here"] spBack := by
  refine F.ok sc__law_back (fun vs H Q E h => ?_) (fun cdv A outer s H vs Q E hr h => ?_)
  · obtain ⟨d, t, rfl, _⟩ := h
    rfl
  · obtain ⟨d, t, rfl, hd, g, q⟩ := h
    refine ⟨_, (pss_one (ps_ret (pe_callTy (call_dictP rfl) (by rfl) T.dict (by decide +kernel) (pa_cons (pe_lock (pe_lc (own := [("_law_letter", 1)]) (g := gName 1) (by rfl) sc__law_back.nd (pi_keys (pv 0)) (blkOk_by (own := [("_law_letter", 1)]) (N := n__law_back) (sc := defScope s__law_back) (by decide +kernel)) (fun _ _ _ _ _ => (pg_name (i := 1) sc__law_back.nd rfl (.inl rfl))) (fun _ _ _ _ _ => pts_nil) (fun _ _ _ _ _ => (pe_tup (pa_cons (pv 1) (pa_cons (pe_revS (pe_dget (hu_of hr) (pv 0) (pv 1) (fun _ _ => rfl))) pa_nil)))))) pa_nil)))), ?_⟩
    have le : (encT t).length = t.length := encT_len t
    have nd : (t.map (·.1)).Nodup := g.1.nd
    have nd2 : ((backT t).map (·.1)).Nodup := (back_good g).1.nd
    refine ⟨d, _, hd, True.intro, fun od => ⟨_, rfl, d, od, rfl, .inl ⟨_, upd_same, ?_⟩⟩⟩
    have rdd : Rd (upd H d (.frz od (.dK (encT t)))) d (.dK (encT t)) := .inr ⟨od, upd_same⟩
    have nofr : ∀ b, b ≠ d → upd H d (.frz od (.dK (encT t))) b = H b := fun b e => upd_ne e
    have hfz : upd H d (.frz od (.dK (encT t))) d = some (.frz od (.dK (encT t))) := upd_same
    generalize eL : upd H d (.frz od (.dK (encT t))) = HL at rdd nofr hfz ⊢
    refine fun D nD => lc_it (walk_keys (d := d) (o := od) (kvs := encT t)) (fun i H2 => ∃ ps, PairsAt H2 ps ((backT t).take i) ∧ H2 D = some (.lst (ps.map V.ref)) ∧ Same HL H2) ?_ ?_ ?_ ?_
    · exact ⟨[], .nil, upd_same, same_put (s := Same.refl HL) nD⟩
    · rintro i H2 hi ⟨ps, _, _, s2⟩
      exact s2 _ _ hfz
    · rintro i x H20 H2 hi ⟨ps, pr, hD, s2⟩ ⟨rfl, k, v, hk, rfl⟩
      obtain ⟨hi', rfl, rfl⟩ := enc_at hk
      have hq := List.getElem_mem hi'
      have ly := pr.len
      rw [List.length_take] at ly
      have rdd2 : Rd H2 d (.dK (encT t)) := rdd.imp (fun h => s2 _ _ h) fun ⟨o, h⟩ => ⟨o, s2 _ _ h⟩
      have i4 := (g.1.img _ hq).2.1
      refine ⟨rfl, _, rfl, _, rfl, _, rfl, d, V.str (Sx t[i].2), rfl, .inl ⟨_, Sum.inr (L1 t[i].1), rdd2, rfl, by rw [valV_enc, look_at nd hi']; rfl⟩, ?_⟩
      refine ⟨Sx t[i].2, rfl, by rw [Sx_len, sizeLine_eq]; omega, by show 2 ≤ sizeLine; decide, fun p np => ?_⟩
      rw [revS_sx]
      have hp : upd H2 p (.tup [.str (L1 t[i].1), .str (Sx t[i].2.reverse)]) p = some (.tup [.str (L1 t[i].1), .str (Sx t[i].2.reverse)]) := upd_same
      have s4 := same_put (s := Same.refl H2) (o := .tup [.str (L1 t[i].1), .str (Sx t[i].2.reverse)]) np
      have eK : kV (Sum.inr (L1 t[i].1)) = .str (L1 t[i].1) := rfl
      rw [eK]
      generalize upd H2 p (.tup [.str (L1 t[i].1), .str (Sx t[i].2.reverse)]) = H4 at s4 hp ⊢
      have hD4 := s4 _ _ hD
      have ep : (backT t)[i]? = some (t[i].1, t[i].2.reverse) := by
        unfold backT
        rw [List.getElem?_map, List.getElem?_eq_getElem hi']
        rfl
      have g5 := g.2
      refine ⟨_, hD4, by rw [List.length_map, sizeLine_eq]; omega, ps ++ [p], ?_, ?_, ?_⟩
      · rw [List.take_add_one, ep]
        exact PairsAt.snoc ((pr.mono fun b xs e => s4 _ _ e).mono (tup_upd hD4)) ((upd_ne (ne_of hp hD4 (fun z => nomatch z))).trans hp)
      · rw [upd_same, List.map_append]
        rfl
      · intro b o e
        rw [upd_ne (ne_of_none e nD)]
        exact s4 _ _ (s2 _ _ e)
    · rintro H2 ⟨ps, pr, hD, s2⟩
      rw [le, List.take_of_length_le (by unfold backT; rw [List.length_map]; exact Nat.le_refl _)] at pr
      have dD : d ≠ D := ne_of_none hfz nD
      have nDH : H D = none := by
        rw [← nofr D (Ne.symm dD)]
        exact nD
      have hd2 : H2 d = some (.frz od (.dK (encT t))) := s2 _ _ hfz
      have sB : Same H (upd H2 d (.dK (encT t))) := fun b o e => by
        by_cases eb : b = d
        · rw [eb, upd_same, ← hd, ← eb, e]
        · rw [upd_ne eb]
          exact s2 _ _ (by rw [nofr b eb]; exact e)
      have hDB : upd H2 d (.dK (encT t)) D = some (.lst (ps.map V.ref)) := by rw [upd_ne (Ne.symm dD)]; exact hD
      have prB : PairsAt (upd H2 d (.dK (encT t))) ps (backT t) := pr.mono fun b xs e => by
        rw [upd_ne (fun z => by rw [z, hd2] at e; cases e)]
        exact e
      refine ⟨hd2, D, ps, encT (backT t), rfl, SqL.of hDB, PairsAt.sq prB, fun r nr => ?_⟩
      have em : mergeK [] (encT (backT t)) = encT (mergeT [] (backT t)) := mergeK_enc (backT t) []
      rw [em, mergeT_nil nd2]
      exact q r _ (same_none sB nr) (same_put (s := sB) nr) upd_same
end
end V8
set_option Elab.async false
set_option linter.all false
set_option maxRecDepth 100000
set_option maxHeartbeats 8000000
set_option pp.maxSteps 900
/-! A table under other names. -/
namespace V8
open PySem PySem.Spec PyProof.Rows L2 MZ
abbrev s__law_named : Stmt := topS 113
abbrev n__law_named : List Str := ["_law_table_here", "_law_names", "_law_letter", "_law_sign"]
theorem sc__law_named : FnScope ["_law_table_here", "_law_names", "_law_letter", "_law_sign"] ["_law_table_here", "_law_names"] (defScope s__law_named) := ⟨rfl, rfl, rfl, by decide +kernel, rfl, by decide +kernel, by decide +kernel⟩
/-- the scope of the outer comprehension -/
def scN : Scope := { kind := .function, names := [(".0", .local), ("_law_letter", .local), ("_law_names", .free), ("_law_table_here", .free)], isGenerator := false, isCoroutine := false }
def nmF (nm : Tab) (c : Nat) : Nat := ((lookT nm c).getD []).headD 0
def namedT (t nm : Tab) : Tab := t.map fun q => (nmF nm q.1, q.2.map (nmF nm))
def HasNm (nm : Tab) (c : Nat) : Prop := lookT nm c = some [nmF nm c]
theorem rd_put {H : Hp} {D d : Addr} {o x : HO} (h : Rd H d o) (n : H D = none) : Rd (upd H D x) d o := by
  rcases h with h | ⟨od, h⟩
  · exact .inl (by rw [upd_ne (ne_of_none h n)]; exact h)
  · exact .inr ⟨od, by rw [upd_ne (ne_of_none h n)]; exact h⟩
def spNamed : Sp := fun vs H Q _ => ∃ (d n : Addr) (t nm : Tab), vs = [.ref d, .ref n] ∧ H d = some (.dK (encT t)) ∧ H n = some (.dK (encT nm)) ∧ (∀ q ∈ t, HasNm nm q.1 ∧ ∀ c ∈ q.2, HasNm nm c) ∧ t.length ≤ 8 ∧ (∀ q ∈ t, q.2.length ≤ 8) ∧ (t.map (·.1)).Nodup ∧ ((namedT t nm).map (·.1)).Nodup ∧ (∀ q ∈ t, isLt q.1 ∧ ∀ c ∈ q.2, isLt c) ∧
  ∀ r H', H r = none → Same H H' → H' r = some (.dK (encT (namedT t nm))) → Q (.ref r) H'
theorem rd_lock {H : Hp} {d n : Addr} {t nm : Tab} {od : Obj} (hd : H d = some (.dK (encT t))) (hn : H n = some (.dK (encT nm))) : Rd (upd H d (.frz od (.dK (encT t)))) n (.dK (encT nm)) := by
  by_cases e : n = d
  · subst e
    have e2 : HO.dK (encT t) = HO.dK (encT nm) := Option.some.inj (hd.symm.trans hn)
    rw [← e2]
    exact .inr ⟨od, upd_same⟩
  · exact .inl (by rw [upd_ne e]; exact hn)
section
variable {P : Program} {w : World} {K : PySem.W.Frag} {mg : Str → Option Value} {base : Heap} {CM CJ : Addr}
theorem ok_named {f : Addr} {fd : FuncData} (F : Fun K "_law_named" "_law_named" s__law_named f fd) (T : Tz K mg CM CJ) : FnOk P w K mg base CX0 1 f fd ["_law_table_here", "_law_names"] spNamed := by
  refine F.ok sc__law_named (fun vs H Q E h => ?_) (fun cdv A outer s H vs Q E hr h => ?_)
  · obtain ⟨d, n, t, nm, rfl, _⟩ := h
    rfl
  · obtain ⟨d, n, t, nm, rfl, hd, hn, has, l8, i8, nd, nd2, lt, q⟩ := h
    refine ⟨_, (pss_one (ps_ret (pe_callTy (call_dictP rfl) (by rfl) T.dict (by decide +kernel) (pa_cons (pe_lock (pe_lc (own := [("_law_letter", 2)]) (g := gName 2) (by rfl) sc__law_named.nd (pi_keys (pv 0)) (blkOk_by (own := [("_law_letter", 2)]) (N := n__law_named) (sc := defScope s__law_named) (by decide +kernel)) (fun _ _ _ _ _ => (pg_name (i := 2) sc__law_named.nd rfl (.inl rfl))) (fun _ _ _ _ _ => pts_nil) (fun _ _ _ _ _ => (pe_tup (pa_cons (pe_dget (hu_of hr) (pv 1) (pv 2) (fun _ _ => rfl)) (pa_cons (pe_joinK (K := K) rfl pe_str (pe_lc (own := [("_law_sign", 3)]) (g := gName 3) (by rfl) sc__law_named.nd (pi_str (pe_dget (hu_of hr) (pv 0) (pv 2) (fun _ _ => rfl))) (blkOk_by (own := [("_law_sign", 3)]) (N := n__law_named) (sc := relS scN (defScope s__law_named)) (by decide +kernel)) (fun _ _ _ _ _ => (pg_name (i := 3) sc__law_named.nd rfl (.inl rfl))) (fun _ _ _ _ _ => pts_nil) (fun _ _ _ _ _ => (pe_dget (hu_of hr) (pv 1) (pv 3) (fun _ _ => rfl))))) pa_nil)))))) pa_nil)))), ?_⟩
    have le : (encT t).length = t.length := encT_len t
    refine ⟨d, _, hd, True.intro, fun od => ⟨_, rfl, d, od, rfl, .inl ⟨_, upd_same, ?_⟩⟩⟩
    have rdn := rd_lock (od := od) hd hn
    have rdd : Rd (upd H d (.frz od (.dK (encT t)))) d (.dK (encT t)) := .inr ⟨od, upd_same⟩
    have nofr : ∀ b, b ≠ d → upd H d (.frz od (.dK (encT t))) b = H b := fun b e => upd_ne e
    have hfz : upd H d (.frz od (.dK (encT t))) d = some (.frz od (.dK (encT t))) := upd_same
    generalize eL : upd H d (.frz od (.dK (encT t))) = HL at rdn rdd nofr hfz ⊢
    refine fun D nD => lc_it (walk_keys (d := d) (o := od) (kvs := encT t)) (fun i H2 => ∃ ps, PairsAt H2 ps ((namedT t nm).take i) ∧ H2 D = some (.lst (ps.map V.ref)) ∧ Same HL H2) ?_ ?_ ?_ ?_
    · exact ⟨[], .nil, upd_same, same_put (s := Same.refl HL) nD⟩
    · rintro i H2 hi ⟨ps, _, _, s2⟩
      exact s2 _ _ hfz
    · rintro i x H20 H2 hi ⟨ps, pr, hD, s2⟩ ⟨rfl, k, v, hk, rfl⟩
      obtain ⟨hi', rfl, rfl⟩ := enc_at hk
      have hq := List.getElem_mem hi'
      obtain ⟨h1, h2⟩ := has _ hq
      have ly := pr.len
      rw [List.length_take] at ly
      have rdn2 : Rd H2 n (.dK (encT nm)) := rdn.imp (fun h => s2 _ _ h) fun ⟨o, h⟩ => ⟨o, s2 _ _ h⟩
      have rdd2 : Rd H2 d (.dK (encT t)) := rdd.imp (fun h => s2 _ _ h) fun ⟨o, h⟩ => ⟨o, s2 _ _ h⟩
      refine ⟨rfl, _, rfl, _, rfl, n, V.str (Sx [nmF nm t[i].1]), rfl, .inl ⟨_, Sum.inr (L1 t[i].1), rdn2, rfl, by rw [valV_enc, h1]; rfl⟩, ?_⟩
      refine ⟨⟨_, rfl⟩, _, rfl, _, rfl, d, V.str (Sx t[i].2), rfl, .inl ⟨_, Sum.inr (L1 t[i].1), rdd2, rfl, by rw [valV_enc, look_at nd hi']; rfl⟩, Sx t[i].2, rfl, fun D2 nD2 => ?_⟩
      have hz : ∀ (j : Nat) (c : Nat), t[i].2[j]? = some c → (((t[i].2.map fun c => [nmF nm c]).map Sx).map V.str)[j]? = some (V.str (Sx [nmF nm c])) := fun j c hj => by
        rw [List.getElem?_map, List.getElem?_map, List.getElem?_map, hj]
        rfl
      have hlen : (((t[i].2.map fun c => [nmF nm c]).map Sx).map V.str).length = t[i].2.length := by
        rw [List.length_map, List.length_map, List.length_map]
      have li := i8 _ hq
      refine lc_it walk_str (fun j H3 => H3 = upd H2 D2 (.lst ((((t[i].2.map fun c => [nmF nm c]).map Sx).map V.str).take j))) rfl (fun _ _ _ _ => trivial) ?_ ?_
      · rintro j z H3 H3' hj rfl ⟨rfl, c, hc0, rfl⟩
        have hc1 := sx_at hc0
        have h3 := h2 c (List.mem_of_getElem? hc1)
        have r1 := rd_put (x := .lst ((((t[i].2.map fun c => [nmF nm c]).map Sx).map V.str).take j)) rdn2 nD2
        refine ⟨rfl, _, rfl, _, rfl, n, V.str (Sx [nmF nm c]), rfl, .inl ⟨_, Sum.inr (L1 c), r1, rfl, by rw [valV_enc, h3]; rfl⟩, ?_⟩
        exact acc_okL (hz j c hc1) (by rw [hlen, sizeLine_eq]; omega)
      · rintro H3 rfl
        rw [sx_size, List.take_of_length_le (by rw [hlen]; exact Nat.le_refl _)]
        refine ⟨Str.empty, D2, (t[i].2.map fun c => [nmF nm c]).map Sx, rfl, rfl, .inl (SqL.of upd_same), ?_, ?_⟩
        · have hb := sum_le (fun x : Str => x.length) 1 ((t[i].2.map fun c => [nmF nm c]).map Sx) fun y hy => by
            obtain ⟨s3, hs3, rfl⟩ := List.mem_map.mp hy
            obtain ⟨c, hc, rfl⟩ := List.mem_map.mp hs3
            exact Nat.le_refl _
          rw [List.length_map, List.length_map] at hb ⊢
          show _ + _ * 0 ≤ _
          omega
        · rw [join_Sx]
          have ef : (t[i].2.map fun c => [nmF nm c]).flatten = t[i].2.map (nmF nm) := by
            induction t[i].2 with
            | nil => rfl
            | cons c r ih =>
              rw [List.map_cons, List.flatten_cons, ih]
              rfl
          rw [ef]
          have s3 := same_put (s := Same.refl H2) (o := .lst (((t[i].2.map fun c => [nmF nm c]).map Sx).map V.str)) nD2
          generalize upd H2 D2 (.lst (((t[i].2.map fun c => [nmF nm c]).map Sx).map V.str)) = H3 at s3 ⊢
          refine ⟨by show 2 ≤ sizeLine; decide, fun p np => ?_⟩
          have hp : upd H3 p (.tup [.str (Sx [nmF nm t[i].1]), .str (Sx (t[i].2.map (nmF nm)))]) p = some (.tup [.str (L1 (nmF nm t[i].1)), .str (Sx (t[i].2.map (nmF nm)))]) := upd_same
          have s4 := same_put (s := s3) (o := .tup [.str (Sx [nmF nm t[i].1]), .str (Sx (t[i].2.map (nmF nm)))]) np
          generalize upd H3 p (.tup [.str (Sx [nmF nm t[i].1]), .str (Sx (t[i].2.map (nmF nm)))]) = H4 at s4 hp ⊢
          have hD4 := s4 _ _ hD
          have ep : (namedT t nm)[i]? = some (nmF nm t[i].1, t[i].2.map (nmF nm)) := by
            unfold namedT
            rw [List.getElem?_map, List.getElem?_eq_getElem hi']
            rfl
          refine ⟨_, hD4, by rw [List.length_map, sizeLine_eq]; omega, ps ++ [p], ?_, ?_, ?_⟩
          · rw [List.take_add_one, ep]
            exact PairsAt.snoc ((pr.mono fun b xs e => s4 _ _ e).mono (tup_upd hD4)) ((upd_ne (ne_of hp hD4 (fun z => nomatch z))).trans hp)
          · rw [upd_same, List.map_append]
            rfl
          · intro b o e
            rw [upd_ne (ne_of_none e nD)]
            exact s4 _ _ (s2 _ _ e)
    · rintro H2 ⟨ps, pr, hD, s2⟩
      rw [le, List.take_of_length_le (by unfold namedT; rw [List.length_map]; exact Nat.le_refl _)] at pr
      have dD : d ≠ D := ne_of_none hfz nD
      have nDH : H D = none := by
        rw [← nofr D (Ne.symm dD)]
        exact nD
      have hd2 : H2 d = some (.frz od (.dK (encT t))) := s2 _ _ hfz
      have sB : Same H (upd H2 d (.dK (encT t))) := fun b o e => by
        by_cases eb : b = d
        · rw [eb, upd_same, ← hd, ← eb, e]
        · rw [upd_ne eb]
          exact s2 _ _ (by rw [nofr b eb]; exact e)
      have hDB : upd H2 d (.dK (encT t)) D = some (.lst (ps.map V.ref)) := by rw [upd_ne (Ne.symm dD)]; exact hD
      have prB : PairsAt (upd H2 d (.dK (encT t))) ps (namedT t nm) := pr.mono fun b xs e => by
        rw [upd_ne (fun z => by rw [z, hd2] at e; cases e)]
        exact e
      refine ⟨hd2, D, ps, encT (namedT t nm), rfl, SqL.of hDB, PairsAt.sq prB, fun r nr => ?_⟩
      have em : mergeK [] (encT (namedT t nm)) = encT (mergeT [] (namedT t nm)) := mergeK_enc (namedT t nm) []
      rw [em, mergeT_nil nd2]
      exact q r _ (same_none sB nr) (same_put (s := sB) nr) upd_same
end
end V8
set_option Elab.async false
set_option linter.all false
set_option maxRecDepth 100000
set_option maxHeartbeats 4000000
/-! sorted(set(xs)), xs a list of any texts. -/
namespace SetW
open PySem PySem.Spec PyProof.Rows L2 SetT
/-- the text of an entry -/
def txtOf (e : Int × Value) : Str := match e.2 with
  | .str z _ => z
  | _ => Str.empty
def Ent (P : Program) (w : World) (e : Int × Value) : Prop := ∃ z tk, e.2 = Value.str z tk ∧ e.1 = (PySem.strKind P w).hash z
/-- a set of texts whose table can be walked -/
def Walk (P : Program) (w : World) (h : Heap) (a : Addr) (ys : List Str) : Prop :=
  ∃ ob us ep tb, h.get? a = some ob ∧ ob.ExactSet ∧ ob.data = .set us ep tb ∧ (∀ e ∈ us.toList, Ent P w e) ∧ (us.toList.map txtOf).Perm ys ∧ ys.Nodup ∧
    us.size < scanBound ∧ tb.fits us.size = true ∧ Ris tb.place.toList ∧ (w.params.followText "set-order" = true ∨ tb.led = true)
section
variable {P : Program} {w : World} {h h' : Heap} {a : Addr} {ys : List Str}
theorem Walk.moved (R : Walk P w h a ys) (k : ∀ o, h.get? a = some o → h'.get? a = some o) : Walk P w h' a ys := by
  obtain ⟨ob, us, ep, tb, gO, r⟩ := R
  exact ⟨ob, us, ep, tb, k ob gO, r⟩
theorem ent_is {e : Int × Value} (g : Ent P w e) (k : Str) : (PySem.strKind P w).is k e.2 = true ↔ txtOf e = k := by
  obtain ⟨z, tk, e1, _⟩ := g
  unfold txtOf
  rw [e1]
  show ((z == k) = true) ↔ z = k
  exact beq_iff_eq
theorem ents {l : List (Int × Value)} (g : ∀ e ∈ l, Ent P w e) : ElemsOf (PySem.strKind P w) l := fun e he => by
  obtain ⟨z, tk, e1, e2⟩ := g e he
  refine ⟨⟨z, ?_, e2⟩, ?_⟩
  · rw [e1]
    exact strKind_is P w z tk
  · rw [e1]
    rfl
end
section
variable {P : Program} {w : World} {A : Around} {E : Value → Shared → Prop} {s : Shared} {a : Addr} {ys : List Str}
theorem tail_add {g : Bool → Sem Unit} (hg : ∀ (b : Bool) (s₁ : Shared) (Q' : Unit → Shared → Prop), Q' () s₁ → wpAny (model P w) A (g b) Q' E s₁) {ob : Obj} {us : Array (Int × Value)} {ep : Nat} {tb : SetTable} (gO : s.heap.get? a = some ob) (gX : ob.ExactSet) (gD : ob.data = .set us ep tb)
    {us1 : Array (Int × Value)} {t2 : SetTable} (gE : ∀ e ∈ us1.toList, Ent P w e) (gP : (us1.toList.map txtOf).Perm ys) (gN : ys.Nodup) (gB : us1.size < scanBound) (gF : t2.fits us1.size = true) (gR : Ris t2.place.toList) (gL : w.params.followText "set-order" = true ∨ t2.led = true) {was : Bool} {R : Option Bool → Shared → Prop}
    (go : ∀ h', Heap.SameBut a s.heap h' → Walk P w h' a ys → R (some true) { s with heap := h' }) :
    wpAny (model P w) A (do storeSet a us1 t2; if (!was && t2.tooFull) = true then (do g (relayAll t2 us1 (SetTable.grown us1.size)).2.2; storeSet a (relayAll t2 us1 (SetTable.grown us1.size)).1 (relayAll t2 us1 (SetTable.grown us1.size)).2.1; pure (some true)) else pure (some true)) R E s := by
  have at1 := store_at (es' := us1) (t' := t2) gO gD
  have same1 := Heap.SameBut.update s.heap a (Obj.putSet us1 t2)
  refine wpAny_bind (wpAny_storeSet_of gO gD ?_ (fits_of_scanBound gB))
  split
  · have q1 := relayAll_perm t2 us1 (SetTable.grown us1.size)
    have q2 := relayAll_fits t2 us1 (SetTable.grown us1.size)
    have q3 := relayAll_ris t2 us1 (SetTable.grown us1.size)
    have q4 := relayAll_led t2 us1 (SetTable.grown us1.size)
    generalize relayAll t2 us1 (SetTable.grown us1.size) = Z at q1 q2 q3 q4 ⊢
    obtain ⟨us2, t3, gave⟩ := Z
    dsimp only at q1 q2 q3 q4 ⊢
    have z2 : us2.size = us1.size := by rw [← Array.length_toList, q1.length_eq, Array.length_toList]
    have b2 : us2.size < scanBound := z2 ▸ gB
    refine wpAny_bind (hg _ _ _ (wpAny_bind (wpAny_storeSet_of at1 rfl ?_ (fits_of_scanBound b2))))
    have at2 := store_at (es' := us2) (t' := t3) at1 rfl
    exact wpAny_pure (go _ (same1.trans (Heap.SameBut.update _ a _)) ⟨_, us2, _, t3, at2, gX, rfl, fun e he => gE e (q1.mem_iff.mp he), (q1.map txtOf).trans gP, gN, b2, q2, q3, gL.imp id fun z => by rw [q4]; exact z⟩)
  · exact wpAny_pure (go _ same1 ⟨_, us1, _, t2, at1, gX, rfl, gE, gP, gN, gB, gF, gR, gL⟩)
theorem add_text {k : Str} {tk : Tok} {Q : Bool → Shared → Prop} (R : Walk P w s.heap a ys) (room : ys.length + 1 < scanBound)
    (go : ∀ (b : Bool) h', Heap.SameBut a s.heap h' → Walk P w h' a (add1 ys k) → Q b { s with heap := h' }) :
    wpAny (model P w) A (setAddHashed a (.str k tk) ((PySem.strKind P w).hash k)) Q E s := by
  obtain ⟨ob, us, ep, tb, gO, gX, gD, gE, gP, gN, gB, gF, gR, gL⟩ := R
  have key : (PySem.strKind P w).is k (.str k tk) = true := strKind_is P w k tk
  have scan : (Value.str k tk).scannable = true := rfl
  have el : ElemsOf (PySem.strKind P w) us.toList := ents gE
  have mem : k ∈ ys ↔ ∃ e ∈ us.toList, (PySem.strKind P w).is k e.2 = true := by
    rw [← gP.mem_iff, List.mem_map]
    exact ⟨fun ⟨e, he, q⟩ => ⟨e, he, (ent_is (gE e he) k).mpr q⟩, fun ⟨e, he, q⟩ => ⟨e, he, (ent_is (gE e he) k).mp q⟩⟩
  unfold setAddHashed setAddHashedIn
  refine wpAny_holding (wpAny_bind (wpAny_setState_of gO gD gF ?_))
  dsimp only
  rw [byScan_of scan gB el]
  simp only [↓reduceIte]
  unfold setAddByScan
  refine wpAny_bind (wpAny_bind (wpAny_rule (wpAny_bind (wpAny_setScan_of key gO gD gF el ?_))))
  cases found : List.findIdx? (fun e => (PySem.strKind P w).is k e.2) us.toList with
  | some j =>
    dsimp only
    obtain ⟨hj, pj, _⟩ := List.findIdx?_eq_some_iff_getElem.mp found
    have inn : k ∈ ys := mem.mpr ⟨us.toList[j], List.getElem_mem hj, pj⟩
    refine wpAny_pure (wpAny_pure (go _ s.heap (Heap.SameBut.refl a s.heap) ?_))
    have e1 : add1 ys k = ys := if_pos inn
    rw [e1]
    exact ⟨ob, us, ep, tb, gO, gX, gD, gE, gP, gN, gB, gF, gR, gL⟩
  | none =>
    dsimp only
    have out : k ∉ ys := fun z => by
      obtain ⟨e, he, q⟩ := mem.mp z
      have c := List.findIdx?_eq_none_iff.mp found e he
      rw [q] at c
      cases c
    have e1 : add1 ys k = ys ++ [k] := if_neg out
    rw [e1] at go
    have gave_ : ∀ (b : Bool) {s₁ : Shared} {Q' : Unit → Shared → Prop}, Q' () s₁ → wpAny (model P w) A (match b with | true => rule "set.scan.the-table-gave-way" | false => pure ()) Q' E s₁ := fun b s₁ Q' q => match b with
      | true => wpAny_rule q
      | false => wpAny_pure q
    have q1 := layNew_perm tb us ((PySem.strKind P w).hash k) (.str k tk)
    have q2 := layNew_fits tb us ((PySem.strKind P w).hash k) (.str k tk)
    have q3 := layNew_ris tb us ((PySem.strKind P w).hash k) (.str k tk) gR
    have q4 := layNew_led tb us ((PySem.strKind P w).hash k) (.str k tk)
    generalize layNew tb us ((PySem.strKind P w).hash k) (.str k tk) = Z at q1 q2 q3 q4 ⊢
    obtain ⟨us1, t1, was, gave⟩ := Z
    dsimp only at q1 q2 q3 q4 ⊢
    rw [Array.toList_push] at q1
    have nE : ∀ e ∈ us1.toList, Ent P w e := fun e he => by
      rcases List.mem_append.mp (q1.mem_iff.mp he) with z | z
      · exact gE e z
      · rw [List.mem_singleton.mp z]
        exact ⟨k, tk, rfl, rfl⟩
    have nP : (us1.toList.map txtOf).Perm (ys ++ [k]) := by
      have z := q1.map txtOf
      rw [List.map_append] at z
      exact z.trans (gP.append (List.Perm.refl _))
    have nN : (ys ++ [k]).Nodup := by
      have z := nd_add1 (y := k) gN
      rw [e1] at z
      exact z
    have nB : us1.size < scanBound := by
      have z := nP.length_eq
      rw [List.length_map, Array.length_toList, List.length_append] at z
      rw [z]
      exact room
    have nL : w.params.followText "set-order" = true ∨ t1.led = true := gL.imp id fun z => by rw [q4]; exact z
    refine wpAny_bind (gave_ _ ?_)
    split
    · refine wpAny_bind ?_
      rw [hashByValue_scannable 8 scan]
      refine wpAny_pure (tail_add ?_ gO gX gD nE nP nN nB ?_ ?_ ?_ ?_)
      · intro b s₁ Q' q
        cases b
        · first | exact wpAny_pure q | exact wpAny_rule q
        · first | exact wpAny_pure q | exact wpAny_rule q
      · first | (split <;> first | exact q2 | exact SetTable.fits_plain_off q2) | exact q2
      · first | (split <;> exact q3) | exact q3
      · first | (split <;> exact nL) | exact nL
      · exact fun h' sb r => wpAny_pure (go _ h' sb r)
    · refine wpAny_bind (wpAny_pure ?_)
      simp only [↓reduceIte]
      refine tail_add ?_ gO gX gD nE nP nN nB q2 q3 nL ?_
      · intro b s₁ Q' q
        cases b
        · first | exact wpAny_pure q | exact wpAny_rule q
        · first | exact wpAny_pure q | exact wpAny_rule q
      · exact fun h' sb r => wpAny_pure (go _ h' sb r)
end
section
variable {P : Program} {w : World} {A : Around} {R : Result → Shared → Prop} {J : Addr} {fr ws : List Addr} {G : Array GenState → Array GenState → Prop} {n : Nat} {Pv : Nat → Value → Prop} {St : Nat → Shared → Prop}
theorem fillW (W : WalksS P w A.in1 J fr ws G n Pv St) (D : Addr) (off : D ∉ fr) (ys : List Str) (many : ys.length = n) (few : n ≤ 4000) (val : ∀ j v, Pv j v → ∃ tk, v = .str (ys.getD j Str.empty) tk) :
    ∀ (left j : Nat) (z : Shared), n - j = left → j ≤ n → St j z → Walk P w z.heap D (uqs (ys.take j)) → (∀ z2, Moved (D :: ws) G z z2 → Walk P w z2.heap D (uqs ys) → R (.ok (.ret .none)) z2) →
      codeAny (model P w) A (.builtin "set.update.loop" ⟨[.ref D, .ref J], []⟩) R z := by
  have away : D ∉ ws := fun q => off (W.sub _ q)
  have more : ∀ b ∈ ws, b ∈ D :: ws := fun b q => List.mem_cons_of_mem _ q
  intro left
  induction left with
  | zero =>
    intro j z hl hj st set out
    obtain rfl : j = n := by omega
    rw [List.take_of_length_le (by omega)] at set
    refine codeAny_builtin PyProof.Rows.F.entry_set_update_loop ?_
    rw [Around.under_plainId PyProof.Rows.F.plain_set_update_loop _]
    show wpAny _ A.in1 (pyNext (.ref J) >>= _) _ _ z
    refine wpAny_bind (W.done z _ _ st fun z2 mv => ?_)
    show wpAny _ A.in1 (ret Value.none) _ _ z2
    exact wpAny_pure (out z2 (mv.mono more) (set.moved fun o e => mv.heap D _ away e))
  | succ left ih =>
    intro j z hl hj st set out
    have lt : j < n := by omega
    refine codeAny_builtin PyProof.Rows.F.entry_set_update_loop ?_
    rw [Around.under_plainId PyProof.Rows.F.plain_set_update_loop _]
    show wpAny _ A.in1 (pyNext (.ref J) >>= _) _ _ z
    refine wpAny_bind (W.item j z _ _ lt st fun v z2 pv st2 mv => ?_)
    obtain ⟨tk, rfl⟩ := val j v pv
    have set2 := set.moved (h' := z2.heap) fun o e => mv.heap D _ away e
    have at_ : ys[j]? = some (ys.getD j Str.empty) := by
      rw [List.getD_eq_getElem?_getD, List.getElem?_eq_getElem (by omega)]
      rfl
    show wpAny _ A.in1 (holding [Value.str (ys.getD j Str.empty) tk] (setAdd D (.str (ys.getD j Str.empty) tk)) >>= _) _ _ z2
    refine wpAny_bind (wpAny_holding ?_)
    unfold setAdd
    refine wpAny_holding ?_
    refine wpAny_bind ((PySem.strKind P w).pyHash (k := ys.getD j Str.empty) (strKind_is _ _ _ _) ?_)
    have l1 := uqs_len (ys.take j)
    have l2 : (ys.take j).length ≤ j := by
      rw [List.length_take]
      omega
    refine add_text (s := { z2 with toks := z2.toks + 1 }) set2 (by unfold scanBound; omega) fun b g sb set3 => ?_
    have set4 : Walk P w g D (uqs (ys.take (j + 1))) := by
      have e : ys.take (j + 1) = ys.take j ++ [ys.getD j Str.empty] := by rw [List.take_add_one, at_]; rfl
      rw [e, uqs_snoc]
      exact set3
    refine wpAny_pure ⟨plainId_quiet PyProof.Rows.F.plain_set_update_loop _, ih (j + 1) _ (by omega) lt (W.frame _ z2 _ _ st2 (Nat.le_succ _) fun b q o e => ?_) set4 fun z3 mv3 set5 => ?_⟩
    · rw [sb.2 b (fun u : b = D => off (by rw [← u]; exact q))]
      exact e
    · refine out z3 (Moved.trans W.gtrans ((mv.mono more).then_heap (Nat.le_succ _) fun b o q e => ?_) mv3) set5
      rw [sb.2 b (fun u : b = D => q (by rw [u]; exact List.mem_cons_self))]
      exact e
end
section
variable {P : Program} {w : World} {A : Around} {E : Value → Shared → Prop} {z : Shared}
set_option maxHeartbeats 3200000 in
theorem set_textsW {l : Addr} {its : Array Value} {ys : List Str} {Q : Value → Shared → Prop} (calm : A.handled = none) (at_ : z.heap.IsList l its) (txt : PyProof.Rows.StrsAre its.toList ys) (few : ys.length ≤ 4000)
    (go : ∀ (g : Heap) (tk : Nat), Walk P w g z.heap.objs.size (uqs ys) → (∀ b o, b < z.heap.objs.size → z.heap.get? b = some o → g.get? b = some o) → Q (.ref z.heap.objs.size) { z with heap := g, toks := tk }) :
    wpAny (model P w) A (call (.type "set") [.ref l]) Q E z := by
  obtain ⟨cc, tll, hmro2⟩ := PySem.F.called_set.mro
  have made2 := PySem.F.called_set.made
  have sub2 := PySem.F.called_set.sub
  refine wpAny_call (codeAny_of_tree ?_)
  show wpAny _ _ (callAny (.type "set") _) _ _ _
  refine wpAny_pure ⟨Code.quiet_builtin _ (by decide +kernel), codeAny_builtin PySem.F.entry_type_call ?_⟩
  rw [Around.under_plain (weight_type_call_type "set" [.ref l] []) rfl]
  have nt2 := PySem.F.called_set.notType
  have cr2 := PySem.F.called_set.canCreate
  have tc2 := PySem.F.typeCall_set_1 (.ref l)
  repeat (any_goals (first | assumption | wp_step))
  refine codeAny_mono (code_set_led1 (.ref l) (E := E) (Q₁ := fun ob z1 => ob = .ref z.heap.objs.size ∧ z1 = { z with heap := z.heap.push { cls := .type "set", dict := none, data := .set #[] 0 (.fresh 0 0 (!w.params.followText "set-order")) } }) ⟨rfl, rfl⟩) fun r z1 hr => ?_
  match r, hr with
  | .error e, hr => exact hr
  | .ok .next, hr => exact hr.elim
  | .ok .brk, hr => exact hr.elim
  | .ok .cont, hr => exact hr.elim
  | .ok (.ret ob), hr =>
    obtain ⟨rfl, rfl⟩ := hr
    have new2 : (z.heap.push { cls := .type "set", dict := none, data := .set #[] 0 (.fresh 0 0 (!w.params.followText "set-order")) }).get? z.heap.objs.size = some { cls := .type "set", dict := none, data := .set #[] 0 (.fresh 0 0 (!w.params.followText "set-order")) } := Heap.get?_push_size _ rfl
    have ty2 : Shared.TypeIs { z with heap := z.heap.push { cls := .type "set", dict := none, data := .set #[] 0 (.fresh 0 0 (!w.params.followText "set-order")) } } (.ref z.heap.objs.size) "set" := ⟨_, new2, rfl⟩
    have li2 := PySem.F.called_set.init.lookup
    have bi2 := PySem.F.called_set.init.bind (.ref z.heap.objs.size)
    repeat (any_goals (first | assumption | wp_step))
    refine codeAny_mono (codeAny_call_builtin (R := wants (fun r z2 => r = .none ∧ ∃ g tk, z2 = { z with heap := g, toks := tk } ∧ Walk P w g z.heap.objs.size (uqs ys) ∧
        (∀ b o, b < z.heap.objs.size → z.heap.get? b = some o → g.get? b = some o)) E) PySem.F.called_set.init.plain PySem.F.entry_set_init (check_set_init_1 ty2 ?_)) fun r2 z2 hr2 => ?_
    · obtain ⟨⟨c0, d0, t0, s0⟩, o1, o2, n2, o3⟩ := at_
      simp only at o2 o3
      subst o2
      subst o3
      have at2 : (z.heap.push { cls := .type "set", dict := none, data := .set #[] 0 (.fresh 0 0 (!w.params.followText "set-order")) }).get? l = some { cls := .type "list", dict := d0, data := .seq its n2, slots := s0 } := Heap.get?_push_of_some _ o1
      have sl1 := PySem.F.sub_list_set
      have sl2 := PySem.F.sub_list_frozenset
      have ned : (Value.type "list" == Value.type "dict") = false := by decide
      have at3 : (z.heap.push { cls := .type "set", dict := none, data := .set #[] 0 (.fresh 0 0 (!w.params.followText "set-order")) }).IsList l its := ⟨_, at2, rfl, n2, rfl⟩
      unfold Builtin.«set.__init__» noKeywords Builtin.Frozenset.updateFrom
      generalize hIT : pyIter = IT
      wp_walk
      subst hIT
      refine wpAny_pyIter_list at3 ?_
      refine wpAny_bind (wpAny_runValue ?_)
      have ll : l < z.heap.objs.size := Heap.lt_size o1
      have calm3 : A.in1.in1.in1.handled = none := by simp [calm]
      have ne3 : l ≠ (z.heap.push { cls := .type "set", dict := none, data := .set #[] 0 (.fresh 0 0 (!w.params.followText "set-order")) }).objs.size := by
        rw [Heap.size_push]
        exact Nat.ne_of_lt (Nat.lt_succ_of_lt ll)
      have off3 : z.heap.objs.size ∉ [(z.heap.push { cls := .type "set", dict := none, data := .set #[] 0 (.fresh 0 0 (!w.params.followText "set-order")) }).objs.size, l] := by
        rw [Heap.size_push]
        simp only [List.mem_cons, List.mem_singleton, List.not_mem_nil, or_false, not_or]
        exact ⟨Nat.ne_of_lt (Nat.lt_succ_self _), Nat.ne_of_gt ll⟩
      have many : ys.length = its.size := by rw [← StrsAre.len_eq txt, Array.length_toList]
      have val3 : ∀ (i : Nat) (v : Value), its[i]? = some v → ∃ tk, v = .str (ys.getD i Str.empty) tk := fun i v hv => SS.strs_at txt i v (by rw [Array.getElem?_toList]; exact hv)
      have fresh0 : Walk P w ((z.heap.push { cls := .type "set", dict := none, data := .set #[] 0 (.fresh 0 0 (!w.params.followText "set-order")) }).push { cls := .type "list_iterator", data := .fields #[.ref l, .int 0 0] }) z.heap.objs.size (uqs (ys.take 0)) := by
        refine ⟨_, #[], 0, _, Heap.get?_push_of_some _ new2, ⟨rfl, rfl, rfl⟩, rfl, (fun e he => nomatch he), List.Perm.refl _, List.nodup_nil, by decide, rfl, List.Pairwise.nil, ?_⟩
        show _ ∨ (!w.params.followText "set-order") = true
        cases w.params.followText "set-order"
        · exact .inr rfl
        · exact .inl rfl
      refine fillW ((Walks.list calm3 _ l ne3 its).toS) z.heap.objs.size off3 ys many (by rw [← many]; exact few) val3 (its.size - 0) 0 _ (by omega) (Nat.zero_le _) ⟨⟨_, Heap.get?_push_size _ rfl, rfl, rfl⟩, (at3.push _)⟩ fresh0 ?last
      case last =>
        intro z3 mv set3
        obtain ⟨g, ge, dr, tk, os⟩ := z3
        obtain rfl : ge = z.gens := mv.gens
        obtain rfl : dr = z.drawn := mv.drawn
        obtain rfl : os = z.os := mv.os
        show wpAny _ _ _ _ _ _
        refine wpAny_pure ?_
        show wpAny _ _ (ret Value.none) _ _ _
        refine wpAny_pure ⟨rfl, g, tk, rfl, set3, fun b o q e => ?_⟩
        refine mv.heap b o ?_ (Heap.get?_push_of_some _ (Heap.get?_push_of_some _ e))
        rw [Heap.size_push]
        simp only [List.mem_cons, List.mem_singleton, List.not_mem_nil, or_false, not_or]
        exact ⟨Nat.ne_of_lt q, Nat.ne_of_lt (Nat.lt_succ_of_lt q)⟩
    · match r2, hr2 with
      | .error e, hr2 => exact hr2
      | .ok .next, hr2 => exact hr2.elim
      | .ok .brk, hr2 => exact hr2.elim
      | .ok .cont, hr2 => exact hr2.elim
      | .ok (.ret u), hr2 =>
        obtain ⟨rfl, g, tk, rfl, set3, keep3⟩ := hr2
        repeat (any_goals (first | assumption | wp_step))
        exact go _ _ set3 keep3
theorem txts_are : ∀ vs : List Value, (∀ v ∈ vs, ∃ y tk, v = Value.str y tk) → PyProof.Rows.StrsAre vs (vs.map fun v => txtOf (0, v))
  | [], _ => .nil
  | v :: r, h => by
    obtain ⟨y, tk, rfl⟩ := h v List.mem_cons_self
    exact .cons y tk (txts_are r fun u hu => h u (List.mem_cons_of_mem _ hu))
/-- sorted(a set of texts) -/
theorem sortedW {a : Addr} {ys : List Str} {Q : Value → Shared → Prop} (R : Walk P w z.heap a ys) (calm : A.handled = none) (few : ys.length < 64)
    (go : ∀ z' p (out : Array Value) (c : Nat) (us : List Str), (∀ b o, z.heap.get? b = some o → z'.heap.get? b = some o) → z'.gens = z.gens → z'.os = z.os → z.heap.objs.size ≤ p → z'.heap.get? p = some (seqObj "list" out c) → PyProof.Rows.StrsAre out.toList us → us.Perm ys → sortedS us = true → Q (.ref p) z') :
    wpAny (model P w) A (call (.builtin "sorted") [.ref a]) Q E z := by
  obtain ⟨ob, us, ep, tb, gO, gX, gD, gE, gP, gN, gB, gF, gR, gL⟩ := R
  refine Calls.call_function_entry kind_sorted plain_sorted entry_sorted (args_sorted1 _) ?_
  unfold Builtin.«sorted»
  refine wpAny_bind (m := checkCount "sorted" 1 1 _) (wpAny_pure (wpAny_bind (collect_set (A := A.in1) calm ⟨ob, gO, gX.1, gD⟩ gF gB gR gL fun z1 vs k1 bigger same_gens same_os pm => ?_)))
  have sa := txts_are vs fun v hv => by
    obtain ⟨e, he, q⟩ := List.mem_map.mp (pm.mem_iff.mp hv)
    obtain ⟨y, tk, e1, _⟩ := gE e he
    exact ⟨y, tk, q.symm.trans e1⟩
  have py : (vs.map fun v => txtOf (0, v)).Perm ys := by
    have q := pm.map fun v => txtOf (0, v)
    rw [List.map_map] at q
    exact q.trans gP
  have many : vs.length = ys.length := by
    have q := py.length_eq
    rw [List.length_map] at q
    exact q
  refine wpAny_bind (wpAny_newList ?_ (by rw [many, sizeLine_eq]; omega))
  have atL : (z1.heap.push (seqObj "list" vs.toArray 0)).get? z1.heap.objs.size = some (seqObj "list" vs.toArray 0) := Heap.get?_push_size _ rfl
  refine wpAny_bind (wpAny_holding (wpAny_call_entry slot_list_sort ⟨_, atL, rfl⟩ entry_list_sort (list_sort_treeK strKind_oneLt atL sa.keysOf (fun v₁ v₂ rest e => keyKind_strs (by rw [← e]; exact sa)) (by rw [many]; exact few) fun st' hp hs => ⟨_, rfl, ?_⟩) (args_list_sort _)))
  obtain ⟨xs', b1, b2, b3⟩ := sorted_out_str sa hp hs
  obtain ⟨c, hc⟩ := sortedHeap_at (vs := vs) (out := (arrOf st').map (·.2)) atL
  refine wpAny_pure ⟨_, rfl, go _ z1.heap.objs.size _ c xs' (fun b u e => ?_) same_gens same_os bigger hc b1 (b2.trans py) b3⟩
  have q := k1 b u e
  have lt := Heap.lt_size q
  show (sortedHeap (z1.heap.push (seqObj "list" vs.toArray 0)) z1.heap.objs.size vs _).get? b = some u
  rw [sortedHeap_old (Nat.ne_of_lt lt) (by rw [size_push']; exact Nat.lt_succ_of_lt lt)]
  exact Heap.get?_push_of_some _ q
end
end SetW
namespace L2
open PySem PySem.Spec PyProof.Rows SetT SetW
end L2
set_option Elab.async false
set_option linter.all false
set_option maxRecDepth 100000
set_option maxHeartbeats 4000000
/-! sorted(set(text)). -/
namespace SetW
open PySem PySem.Spec PyProof.Rows L2 SetT
/-- the letters of a text, as texts -/
def onesS (x : Str) : List Str := x.cps.toList.map fun c => ⟨#[c]⟩
theorem onesS_len (x : Str) : (onesS x).length = x.cps.size := by
  unfold onesS
  rw [List.length_map, Array.length_toList]
section
variable {P : Program} {w : World} {A : Around} {E : Value → Shared → Prop} {z : Shared}
set_option maxHeartbeats 3200000 in
theorem set_textW {x : Str} {t : Tok} {Q : Value → Shared → Prop} (calm : A.handled = none) (few : x.cps.size ≤ 4000)
    (go : ∀ (g : Heap) (tk : Nat), Walk P w g z.heap.objs.size (uqs (onesS x)) → (∀ b o, b < z.heap.objs.size → z.heap.get? b = some o → g.get? b = some o) → Q (.ref z.heap.objs.size) { z with heap := g, toks := tk }) :
    wpAny (model P w) A (call (.type "set") [.str x t]) Q E z := by
  obtain ⟨cc, tll, hmro2⟩ := PySem.F.called_set.mro
  have made2 := PySem.F.called_set.made
  have sub2 := PySem.F.called_set.sub
  refine wpAny_call (codeAny_of_tree ?_)
  show wpAny _ _ (callAny (.type "set") _) _ _ _
  refine wpAny_pure ⟨Code.quiet_builtin _ (by decide +kernel), codeAny_builtin PySem.F.entry_type_call ?_⟩
  rw [Around.under_plain (weight_type_call_type "set" [.str x t] []) rfl]
  have nt2 := PySem.F.called_set.notType
  have cr2 := PySem.F.called_set.canCreate
  have tc2 := PySem.F.typeCall_set_1 (.str x t)
  repeat (any_goals (first | assumption | wp_step))
  refine codeAny_mono (code_set_led1 (.str x t) (E := E) (Q₁ := fun ob z1 => ob = .ref z.heap.objs.size ∧ z1 = { z with heap := z.heap.push { cls := .type "set", dict := none, data := .set #[] 0 (.fresh 0 0 (!w.params.followText "set-order")) } }) ⟨rfl, rfl⟩) fun r z1 hr => ?_
  match r, hr with
  | .error e, hr => exact hr
  | .ok .next, hr => exact hr.elim
  | .ok .brk, hr => exact hr.elim
  | .ok .cont, hr => exact hr.elim
  | .ok (.ret ob), hr =>
    obtain ⟨rfl, rfl⟩ := hr
    have new2 : (z.heap.push { cls := .type "set", dict := none, data := .set #[] 0 (.fresh 0 0 (!w.params.followText "set-order")) }).get? z.heap.objs.size = some { cls := .type "set", dict := none, data := .set #[] 0 (.fresh 0 0 (!w.params.followText "set-order")) } := Heap.get?_push_size _ rfl
    have ty2 : Shared.TypeIs { z with heap := z.heap.push { cls := .type "set", dict := none, data := .set #[] 0 (.fresh 0 0 (!w.params.followText "set-order")) } } (.ref z.heap.objs.size) "set" := ⟨_, new2, rfl⟩
    have li2 := PySem.F.called_set.init.lookup
    have bi2 := PySem.F.called_set.init.bind (.ref z.heap.objs.size)
    repeat (any_goals (first | assumption | wp_step))
    refine codeAny_mono (codeAny_call_builtin (R := wants (fun r z2 => r = .none ∧ ∃ g tk, z2 = { z with heap := g, toks := tk } ∧ Walk P w g z.heap.objs.size (uqs (onesS x)) ∧
        (∀ b o, b < z.heap.objs.size → z.heap.get? b = some o → g.get? b = some o)) E) PySem.F.called_set.init.plain PySem.F.entry_set_init (check_set_init_1 ty2 ?_)) fun r2 z2 hr2 => ?_
    · unfold Builtin.«set.__init__» noKeywords Builtin.Frozenset.updateFrom
      have tyx := typeIs_str { z with heap := z.heap.push { cls := .type "set", dict := none, data := .set #[] 0 (.fresh 0 0 (!w.params.followText "set-order")) } } x t
      have sl1 := PySem.F.sub_str_set
      have sl2 := PySem.F.sub_str_frozenset
      have ned : (Value.type "str" == Value.type "dict") = false := by decide
      generalize hIT : pyIter = IT
      wp_walk
      subst hIT
      refine wpAny_pyIter_str fun o St hW hst => ?_
      refine wpAny_bind (wpAny_runValue ?_)
      have calm3 : A.in1.in1.in1.handled = none := by simp [calm]
      have ne3 : z.heap.objs.size ≠ (z.heap.push { cls := .type "set", dict := none, data := .set #[] 0 (.fresh 0 0 (!w.params.followText "set-order")) }).objs.size := by
        rw [Heap.size_push]
        exact Nat.ne_of_lt (Nat.lt_succ_self _)
      have off3 : z.heap.objs.size ∉ [(z.heap.push { cls := .type "set", dict := none, data := .set #[] 0 (.fresh 0 0 (!w.params.followText "set-order")) }).objs.size] := by
        simp only [List.mem_singleton]
        exact ne3
      have many : (onesS x).length = x.cps.size := onesS_len x
      have val3 : ∀ (i : Nat) (v : Value), SignAt x i v → ∃ tk, v = .str ((onesS x).getD i Str.empty) tk := fun i v hv => by
        obtain ⟨c, tk, e, rfl⟩ := hv
        refine ⟨tk, ?_⟩
        have q : (onesS x)[i]? = some ⟨#[c]⟩ := by
          unfold onesS
          rw [List.getElem?_map, Array.getElem?_toList, e]
          rfl
        rw [List.getD_eq_getElem?_getD, q]
        rfl
      have fresh0 : Walk P w ((z.heap.push { cls := .type "set", dict := none, data := .set #[] 0 (.fresh 0 0 (!w.params.followText "set-order")) }).push o) z.heap.objs.size (uqs ((onesS x).take 0)) := by
        refine ⟨_, #[], 0, _, Heap.get?_push_of_some _ new2, ⟨rfl, rfl, rfl⟩, rfl, (fun e he => nomatch he), List.Perm.refl _, List.nodup_nil, by decide, rfl, List.Pairwise.nil, ?_⟩
        show _ ∨ (!w.params.followText "set-order") = true
        cases w.params.followText "set-order"
        · exact .inr rfl
        · exact .inl rfl
      refine fillW (hW _ calm3).toS z.heap.objs.size off3 (onesS x) many few val3 (x.cps.size - 0) 0 _ (by omega) (Nat.zero_le _) hst fresh0 ?last
      case last =>
        intro z3 mv set3
        obtain ⟨g, ge, dr, tk, os⟩ := z3
        obtain rfl : ge = z.gens := mv.gens
        obtain rfl : dr = z.drawn := mv.drawn
        obtain rfl : os = z.os := mv.os
        show wpAny _ _ _ _ _ _
        refine wpAny_pure ?_
        show wpAny _ _ (ret Value.none) _ _ _
        refine wpAny_pure ⟨rfl, g, tk, rfl, set3, fun b o q e => ?_⟩
        refine mv.heap b o ?_ (Heap.get?_push_of_some _ (Heap.get?_push_of_some _ e))
        rw [Heap.size_push]
        simp only [List.mem_cons, List.mem_singleton, List.not_mem_nil, or_false, not_or]
        exact ⟨Nat.ne_of_lt q, Nat.ne_of_lt (Nat.lt_succ_of_lt q)⟩
    · match r2, hr2 with
      | .error e, hr2 => exact hr2
      | .ok .next, hr2 => exact hr2.elim
      | .ok .brk, hr2 => exact hr2.elim
      | .ok .cont, hr2 => exact hr2.elim
      | .ok (.ret u), hr2 =>
        obtain ⟨rfl, g, tk, rfl, set3, keep3⟩ := hr2
        repeat (any_goals (first | assumption | wp_step))
        exact go _ _ set3 keep3
end
end SetW
namespace L2
open PySem PySem.Spec PyProof.Rows SetT SetW
/-- sorted(set(text)) -/
def tSortSetT (ta : TE) : TE := fun σ H Q => ta σ H fun x H1 => ∃ y : Str, x = .str y ∧ y.cps.size < 64 ∧
  ∀ (us : List Str) (p : Addr), us.Perm (uqs (onesS y)) → sortedS us = true → H1 p = none → Q (.ref p) (upd H1 p (.lst (us.map V.str)))
theorem pe_sortSetT {X : Cx} {a : Expr} {ta : TE} {p p2 q pos : Pos} (calm : X.calm = true) (hg : Gl X "sorted") (hm : X.mg "sorted" = none) (hg2 : Gl X "set") (hm2 : X.mg "set" = none) (ha : PE X a ta)
    (na : starEach [a] X.env = (false, eval a X.env) :: starEach [] X.env := by rfl) : PE X (.Call (.Name "sorted" p) [.Call (.Name "set" p2) [a] [] q] [] pos) (tSortSetT ta) := by
  refine ⟨fun pins s σ H Q I h => ?_⟩
  refine Call_ (ld_blt I hg hm (u := .builtin "sorted") (by decide +kernel) ?_)
  refine PyProof.Rows.callWith_builtin1 (PyProof.Rows.args_cons ?_ rfl) rfl rfl
  refine Call_ (ld_blt I hg2 hm2 boot_set ?_)
  refine PyProof.Rows.callWith_type1 (PyProof.Rows.args_cons (thn (ha.run pins s σ H _ I h) fun v s1 ⟨x, H1, I1, r1, q1⟩ => PyProof.Rows.args_nil ?_) na) na rfl
  obtain ⟨y, rfl, few, q1⟩ := q1
  obtain ⟨t, rfl⟩ := r1
  refine set_textW (I1.ok.hd calm) (by omega) fun g tk set3 keep3 => PyProof.Rows.args_nil ?_
  have I2 : Inv X pins σ H1 { s1 with heap := g, toks := tk } := (I1.kept fun b o e => keep3 b o (Heap.lt_size e) e : Inv X pins σ H1 { s1 with heap := g, toks := tk })
  have l3 := uqs_len (onesS y)
  have l4 := onesS_len y
  refine sortedW (z := { s1 with heap := g, toks := tk }) set3 (I2.ok.hd calm) (by omega) fun s' p2 out c us k g2 o2 hp hg3 b1 b2 b3 => ?_
  have free : H1 p2 = none := I2.hok.fresh hp
  have len : (us.map V.str).length ≤ sizeLine := by rw [List.length_map, b2.length_eq, sizeLine_eq]; omega
  have J : Inv X pins σ (upd H1 p2 (.lst (us.map V.str))) { ({ s1 with heap := g, toks := tk } : Shared) with heap := s'.heap, gens := s'.gens, drawn := s'.drawn, toks := s'.toks } :=
    I2.call (ch := []) (Un.laid k hp free) (I2.hok.laid k hp ⟨len, out.toList, c, vals_of_strs b1, hg3⟩) (by rw [g2]; exact I2.bare) (fun _ z => nomatch z)
  have e : s' = { ({ s1 with heap := g, toks := tk } : Shared) with heap := s'.heap, gens := s'.gens, drawn := s'.drawn, toks := s'.toks } := by
    cases s'
    cases s1
    cases o2
    rfl
  rw [e]
  exact ⟨.ref p2, _, J, rfl, q1 us p2 b2 b3 free⟩
end L2
set_option Elab.async false
set_option linter.all false
set_option maxRecDepth 100000
set_option maxHeartbeats 8000000
set_option pp.maxSteps 700
/-! Other orders, one twice, one that leaves letters as they are. -/
namespace V8
open PySem PySem.Spec PyProof.Rows L2 MZ SetT SetW
abbrev s__law_others_right : Stmt := topS 115
abbrev n__law_others_right : List Str := ["_law_pen_here", "_law_tables_here", "_law_found", "_law_made_here", "_law_signs", "_law_still", "_law_twice", "_law_row", "_law_many", "_law_turned", "_law_table_here"]
theorem sc__law_others_right : FnScope ["_law_pen_here", "_law_tables_here", "_law_found", "_law_made_here", "_law_signs", "_law_still", "_law_twice", "_law_row", "_law_many", "_law_turned", "_law_table_here"] ["_law_pen_here", "_law_tables_here", "_law_found"] (defScope s__law_others_right) := ⟨rfl, rfl, rfl, by decide +kernel, rfl, by decide +kernel, by decide +kernel⟩
abbrev sxV (ws : List Wd) : List V := (ws.map Sx).map V.str
theorem sxV_len (ws : List Wd) : (sxV ws).length = ws.length := by rw [List.length_map, List.length_map]
theorem sxV_app (a b : List Wd) : sxV (a ++ b) = sxV a ++ sxV b := by
  show ((a ++ b).map Sx).map V.str = _
  rw [List.map_append, List.map_append]
theorem flat_le {n : Nat} : ∀ {xs : List (List Nat)}, (∀ x ∈ xs, x.length ≤ n) → xs.flatten.length ≤ n * xs.length
  | [], _ => Nat.zero_le _
  | x :: r, h => by
    rw [List.flatten_cons, List.length_append, List.length_cons, Nat.mul_succ]
    have a := h x List.mem_cons_self
    have b := flat_le (xs := r) fun y hy => h y (List.mem_cons_of_mem _ hy)
    omega
theorem prd_mem_rr {α β : Type} {R : α → β → Prop} {xs : List α} {ys : List β} (h : Paired R xs ys) {y : β} (m : y ∈ ys) : ∃ x ∈ xs, R x y := by
  obtain ⟨k, hk⟩ := List.getElem?_of_mem m
  obtain ⟨x, hx, r⟩ := prd_backW h hk
  exact ⟨x, List.mem_of_getElem? hx, r⟩
theorem prd_snoc' {α β : Type} {R : α → β → Prop} {xs : List α} {ys : List β} (h : Paired R xs ys) {x : α} {y : β} (r : R x y) : Paired R (xs ++ [x]) (ys ++ [y]) := by
  induction h with
  | nil => exact .cons r .nil
  | cons q _ ih => exact .cons q ih
theorem prd_rev {α β : Type} {R : α → β → Prop} {xs : List α} {ys : List β} (h : Paired R xs ys) : Paired R xs.reverse ys.reverse := by
  induction h with
  | nil => exact .nil
  | cons q _ ih =>
    rw [List.reverse_cons, List.reverse_cons]
    exact prd_snoc' ih q
theorem nd_of_map {l : List Nat} {f : Nat → Str} (h : (l.map f).Nodup) : l.Nodup := List.Pairwise.of_map f (fun a b h e => h (congrArg f e)) h
theorem flat_sing : ∀ t : List Nat, (t.map fun c => [c]).flatten = t
  | [] => rfl
  | q :: r => by
    rw [List.map_cons, List.flatten_cons, flat_sing r]
    rfl
theorem flat_ones : ∀ t : Tab, (t.map fun q => [q.1]).flatten = t.map (·.1)
  | [] => rfl
  | q :: r => by
    rw [List.map_cons, List.flatten_cons, flat_ones r]
    rfl
/-- bool(x), x what sound answers -/
structure rBoolV (CS CU : Addr) (xs : List V) (H : Hp) (Q : VK) : Prop where
  or : (∃ a dx fs, xs = [.ref a] ∧ H a = some (.ins CS dx fs) ∧ spSays true [.ref a] H (fun v H' => ∃ b, v = .bl b ∧ Q (.bl b) H') E0) ∨ (∃ a dx fs, xs = [.ref a] ∧ H a = some (.ins CU dx fs) ∧ spSays false [.ref a] H (fun v H' => ∃ b, v = .bl b ∧ Q (.bl b) H') E0)
structure rTruV (CS CU : Addr) (x : V) (H : Hp) (Q : Bool → Hp → Prop) : Prop where
  or : (∃ b dx fs, x = .ref b ∧ H b = some (.ins CS dx fs) ∧ spSays true [.ref b] H (fun v H' => ∃ c, v = .bl c ∧ Q c H') E0) ∨ (∃ b dx fs, x = .ref b ∧ H b = some (.ins CU dx fs) ∧ spSays false [.ref b] H (fun v H' => ∃ c, v = .bl c ∧ Q c H') E0)
/-- a list is bad, told by a bool -/
def Says (c : Bool) (us : List Tab) : Prop := c = false ↔ BadL us
theorem Says.eq {c d : Bool} {us vs : List Tab} (h : Says c us) (k : Says d vs) (e : BadL us ↔ BadL vs) : c = d := by
  unfold Says at h k
  have z : c = false ↔ d = false := h.trans (e.trans k.symm)
  cases c <;> cases d <;> simp_all
theorem SndB.bool {CS CU : Addr} {us : List Tab} {H : Hp} {z : Addr} {Q : VK} (h : SndB CS CU us H z) (q : ∀ c, Says c us → Q (.bl c) H) : rBoolV CS CU [.ref z] H Q := by
  rcases h with ⟨dx, fs, h, r⟩ | ⟨dx, i, j, w1, w2, h, _, _, _, r⟩
  · exact ⟨.inl ⟨z, dx, fs, rfl, h, z, rfl, _, rfl, q true ⟨fun e => (nomatch e), fun b => absurd b r⟩⟩⟩
  · exact ⟨.inr ⟨z, dx, _, rfl, h, z, rfl, _, rfl, q false ⟨fun _ => r, fun _ => rfl⟩⟩⟩
theorem SndB.tru {CS CU : Addr} {us : List Tab} {H : Hp} {z : Addr} {Q : Bool → Hp → Prop} (h : SndB CS CU us H z) (q : ∀ c, Says c us → Q c H) : rTruV CS CU (.ref z) H Q := by
  rcases h with ⟨dx, fs, h, r⟩ | ⟨dx, i, j, w1, w2, h, _, _, _, r⟩
  · exact ⟨.inl ⟨z, dx, fs, rfl, h, z, rfl, _, rfl, q true ⟨fun e => (nomatch e), fun b => absurd b r⟩⟩⟩
  · exact ⟨.inr ⟨z, dx, _, rfl, h, z, rfl, _, rfl, q false ⟨fun _ => r, fun _ => rfl⟩⟩⟩
def Okk (u : Tab) : Prop := OkU u ∧ Small5 u
theorem SndB.keepL {CS CU : Addr} {us : List Tab} {H H' : Hp} {z : Addr} (h : SndB CS CU us H z) (k : ∀ b o, H b = some o → (∀ xs, o ≠ .lst xs) → H' b = some o) : SndB CS CU us H' z := by
  rcases h with ⟨dx, fs, h, r⟩ | ⟨dx, i, j, w1, w2, h, r⟩
  · exact .inl ⟨dx, fs, k _ _ h (fun _ z => nomatch z), r⟩
  · exact .inr ⟨dx, i, j, w1, w2, k _ _ h (fun _ z => nomatch z), r⟩
theorem MsL.keepL {CM : Addr} {H H' : Hp} {xs : List V} {us : List Tab} (h : MsL CM H xs us) (k : ∀ b o, H b = some o → (∀ xs, o ≠ .lst xs) → H' b = some o) : MsL CM H' xs us := prd_imp h fun _ _ ⟨x, e, m, o⟩ => ⟨x, e, m.mono k, o⟩
theorem fr_keepL {p l : Addr} {ns : List Int} {n : Nat} {H H' : Hp} (P : PenAt H p l ns n) (f : Fr p H H') : ∀ b o, H b = some o → (∀ xs, o ≠ .lst xs) → H' b = some o := fun b o e k => f b o e fun z => by
  obtain ⟨ys, hp⟩ := P.pen
  rw [z, hp] at e
  cases e
  exact k _ rfl
theorem toldT_ids {ls : List Nat} (nd : ls.Nodup) : toldT ls [] = ls.map fun c => (c, [c]) := by
  have e : ((ls.map fun c => (c, [c])).map (·.1)).Nodup := by
    rw [List.map_map, show ((fun q : Nat × List Nat => q.1) ∘ fun c => (c, [c])) = id from rfl, List.map_id]
    exact nd
  unfold toldT keepT
  rw [mergeT_nil e, mergeT_nil e]
  rfl
theorem ids_stl {ls : List Nat} : Stl (ls.map fun c => (c, [c])) := fun c s e => by
  have h : (c, s) ∈ ls.map fun c => (c, [c]) := look_in (by
    unfold lk at e
    by_cases h : c ∈ abc
    · rwa [if_pos h] at e
    · rw [if_neg h] at e
      cases e)
  obtain ⟨d, _, e2⟩ := List.mem_map.mp h
  cases e2
  rfl
theorem ids_okk {ls : List Nat} (nd : ls.Nodup) (lt : ∀ c ∈ ls, isLt c) (l5 : ls.length ≤ 5) : Okk (ls.map fun c => (c, [c])) := by
  have g : GoodT abc (ls.map fun c => (c, [c])) := by
    rw [← toldT_ids nd]
    exact toldT_good (fun c hc => abc_mem.mpr (lt c hc)) (fun c hc => abc_mem.mp hc) GoodT.nil
  have l : (ls.map fun c => (c, [c])).length ≤ 5 := by rw [List.length_map]; exact l5
  exact ⟨okU_of g (by omega), small_of g l⟩
theorem gd_okk {t : Tab} (g : Gd5 t) : Okk t := ⟨okU_of g.1 (Nat.le_trans g.2 (by decide)), small_of g.1 g.2⟩
theorem okk_bnd {u : Tab} (h : Okk u) : Bnd 64 (lk u) := by
  intro c s e
  unfold lk at e
  by_cases hc : c ∈ abc
  · rw [if_pos hc] at e
    have z := h.2.2 c (keysOf_mem.mpr ⟨hc, by rw [e]; rfl⟩)
    rw [e] at z
    exact Nat.le_trans z (by decide)
  · rw [if_neg hc] at e
    cases e
theorem fl_str {w : Wd} (h : ∀ c ∈ w, isLt c) : TD 2 (.str (Sx w)) := .inl (.inr (.inl ⟨_, rfl, ok_sx h⟩))
theorem fl_int {i : Int} : TD 2 (.int i) := .inl (.inr (.inr ⟨_, rfl⟩))
theorem made_same {H H' : Hp} {x dx C : Addr} (nx : H x = none) (nd : H dx = none) (b : ButX x (upd (upd H dx (.own x)) x (.ins C dx [])) H') : Same H H' := fun c o e => b c o (by
  rw [upd_ne (ne_of_none e nx), upd_ne (ne_of_none e nd)]
  exact e) (ne_of_none e nx)
theorem tabI_rev {us : List Tab} {i : Nat} (h : i < us.length) : tabI us.reverse (us.length - 1 - i) = tabI us i := by
  unfold tabI
  rw [List.getElem?_reverse (by omega), show us.length - 1 - (us.length - 1 - i) = i from by omega]
theorem tabI_app {us vs : List Tab} {i : Nat} (h : i < us.length) : tabI (us ++ vs) i = tabI us i := by
  unfold tabI
  rw [List.getElem?_append_left h]
/-- a row of misreadings that is bad when another is -/
def RowB (CM : Addr) (ts : List Tab) (H : Hp) (v : V) : Prop := ∃ r b xs us, v = .ref r ∧ SeqV H b r xs ∧ MsL CM H xs us ∧ 1 ≤ us.length ∧ us.length ≤ 4 ∧ (∀ u ∈ us, Okk u) ∧ (BadL us ↔ BadL ts)
theorem RowB.same {CM : Addr} {ts : List Tab} {H H' : Hp} {v : V} (h : RowB CM ts H v) (s : Same H H') : RowB CM ts H' v := by
  obtain ⟨r, b, xs, us, e, h1, h2, h3⟩ := h
  exact ⟨r, b, xs, us, e, s _ _ h1, h2.same s, h3⟩
section
variable {X : Cx} {CS CU : Addr} {j : Nat}
theorem call_boolV (c1 : Mf X.prog X.w X.K X.mg X.base 1 CS "__bool__" (spSays true)) (c2 : Mf X.prog X.w X.K X.mg X.base 1 CU "__bool__" (spSays false)) (hr : Room j X.A) (hk : 3 ≤ j) : CallR X (.type "bool") (rBoolV CS CU) := by
  intro pins s σ H xs us Q I r h
  exact call_or (call_boolO c1 hr hk) (call_boolO c2 hr hk) pins s σ H xs us Q I r h.or
theorem tru_V (c1 : Mf X.prog X.w X.K X.mg X.base 1 CS "__bool__" (spSays true)) (c2 : Mf X.prog X.w X.K X.mg X.base 1 CU "__bool__" (spSays false)) (hr : Room j X.A) (hk : 3 ≤ j) : TruR X (rTruV CS CU) := by
  intro pins s σ H x v Q I rx h
  exact tru_or (tru_own c1 hr (by omega)) (tru_own c2 hr (by omega)) pins s σ H x v Q I rx h.or
end
def spOthers (K : PySem.W.Frag) (aS aE aV aD CM CS CU : Addr) : Sp := fun vs H Q _ => ∃ (p l D z : Addr) (ns : List Int) (n : Nat) (ds : List Addr) (ts : List Tab) (cs : List Nat), vs = [.ref p, .ref D, .ref z] ∧ PenAt H p l ns (n + 1) ∧ H D = some (.lst (ds.map V.ref)) ∧ D ≠ p ∧ TbP Gd5 H ds ts ∧ 1 ≤ ts.length ∧ ts.length ≤ 3 ∧ SndB CS CU ts H z ∧ CnS K aS aE aV aD H ∧ (∀ t ∈ ts, ∀ q ∈ t, q.1 ∈ cs) ∧ cs.length ≤ 5 ∧ (∀ c ∈ cs, isLt c) ∧
  ∀ H', Fr p H H' → PenAt H' p l ns n → Q (.bl true) H'
structure Tu6 (K : PySem.W.Frag) (mg : Str → Option Value) (CM CJ CS CU : Addr) : Prop extends Tu5 K mg CM CJ CS CU where
  set : mg "set" = none
section
variable {P : Program} {w : World} {K : PySem.W.Frag} {mg : Str → Option Value} {base : Heap} {aS aE aV aD CM CJ CA CT CS CU : Addr}
theorem ok_others {f : Addr} {fd : FuncData} (F : Fun K "_law_others_right" "_law_others_right" s__law_others_right f fd) (T : Tu6 K mg CM CJ CS CU) (D_made : Df P w K mg base 8 "_law_made" (spMade CM)) (D_same : Sms P w K mg base CM) (D_pick : Df P w K mg base 2 "_law_pick" (spPick K)) (D_sound : Df P w K mg base 7 "sound" (spSound K aS aE aV aD CM CA CT CS CU)) (D_boolO : Mf P w K mg base 1 CS "__bool__" (spSays true)) (D_boolR : Mf P w K mg base 1 CU "__bool__" (spSays false)) (D_Unsound : MkC P w K mg base 4 CU "Unsound" (spUnsoundI CU)) (D_shows_sound : Df P w K mg base 6 "shows_sound" (spShows CM CU)) : FnOk P w K mg base CX0 9 f fd ["_law_pen_here", "_law_tables_here", "_law_found"] (spOthers K aS aE aV aD CM CS CU) := by
  refine F.ok sc__law_others_right (fun vs H Q E h => ?_) (fun cdv A outer s H vs Q E hr h => ?_)
  · obtain ⟨p, l, D, z, ns, n, ds, ts, cs, rfl, _⟩ := h
    rfl
  · obtain ⟨p, l, D, z, ns, n, ds, ts, cs, rfl, PA, hD, Dp, tb, l1, l3, rz, cd, kc, c5, clt, q⟩ := h
    refine ⟨_, (pss_cons (ps_par (i := 3) (j := 4) (by rfl) sc__law_others_right.nd rfl rfl (by decide) rfl rfl (pa_cons (pe_c D_made hr (by decide) (by rfl) (pa_cons (pv 1) pa_nil)) (pa_cons (pe_sortSetT rfl (by rfl) T.sorted (by rfl) T.set (pe_joinK (K := K) rfl pe_str (pe_lc (own := [("_law_table_here", 10)]) (g := gName 10) (by rfl) sc__law_others_right.nd (pi_list (pv 1)) (blkOk_by (own := [("_law_table_here", 10)]) (N := n__law_others_right) (sc := defScope s__law_others_right) (by decide +kernel)) (fun _ _ _ _ _ => (pg_name (i := 10) sc__law_others_right.nd rfl (.inl rfl))) (fun _ _ _ _ _ => pts_nil) (fun _ _ _ _ _ => (pe_joinK (K := K) rfl pe_str (pe_callTy (call_listD rfl) (by rfl) T.list (by decide +kernel) (pa_cons (pv 10) pa_nil))))))) pa_nil)) (by rfl))
      (pss_cons (ps_set (i := 5) sc__law_others_right.nd rfl (.inl rfl) (pe_sm D_same hr (by decide) (pe_gv T.gMisreading (by rfl)) (pa_cons (pe_joinK (K := K) rfl pe_str (pe_slice (sl_listK (K := K) rfl) (pv 4) po_none (po_some pe_int))) pa_nil)))
      (pss_cons (ps_set (i := 6) sc__law_others_right.nd rfl (.inl rfl) (pe_op op_cat (pv 3) (pe_lst (pa_cons (pe_c D_pick hr (by decide) (by rfl) (pa_cons (pv 0) (pa_cons (pv 3) pa_nil))) pa_nil))))
      (pss_cons (ps_for PassesOwn.never rfl (pi_tupK (K := K) rfl (pe_tup (pa_cons (pe_revL (pv 3)) (pa_cons (pe_op op_cat (pv 3) (pe_lst (pa_cons (pv 5) pa_nil))) (pa_cons (pe_op op_cat (pe_lst (pa_cons (pv 5) pa_nil)) (pv 3)) (pa_cons (pv 6) (pa_cons (pe_callTy (call_tuple_ofK (K := K) rfl) (by rfl) T.tuple (by decide +kernel) (pa_cons (pv 3) pa_nil)) pa_nil))))))) (pg_name (i := 7) sc__law_others_right.nd rfl (.inl rfl))
        (pss_one (ps_if (pt_cmpR op_ne (pe_callTy (call_boolV D_boolO D_boolR hr (by decide)) (by rfl) T.bool (by decide +kernel) (pa_cons (pe_c D_sound hr (by decide) (by rfl) (pa_cons (pv 7) pa_nil)) pa_nil)) (pe_callTy (call_boolV D_boolO D_boolR hr (by decide)) (by rfl) T.bool (by decide +kernel) (pa_cons (pv 2) pa_nil)) (nomark _))
          (pss_one (ps_ret pe_bl))
          pss_nil)))
      (pss_cons (ps_if (pt_not (pt_tru (tru_V D_boolO D_boolR hr (by decide)) (pv 2)))
        (pss_cons (ps_set (i := 8) sc__law_others_right.nd rfl (.inl rfl) (pe_op op_sub (pe_callB (call_len_seqK (K := K) rfl) (by rfl) T.len (by decide +kernel) (pa_cons (pv 3) pa_nil)) pe_int))
        (pss_cons (ps_set (i := 9) sc__law_others_right.nd rfl (.inl rfl) (pe_mkC D_Unsound hr (by decide) (by rfl) (pa_cons (pe_fldK (K := K) rfl (pv 2) rfl) (pa_cons (pe_op op_sub (pv 8) (pe_fldK (K := K) rfl (pv 2) rfl)) (pa_cons (pe_fldK (K := K) rfl (pv 2) rfl) (pa_cons (pe_op op_sub (pv 8) (pe_fldK (K := K) rfl (pv 2) rfl)) pa_nil))))))
        (pss_one (ps_ret (pe_and (pe_c D_shows_sound hr (by decide) (by rfl) (pa_cons (pe_revL (pv 3)) (pa_cons (pv 9) pa_nil))) (pe_one (pe_c D_shows_sound hr (by decide) (by rfl) (pa_cons (pe_op op_cat (pv 3) (pe_lst (pa_cons (pv 5) pa_nil))) (pa_cons (pv 2) pa_nil)))))))))
        pss_nil)
      (pss_one (ps_ret pe_bl))))))), ?_⟩
    have lds := prd_len tb
    refine ⟨_, rfl, D, ds, ts, rfl, hD, tb, by omega, fun M xs H1 nM s1 hM ms => ?_⟩
    have hD1 := s1 _ _ hD
    refine ⟨⟨_, rfl⟩, _, rfl, D, rfl, ⟨_, .of hD1⟩, fun B nB => lc_it (walk_list (K := K) (a := D) (xs := ds.map V.ref)) (fun i A => A B = some (.lst (sxV ((ts.take i).map fun t => t.map (·.1)))) ∧ Same H1 A) ⟨upd_same, same_put (Same.refl _) nB⟩ ?_ ?_ ?_⟩
    · rintro i A hi ⟨_, sA⟩
      exact .of (sA _ _ hD1)
    · rintro i x A A2 hi ⟨hB, sA⟩ ⟨rfl, hy⟩
      rw [List.getElem?_map] at hy
      obtain ⟨d, hdd, rfl⟩ := Option.map_eq_some_iff.mp hy
      obtain ⟨t, ht, htd, G⟩ := prd_at tb hdd
      have td := sA _ _ (s1 _ _ htd)
      refine ⟨rfl, ⟨_, rfl⟩, _, rfl, d, encT t, rfl, .inl td, fun e ne => ?_⟩
      have s2 := same_put (s := Same.refl A2) (o := .lst ((encT t).map fun kv => kV kv.1)) ne
      have he : upd A2 e (.lst ((encT t).map fun kv => kV kv.1)) e = some (.lst (((t.map fun q => [q.1]).map Sx).map V.str)) := by
        rw [upd_same]
        unfold encT
        rw [List.map_map, List.map_map, List.map_map]
        rfl
      generalize upd A2 e (.lst ((encT t).map fun kv => kV kv.1)) = A3 at s2 he ⊢
      have g5 := G.2
      refine ⟨Str.empty, e, (t.map fun q => [q.1]).map Sx, rfl, rfl, .inl (SqL.of he), ?_, ?_⟩
      · have hb := sum_le (fun x : Str => x.length) 1 ((t.map fun q => [q.1]).map Sx) fun y hy => by
          obtain ⟨s3, hs3, rfl⟩ := List.mem_map.mp hy
          obtain ⟨c, hc, rfl⟩ := List.mem_map.mp hs3
          exact Nat.le_refl _
        rw [List.length_map, List.length_map] at hb ⊢
        show _ + _ * 0 ≤ _
        omega
      rw [join_Sx]
      rw [flat_ones]
      refine ⟨_, s2 _ _ hB, by rw [sxV_len, List.length_map, List.length_take, sizeLine_eq]; omega, ?_, same_over (fun b o e => s2 _ _ (sA _ _ e)) nB⟩
      rw [upd_same, List.take_add_one, ht, List.map_append, sxV_app]
      rfl
    rintro H2 ⟨hB, s2⟩
    rw [List.length_map, lds, List.take_length] at hB
    have hfl : ((ts.map fun t => t.map (·.1)).flatten).length ≤ 15 := by
      have := flat_le (n := 5) (xs := ts.map fun t => t.map (·.1)) fun x hx => by
        obtain ⟨t, ht, rfl⟩ := List.mem_map.mp hx
        obtain ⟨d, _, _, g⟩ := prd_mem_rr tb ht
        rw [List.length_map]
        exact g.2
      rw [List.length_map] at this
      omega
    have hks : ∀ c ∈ (ts.map fun t => t.map (·.1)).flatten, c ∈ cs := fun c hc => by
      obtain ⟨x, hx, h2⟩ := List.mem_flatten.mp hc
      obtain ⟨t, ht, rfl⟩ := List.mem_map.mp hx
      obtain ⟨q', hq', rfl⟩ := List.mem_map.mp h2
      exact kc t ht q' hq'
    refine ⟨Str.empty, B, (ts.map fun t => t.map (·.1)).map Sx, rfl, rfl, .inl (SqL.of hB), ?_, ?_⟩
    · have hb := sum_le (fun x : Str => x.length) 5 ((ts.map fun t => t.map (·.1)).map Sx) fun y hy => by
        obtain ⟨s3, hs3, rfl⟩ := List.mem_map.mp hy
        obtain ⟨t, ht, rfl⟩ := List.mem_map.mp hs3
        obtain ⟨d, _, _, g⟩ := prd_mem_rr tb ht
        rw [Sx_len, List.length_map]
        exact g.2
      rw [List.length_map, List.length_map] at hb ⊢
      show _ + _ * 0 ≤ _
      omega
    rw [join_Sx]
    generalize (ts.map fun t => t.map (·.1)).flatten = ks at hfl hks ⊢
    refine ⟨Sx ks, rfl, by rw [sx_size]; omega, fun us S hu su nS => ?_⟩
    obtain ⟨ls, rfl, sub0⟩ := un_ltrs (cs := ks) us fun y hy => mem_uqs.mp (hu.mem_iff.mp hy)
    have lnd : ls.Nodup := nd_of_map (hu.nodup_iff.mpr (uqs_nd _))
    have l5 : ls.length ≤ 5 := Nat.le_trans (nd_le lnd fun c hc => hks c (sub0 c hc)) c5
    have s3 := same_put (s := s2) (o := .lst ((ls.map L1).map V.str)) nS
    have hS : upd H2 S (.lst ((ls.map L1).map V.str)) S = some (.lst ((ls.map L1).map V.str)) := upd_same
    generalize upd H2 S (.lst ((ls.map L1).map V.str)) = H3 at s3 hS ⊢
    refine ⟨_, _, rfl, ?_⟩
    dsimp only [List.set_cons_succ, List.set_cons_zero]
    refine ⟨rfl, ⟨_, rfl⟩, _, rfl, 12, rfl, S, _, rfl, .of hS, fun c nc => ?_⟩
    have ecut : cutV ((ls.map L1).map V.str) none (some (12 : Int)) = ((ls.map fun c => [c]).map Sx).map V.str := by
      rw [show (some (12 : Int)) = some ((12 : Nat) : Int) from rfl, cutN, List.take_of_length_le (by rw [List.length_map, List.length_map]; omega), List.map_map (f := fun c => [c])]
      rfl
    rw [ecut]
    have s4 := same_put (s := s3) (o := .lst (((ls.map fun c => [c]).map Sx).map V.str)) nc
    have hc4 : upd H3 c (.lst (((ls.map fun c => [c]).map Sx).map V.str)) c = some (.lst (((ls.map fun c => [c]).map Sx).map V.str)) := upd_same
    generalize upd H3 c (.lst (((ls.map fun c => [c]).map Sx).map V.str)) = H4 at s4 hc4 ⊢
    refine ⟨Str.empty, c, (ls.map fun c => [c]).map Sx, rfl, rfl, .inl (SqL.of hc4), ?_, ?_⟩
    · have hb := sum_le (fun x : Str => x.length) 1 ((ls.map fun c => [c]).map Sx) fun y hy => by
        obtain ⟨s3, hs3, rfl⟩ := List.mem_map.mp hy
        obtain ⟨c, hc, rfl⟩ := List.mem_map.mp hs3
        exact Nat.le_refl _
      rw [List.length_map, List.length_map] at hb ⊢
      show _ + _ * 0 ≤ _
      omega
    rw [join_Sx, show (ls.map fun c => [c]).flatten = ls from flat_sing ls]
    have llt : ∀ c ∈ ls, isLt c := fun c hc => clt c (hks c (sub0 c hc))
    refine ⟨cs, ls, rfl, by omega, clt, fun c hc => hks c (sub0 c hc), by omega, fun y H5 ny m5 s5 => ?_⟩
    rw [toldT_ids lnd] at m5
    have stl : Stl (ls.map fun c => (c, [c])) := ids_stl
    have oks : Okk (ls.map fun c => (c, [c])) := ids_okk lnd llt l5
    generalize ls.map (fun c => (c, [c])) = st at m5 stl oks
    have s15 : Same H1 H5 := s4.trans s5
    clear s2 s3 s4 hB hS hc4 nB nS nc s5 lnd sub0 hks hfl hu su ny
    refine atNm ?_
    dsimp only [List.set_cons_succ, List.set_cons_zero]
    have hM5 := s15 _ _ hM
    have ms5 := ms.same s15
    have PA5 := pen_same PA (s1.trans s15)
    have cd5 := cd.same (s1.trans s15)
    have rz5 := rz.same (s1.trans s15)
    have Mp : M ≠ p := fun e => PA.some' (by rw [← e]; exact nM)
    have fr5 : Fr p H H5 := fun b o e _ => s15 _ _ (s1 _ _ e)
    have lx := prd_len ms5
    have okk : ∀ u ∈ ts, Okk u := fun u hu => by
      obtain ⟨d, _, _, g⟩ := prd_mem_rr tb hu
      exact gd_okk g
    clear s15 s1 hM ms hD1 tb hD PA cd rz
    refine ⟨_, rfl, _, rfl, _, rfl, p, l, M, ns, n, xs, rfl, PA5, .of hM5, by omega, by omega, fun H' fr => .of (fr _ _ hM5 Mp), fun v H6 hv PA6 fr6 => ?_⟩
    have k6 := fr_keepL PA5 fr6
    have hM6 := fr6 _ _ hM5 Mp
    have ms6 := ms5.keepL k6
    have m6 := m5.mono k6
    have cd6 := cd5.fr PA5 fr6
    have rz6 := rz5.keepL k6
    have fr06 := fr5.trans fr6
    obtain ⟨kv, hkv⟩ := List.getElem?_of_mem hv
    obtain ⟨u, hu0, xv, rfl, mu6, ou⟩ := prd_at ms6 hkv
    have hu : u ∈ ts := List.mem_of_getElem? hu0
    clear fr5 fr6 k6 hM5 ms5 m5 cd5 rz5 PA5 hv hkv hu0
    refine ⟨by show 1 ≤ sizeLine; decide, fun q1 nq1 => ⟨M, q1, xs, [.ref xv], rfl, rfl, by rw [upd_ne (ne_of_none hM6 nq1)]; exact hM6, upd_same, by rw [sizeLine_eq]; show xs.length + 1 ≤ _; omega, fun tw ntw => ?_⟩⟩
    have s7 := same_put (s := same_put (s := Same.refl H6) (o := .lst [.ref xv]) nq1) (o := .lst (xs ++ [.ref xv])) ntw
    have htw : upd (upd H6 q1 (.lst [.ref xv])) tw (.lst (xs ++ [.ref xv])) tw = some (.lst (xs ++ [.ref xv])) := upd_same
    generalize upd (upd H6 q1 (.lst [.ref xv])) tw (.lst (xs ++ [.ref xv])) = H7 at s7 htw ⊢
    refine atNm ?_
    dsimp only [List.set_cons_succ, List.set_cons_zero]
    -- five rows
    have hM7 := s7 _ _ hM6
    refine ⟨_, rfl, M, xs, rfl, .of hM7, fun r1 n1 => ?_⟩
    have s8 := same_put (s := Same.refl H7) (o := .lst xs.reverse) n1
    have hr1 : upd H7 r1 (.lst xs.reverse) r1 = some (.lst xs.reverse) := upd_same
    generalize upd H7 r1 (.lst xs.reverse) = H8 at s8 hr1 ⊢
    have hM8 := s8 _ _ hM7
    refine ⟨_, rfl, _, rfl, by show 1 ≤ sizeLine; decide, fun q2 nq2 => ⟨M, q2, xs, [.ref y], rfl, rfl, by rw [upd_ne (ne_of_none hM8 nq2)]; exact hM8, upd_same, by rw [sizeLine_eq]; show xs.length + 1 ≤ _; omega, fun r2 n2 => ?_⟩⟩
    have s9 := same_put (s := same_put (s := Same.refl H8) (o := .lst [.ref y]) nq2) (o := .lst (xs ++ [.ref y])) n2
    have hr2 : upd (upd H8 q2 (.lst [.ref y])) r2 (.lst (xs ++ [.ref y])) r2 = some (.lst (xs ++ [.ref y])) := upd_same
    generalize upd (upd H8 q2 (.lst [.ref y])) r2 (.lst (xs ++ [.ref y])) = H9 at s9 hr2 ⊢
    have hM9 := s9 _ _ hM8
    refine ⟨_, rfl, by show 1 ≤ sizeLine; decide, fun q3 nq3 => ⟨_, rfl, q3, M, [.ref y], xs, rfl, rfl, upd_same, by rw [upd_ne (ne_of_none hM9 nq3)]; exact hM9, by rw [sizeLine_eq]; show 1 + xs.length ≤ _; omega, fun r3 n3 => ?_⟩⟩
    have s10 := same_put (s := same_put (s := Same.refl H9) (o := .lst [.ref y]) nq3) (o := .lst ([.ref y] ++ xs)) n3
    have hr3 : upd (upd H9 q3 (.lst [.ref y])) r3 (.lst ([.ref y] ++ xs)) r3 = some (.lst ([.ref y] ++ xs)) := upd_same
    generalize upd (upd H9 q3 (.lst [.ref y])) r3 (.lst ([.ref y] ++ xs)) = H10 at s10 hr3 ⊢
    have hM10 := s10 _ _ hM9
    refine ⟨_, rfl, _, rfl, M, xs, rfl, .inl ⟨.of hM10, fun r5 n5 => ?_⟩⟩
    have s11 := same_put (s := Same.refl H10) (o := .tup xs) n5
    have hr5 : upd H10 r5 (.tup xs) r5 = some (.tup xs) := upd_same
    generalize upd H10 r5 (.tup xs) = H11 at s11 hr5 ⊢
    refine ⟨by show 5 ≤ sizeLine; decide, fun rs nrs => ?_⟩
    have s12 := same_put (s := Same.refl H11) (o := .tup [.ref r1, .ref r2, .ref r3, .ref tw, .ref r5]) nrs
    have hrs : upd H11 rs (.tup [.ref r1, .ref r2, .ref r3, .ref tw, .ref r5]) rs = some (.tup [.ref r1, .ref r2, .ref r3, .ref tw, .ref r5]) := upd_same
    generalize upd H11 rs (.tup [.ref r1, .ref r2, .ref r3, .ref tw, .ref r5]) = H12 at s12 hrs ⊢
    have t10 : Same H10 H12 := s11.trans s12
    have t9 : Same H9 H12 := s10.trans t10
    have t8 : Same H8 H12 := s9.trans t9
    have t7 : Same H7 H12 := s8.trans t8
    have t6 : Same H6 H12 := s7.trans t7
    have ms12 := ms6.same t6
    have my : MisAt CM H12 y st := m6.same2 t6
    have mv : MisAt CM H12 xv u := mu6.same2 t6
    have c12 := (cd6.same t6)
    have rz12 := rz6.same t6
    have PA12 := pen_same PA6 t6
    have fr12 : Fr p H H12 := fr06.trans fun b o e _ => t6 _ _ e
    have hM12 := t6 _ _ hM6
    have oks2 : ∀ {w : Tab}, Okk w → ∀ a ∈ ts ++ [w], Okk a := fun {w} ow a ha => by
      rcases List.mem_append.mp ha with h | h
      · exact okk a h
      · rw [List.mem_singleton.mp h]
        exact ow
    have msy : MsL CM H12 (xs ++ [.ref y]) (ts ++ [st]) := prd_app ms12 (.cons ⟨y, rfl, my, oks.1⟩ .nil)
    have len4 : ∀ w : Tab, (ts ++ [w]).length ≤ 4 := fun w => by
      rw [List.length_append]
      show ts.length + 1 ≤ 4
      omega
    have len1 : ∀ w : Tab, 1 ≤ (ts ++ [w]).length := fun w => by
      rw [List.length_append]
      show 1 ≤ ts.length + 1
      omega
    have rows : ∀ v ∈ [V.ref r1, .ref r2, .ref r3, .ref tw, .ref r5], RowB CM ts H12 v := by
      intro v hv
      rcases List.mem_cons.mp hv with rfl | hv
      · exact ⟨r1, true, xs.reverse, ts.reverse, rfl, t8 _ _ hr1, prd_rev ms12, by rw [List.length_reverse]; exact l1, by rw [List.length_reverse]; omega, fun u hu => okk u (List.mem_reverse.mp hu), badL_mem fun u => List.mem_reverse⟩
      rcases List.mem_cons.mp hv with rfl | hv
      · exact ⟨r2, true, _, _, rfl, t9 _ _ hr2, msy, len1 _, len4 _, oks2 oks, badL_still stl fun u => by rw [List.mem_append, List.mem_singleton]⟩
      rcases List.mem_cons.mp hv with rfl | hv
      · refine ⟨r3, true, _, [st] ++ ts, rfl, t10 _ _ hr3, prd_app (.cons ⟨y, rfl, my, oks.1⟩ .nil) ms12, ?_, ?_, fun u hu => ?_, badL_still stl fun u => by rw [List.mem_append, List.mem_singleton]; exact Or.comm⟩
        · show 1 ≤ ts.length + 1
          omega
        · show ts.length + 1 ≤ 4
          omega
        · rcases List.mem_append.mp hu with h | h
          · rw [List.mem_singleton.mp h]
            exact oks
          · exact okk u h
      rcases List.mem_cons.mp hv with rfl | hv
      · exact ⟨tw, true, _, ts ++ [u], rfl, t7 _ _ htw, prd_app ms12 (.cons ⟨xv, rfl, mv, ou⟩ .nil), len1 _, len4 _, oks2 (okk u hu), badL_mem fun w => by
          rw [List.mem_append, List.mem_singleton]
          exact ⟨fun h => h.elim id fun e => e ▸ hu, .inl⟩⟩
      obtain rfl := List.mem_singleton.mp hv
      exact ⟨r5, false, xs, ts, rfl, s12 _ _ hr5, ms12, l1, by omega, okk, Iff.rfl⟩
    clear hM6 ms6 m6 mu6 cd6 rz6 fr06 PA6 s7 s8 s9 s10 s11 s12 t7 t8 t9 t10 t6 htw hr1 hr2 hr3 hr5 hM7 hM8 hM9 hM10 mv nq1 ntw n1 nq2 n2 nq3 n3 n5 nrs nM
    refine ⟨rs, rfl, ⟨_, .of hrs⟩, for_it (walk_tup (K := K) (a := rs) (xs := [V.ref r1, .ref r2, .ref r3, .ref tw, .ref r5])) (fun i σ A => (∃ v7 : Option V, σ = [some (.ref p), some (.ref D), some (.ref z), some (.ref M), some (.ref S), some (.ref y), some (.ref tw), v7, none, none, none]) ∧ Same H12 A) ⟨⟨_, rfl⟩, Same.refl _⟩ ?_ ?_ ?_⟩
    · rintro k σ A hk ⟨_, sA⟩
      exact .of (sA _ _ hrs)
    · rintro k e σ A0 A hk ⟨⟨v7, rfl⟩, sA⟩ ⟨rfl, hy⟩
      obtain ⟨r, b, ys, us, rfl, hr', hm', m1, m4, mo, mb⟩ := (rows e (List.mem_of_getElem? hy)).same sA
      refine ⟨_, rfl, r, b, ys, us, rfl, hr', hm', m1, m4, few_all mo, (c12.same sA).cn, (c12.same sA).sd, fun z2 H2 s2 n2 r2 => (snd_b (fun u hu => (mo u hu).1) r2).bool fun c1 k1 => ⟨_, rfl, ((rz12.same sA).same s2).bool fun c2 k2 => ⟨rfl, ?_⟩⟩⟩
      rw [k1.eq k2 mb, decide_eq_true rfl]
      exact ⟨_, rfl, iteF ⟨⟨_, rfl⟩, sA.trans s2⟩⟩
    · rintro σ A ⟨⟨v7, rfl⟩, sA⟩
      have rzA := rz12.same sA
      have qA : ∀ H', Same A H' → Q (.bl true) H' := fun H' s => q H' (fr12.trans fun b o e _ => s _ _ (sA _ _ e)) (pen_same PA12 (sA.trans s))
      refine ⟨_, rfl, rzA.tru fun c kc2 => ?_⟩
      cases c with
      | true => exact iteF (qA A (Same.refl _))
      | false =>
        refine iteT ?_
        rcases rzA with ⟨dx, fs, h, r⟩ | ⟨dx, i, j, w1, w2, hz, hi, hj, stp, bd⟩
        · exact absurd (kc2.mp rfl) r
        have hMA := sA _ _ hM12
        have msA := ms12.same sA
        have msyA := msy.same sA
        have bnd : ∀ u ∈ ts, Bnd 64 (lk u) := fun u hu => okk_bnd (okk u hu)
        have ej : ((xs.length : Nat) : Int) - 1 - (j : Int) = ((ts.length - 1 - j : Nat) : Int) := by omega
        have ei : ((xs.length : Nat) : Int) - 1 - (i : Int) = ((ts.length - 1 - i : Nat) : Int) := by omega
        refine ⟨_, rfl, M, xs, rfl, .inl (.of hMA), _, _, rfl, rfl, ?_⟩
        refine atNm ?_
        dsimp only [List.set_cons_succ, List.set_cons_zero]
        refine ⟨_, rfl, z, CU, dx, _, _, rfl, hz, T.clU, T.u3, fUnsound_2 .., _, rfl, _, rfl, z, CU, dx, _, _, rfl, hz, T.clU, T.u4, fUnsound_3 .., _, _, rfl, rfl, _, rfl, z, CU, dx, _, _, rfl, hz, T.clU, T.u1, fUnsound_0 .., _, rfl, _, rfl, z, CU, dx, _, _, rfl, hz, T.clU, T.u2, fUnsound_1 .., _, _, rfl, rfl, ?_⟩
        refine fun z2 dz2 nz ndz ne => ⟨z2, dz2, _, _, _, _, _, _, _, _, rfl, upd_same, .str _, fl_str stp.2.2.1, .int _, fl_int, .str _, fl_str stp.2.1, .int _, fl_int, fun u0 u1 u2 u3 H2 b2 hz2 t0 t1 t2 t3 => ⟨rfl, ?_⟩⟩
        cases t0
        cases t1
        cases t2
        cases t3
        have s2 : Same A H2 := made_same nz ndz b2
        rw [ei, ej] at hz2
        refine atNm ?_
        dsimp only [List.set_cons_succ, List.set_cons_zero]
        have hM2 := s2 _ _ hMA
        refine ⟨_, rfl, M, xs, rfl, .of hM2, fun r n => ?_⟩
        have s3 := same_put (s := s2) (o := .lst xs.reverse) n
        have s23 := same_put (s := Same.refl H2) (o := .lst xs.reverse) n
        have hr3 : upd H2 r (.lst xs.reverse) r = some (.lst xs.reverse) := upd_same
        generalize upd H2 r (.lst xs.reverse) = H3 at s3 s23 hr3 ⊢
        refine ⟨_, rfl, r, z2, dz2, true, xs.reverse, ts.reverse, ts.length - 1 - j, ts.length - 1 - i, w2, w1, rfl, hr3, prd_rev (msA.same s3), by rw [List.length_reverse]; exact l1, by rw [List.length_reverse]; omega, fun u hu => bnd u (List.mem_reverse.mp hu), s23 _ _ hz2, by rw [List.length_reverse]; omega, by rw [List.length_reverse]; omega, by rw [tabI_rev hi, tabI_rev hj]; exact stp.symm, fun H4 s4 => ⟨_, rfl, iteT ?_⟩⟩
        have s5 := s3.trans s4
        have hM5 := s5 _ _ hMA
        refine ⟨_, rfl, _, rfl, by show 1 ≤ sizeLine; decide, fun q4 nq4 => ⟨M, q4, xs, [.ref y], rfl, rfl, by rw [upd_ne (ne_of_none hM5 nq4)]; exact hM5, upd_same, by rw [sizeLine_eq]; show xs.length + 1 ≤ _; omega, fun r4 n4 => ?_⟩⟩
        have s6 := same_put (s := same_put (s := s5) (o := .lst [.ref y]) nq4) (o := .lst (xs ++ [.ref y])) n4
        have hr4 : upd (upd H4 q4 (.lst [.ref y])) r4 (.lst (xs ++ [.ref y])) r4 = some (.lst (xs ++ [.ref y])) := upd_same
        generalize upd (upd H4 q4 (.lst [.ref y])) r4 (.lst (xs ++ [.ref y])) = H6' at s6 hr4 ⊢
        exact ⟨_, rfl, r4, z, dx, true, xs ++ [V.ref y], ts ++ [st], i, j, w1, w2, rfl, hr4, msyA.same s6, len1 _, len4 _, fun u hu => okk_bnd (oks2 oks u hu), s6 _ _ hz, by rw [List.length_append]; omega, by rw [List.length_append]; omega, by rw [tabI_app hi, tabI_app hj]; exact stp, fun H7 s7 => qA _ (s6.trans s7)⟩
end
end V8
set_option Elab.async false
set_option linter.all false
set_option maxRecDepth 100000
set_option maxHeartbeats 8000000
set_option pp.maxSteps 700
/-! Images backwards, other names. -/
namespace V8
open PySem PySem.Spec PyProof.Rows L2 MZ SetT SetW
abbrev s__law_names_right : Stmt := topS 116
abbrev n__law_names_right : List Str := ["_law_tables_here", "_law_found", "_law_names", "_law_back_here", "_law_other", "_law_turned", "_law_near_here", "_law_far", "_law_table_here", "_law_sign"]
theorem sc__law_names_right : FnScope ["_law_tables_here", "_law_found", "_law_names", "_law_back_here", "_law_other", "_law_turned", "_law_near_here", "_law_far", "_law_table_here", "_law_sign"] ["_law_tables_here", "_law_found", "_law_names"] (defScope s__law_names_right) := ⟨rfl, rfl, rfl, by decide +kernel, rfl, by decide +kernel, by decide +kernel⟩
theorem nd_mapInj {f : Nat → Nat} : ∀ {l : List Nat}, l.Nodup → (∀ a ∈ l, ∀ b ∈ l, f a = f b → a = b) → (l.map f).Nodup
  | [], _, _ => List.nodup_nil
  | a :: r, nd, h => by
    obtain ⟨n1, n2⟩ := List.nodup_cons.mp nd
    rw [List.map_cons, List.nodup_cons]
    refine ⟨fun z => ?_, nd_mapInj n2 fun x hx y hy => h x (List.mem_cons_of_mem _ hx) y (List.mem_cons_of_mem _ hy)⟩
    obtain ⟨b, hb, e⟩ := List.mem_map.mp z
    rw [h b (List.mem_cons_of_mem _ hb) a List.mem_cons_self e] at hb
    exact n1 hb
/-- every letter of tables -/
def InKs (ks : List Nat) (ts : List Tab) : Prop := ∀ t ∈ ts, ∀ q ∈ t, q.1 ∈ ks ∧ ∀ c ∈ q.2, c ∈ ks
structure NmOk (ks : List Nat) (nm : Tab) : Prop where
  has : ∀ c ∈ ks, HasNm nm c
  lt : ∀ c ∈ ks, isLt (nmF nm c)
  inj : InjD (nmF nm) ks
theorem lk_in {u : Tab} {c : Nat} {s : List Nat} (e : lk u c = some s) : (c, s) ∈ u := look_in (by
  unfold lk at e
  by_cases h : c ∈ abc
  · rwa [if_pos h] at e
  · rw [if_neg h] at e
    cases e)
theorem in_lk {u : Tab} {c : Nat} {s : List Nat} (g : GoodT abc u) (h : (c, s) ∈ u) : lk u c = some s := by
  unfold lk
  rw [if_pos (g.key _ h)]
  exact look_mem g.nd h
theorem named_gd {ks : List Nat} {nm : Tab} {t : Tab} (N : NmOk ks nm) (g : Gd5 t) (k : ∀ q ∈ t, q.1 ∈ ks ∧ ∀ c ∈ q.2, c ∈ ks) : Gd5 (namedT t nm) := by
  refine ⟨⟨?_, fun q hq => ?_, fun q hq => ?_⟩, by unfold namedT; rw [List.length_map]; exact g.2⟩
  · unfold namedT
    rw [List.map_map, show ((fun q : Nat × List Nat => q.1) ∘ fun q : Nat × List Nat => (nmF nm q.1, q.2.map (nmF nm))) = (nmF nm) ∘ (·.1) from rfl, ← List.map_map]
    refine nd_mapInj g.1.nd fun a ha b hb e => ?_
    obtain ⟨x, hx, rfl⟩ := List.mem_map.mp ha
    obtain ⟨y, hy, rfl⟩ := List.mem_map.mp hb
    exact N.inj _ (k x hx).1 _ (k y hy).1 e
  · obtain ⟨p, hp, rfl⟩ := List.mem_map.mp hq
    exact abc_mem.mpr (N.lt _ (k p hp).1)
  · obtain ⟨p, hp, rfl⟩ := List.mem_map.mp hq
    obtain ⟨a, b, c⟩ := g.1.img p hp
    refine ⟨by rw [List.length_map]; exact a, by rw [List.length_map]; exact b, fun d hd => ?_⟩
    obtain ⟨e, he, rfl⟩ := List.mem_map.mp hd
    exact abc_mem.mpr (N.lt _ ((k p hp).2 e he))
theorem named_nmd {ks : List Nat} {nm : Tab} {t : Tab} (N : NmOk ks nm) (g : Gd5 t) (k : ∀ q ∈ t, q.1 ∈ ks ∧ ∀ c ∈ q.2, c ∈ ks) : Nmd (nmF nm) ks t (namedT t nm) := by
  have g2 := named_gd N g k
  refine ⟨fun c s e => ?_, fun c' s' e => ?_⟩
  · have h := lk_in e
    exact ⟨(k _ h).1, (k _ h).2, in_lk g2.1 (List.mem_map.mpr ⟨_, h, rfl⟩)⟩
  · have h := lk_in e
    obtain ⟨p, hp, e2⟩ := List.mem_map.mp h
    cases e2
    exact ⟨p.1, p.2, rfl, in_lk g.1 hp⟩
def spNames (K : PySem.W.Frag) (aS aE aV aD CM CS CU : Addr) : Sp := fun vs H Q _ => ∃ (D z N : Addr) (ds : List Addr) (ts : List Tab) (ks : List Nat) (nm : Tab), vs = [.ref D, .ref z, .ref N] ∧ H D = some (.lst (ds.map V.ref)) ∧ TbP Gd5 H ds ts ∧ 1 ≤ ts.length ∧ ts.length ≤ 3 ∧ SndB CS CU ts H z ∧ CnS K aS aE aV aD H ∧ H N = some (.dK (encT nm)) ∧ NmOk ks nm ∧ InKs ks ts ∧
  ∀ H', Same H H' → Q (.bl true) H'
theorem tabI_map {us : List Tab} {f : Tab → Tab} {i : Nat} (h : i < us.length) : tabI (us.map f) i = f (tabI us i) := by
  unfold tabI
  rw [List.getElem?_map, List.getElem?_eq_getElem h]
  rfl
theorem nm_at {nm : Tab} {w : Wd} {j : Nat} {c : Nat} (h : w[j]? = some c) : (((w.map fun c => [nmF nm c]).map Sx).map V.str)[j]? = some (V.str (Sx [nmF nm c])) := by
  rw [List.getElem?_map, List.getElem?_map, List.getElem?_map, h]
  rfl
theorem nm_len {nm : Tab} {w : Wd} : (((w.map fun c => [nmF nm c]).map Sx).map V.str).length = w.length := by
  rw [List.length_map, List.length_map, List.length_map]
theorem nm_flat {nm : Tab} : ∀ {w : Wd}, (w.map fun c => [nmF nm c]).flatten = w.map (nmF nm)
  | [] => rfl
  | c :: r => by
    rw [List.map_cons, List.flatten_cons, nm_flat]
    rfl
theorem nm_bound {nm : Tab} {w : Wd} (h : w.length ≤ 2000) : ((((w.map fun c => [nmF nm c]).map Sx).map fun x : Str => x.length).sum + ((w.map fun c => [nmF nm c]).map Sx).length * 0) ≤ 16777216 := by
  have hb := sum_le (fun x : Str => x.length) 1 ((w.map fun c => [nmF nm c]).map Sx) fun y hy => by
    obtain ⟨s3, hs3, rfl⟩ := List.mem_map.mp hy
    obtain ⟨c, hc, rfl⟩ := List.mem_map.mp hs3
    exact Nat.le_refl _
  rw [List.length_map, List.length_map] at hb ⊢
  omega
section
variable {P : Program} {w : World} {K : PySem.W.Frag} {mg : Str → Option Value} {base : Heap} {aS aE aV aD CM CJ CA CT CS CU : Addr}
theorem ok_names {f : Addr} {fd : FuncData} (F : Fun K "_law_names_right" "_law_names_right" s__law_names_right f fd) (T : Tu6 K mg CM CJ CS CU) (D_made : Df P w K mg base 8 "_law_made" (spMade CM)) (D_back : Df P w K mg base 1 "_law_back" spBack) (D_named : Df P w K mg base 1 "_law_named" spNamed) (D_sound : Df P w K mg base 7 "sound" (spSound K aS aE aV aD CM CA CT CS CU)) (D_boolO : Mf P w K mg base 1 CS "__bool__" (spSays true)) (D_boolR : Mf P w K mg base 1 CU "__bool__" (spSays false)) (D_Unsound : MkC P w K mg base 4 CU "Unsound" (spUnsoundI CU)) (D_shows_sound : Df P w K mg base 6 "shows_sound" (spShows CM CU)) : FnOk P w K mg base CX0 9 f fd ["_law_tables_here", "_law_found", "_law_names"] (spNames K aS aE aV aD CM CS CU) := by
  refine F.ok sc__law_names_right (fun vs H Q E h => ?_) (fun cdv A outer s H vs Q E hr h => ?_)
  · obtain ⟨D, z, N, ds, ts, ks, nm, rfl, _⟩ := h
    rfl
  · obtain ⟨D, z, N, ds, ts, ks, nm, rfl, hD, tb, l1, l3, rz, cd, hN, no, ik, q⟩ := h
    refine ⟨_, (pss_cons (ps_set (i := 3) sc__law_names_right.nd rfl (.inl rfl) (pe_c D_made hr (by decide) (by rfl) (pa_cons (pe_lc (own := [("_law_table_here", 8)]) (g := gName 8) (by rfl) sc__law_names_right.nd (pi_list (pv 0)) (blkOk_by (own := [("_law_table_here", 8)]) (N := n__law_names_right) (sc := defScope s__law_names_right) (by decide +kernel)) (fun _ _ _ _ _ => (pg_name (i := 8) sc__law_names_right.nd rfl (.inl rfl))) (fun _ _ _ _ _ => pts_nil) (fun _ _ _ _ _ => (pe_c D_back hr (by decide) (by rfl) (pa_cons (pv 8) pa_nil)))) pa_nil)))
      (pss_cons (ps_set (i := 4) sc__law_names_right.nd rfl (.inl rfl) (pe_c D_made hr (by decide) (by rfl) (pa_cons (pe_lc (own := [("_law_table_here", 8)]) (g := gName 8) (by rfl) sc__law_names_right.nd (pi_list (pv 0)) (blkOk_by (own := [("_law_table_here", 8)]) (N := n__law_names_right) (sc := defScope s__law_names_right) (by decide +kernel)) (fun _ _ _ _ _ => (pg_name (i := 8) sc__law_names_right.nd rfl (.inl rfl))) (fun _ _ _ _ _ => pts_nil) (fun _ _ _ _ _ => (pe_c D_named hr (by decide) (by rfl) (pa_cons (pv 8) (pa_cons (pv 2) pa_nil))))) pa_nil)))
      (pss_cons (ps_if (PW.pt (pw_or (pt_cmpR op_ne (pe_callTy (call_boolV D_boolO D_boolR hr (by decide)) (by rfl) T.bool (by decide +kernel) (pa_cons (pe_c D_sound hr (by decide) (by rfl) (pa_cons (pv 3) pa_nil)) pa_nil)) (pe_callTy (call_boolV D_boolO D_boolR hr (by decide)) (by rfl) T.bool (by decide +kernel) (pa_cons (pv 1) pa_nil)) (nomark _)) (pw_or1 (pt_cmpR op_ne (pe_callTy (call_boolV D_boolO D_boolR hr (by decide)) (by rfl) T.bool (by decide +kernel) (pa_cons (pe_c D_sound hr (by decide) (by rfl) (pa_cons (pv 4) pa_nil)) pa_nil)) (pe_callTy (call_boolV D_boolO D_boolR hr (by decide)) (by rfl) T.bool (by decide +kernel) (pa_cons (pv 1) pa_nil)) (nomark _)))))
        (pss_one (ps_ret pe_bl))
        pss_nil)
      (pss_cons (ps_if (pt_tru (tru_V D_boolO D_boolR hr (by decide)) (pv 1))
        (pss_one (ps_ret pe_bl))
        pss_nil)
      (pss_cons (ps_set (i := 5) sc__law_names_right.nd rfl (.inl rfl) (pe_mkC D_Unsound hr (by decide) (by rfl) (pa_cons (pe_revS (pe_fldK (K := K) rfl (pv 1) rfl)) (pa_cons (pe_fldK (K := K) rfl (pv 1) rfl) (pa_cons (pe_revS (pe_fldK (K := K) rfl (pv 1) rfl)) (pa_cons (pe_fldK (K := K) rfl (pv 1) rfl) pa_nil))))))
      (pss_cons (ps_par (i := 6) (j := 7) (by rfl) sc__law_names_right.nd rfl rfl (by decide) rfl rfl (pa_cons (pe_joinK (K := K) rfl pe_str (pe_lc (own := [("_law_sign", 9)]) (g := gName 9) (by rfl) sc__law_names_right.nd (pi_str (pe_fldK (K := K) rfl (pv 1) rfl)) (blkOk_by (own := [("_law_sign", 9)]) (N := n__law_names_right) (sc := defScope s__law_names_right) (by decide +kernel)) (fun _ _ _ _ _ => (pg_name (i := 9) sc__law_names_right.nd rfl (.inl rfl))) (fun _ _ _ _ _ => pts_nil) (fun _ _ _ _ _ => (pe_dget (hu_of hr) (pv 2) (pv 9) (fun _ _ => rfl))))) (pa_cons (pe_joinK (K := K) rfl pe_str (pe_lc (own := [("_law_sign", 9)]) (g := gName 9) (by rfl) sc__law_names_right.nd (pi_str (pe_fldK (K := K) rfl (pv 1) rfl)) (blkOk_by (own := [("_law_sign", 9)]) (N := n__law_names_right) (sc := defScope s__law_names_right) (by decide +kernel)) (fun _ _ _ _ _ => (pg_name (i := 9) sc__law_names_right.nd rfl (.inl rfl))) (fun _ _ _ _ _ => pts_nil) (fun _ _ _ _ _ => (pe_dget (hu_of hr) (pv 2) (pv 9) (fun _ _ => rfl))))) pa_nil)) (by rfl))
      (pss_one (ps_ret (pe_and (pe_c D_shows_sound hr (by decide) (by rfl) (pa_cons (pv 3) (pa_cons (pv 5) pa_nil))) (pe_one (pe_c D_shows_sound hr (by decide) (by rfl) (pa_cons (pv 4) (pa_cons (pe_mkC D_Unsound hr (by decide) (by rfl) (pa_cons (pv 6) (pa_cons (pe_fldK (K := K) rfl (pv 1) rfl) (pa_cons (pv 7) (pa_cons (pe_fldK (K := K) rfl (pv 1) rfl) pa_nil))))) pa_nil))))))))))))), ?_⟩
    have lds := prd_len tb
    have gd : ∀ t ∈ ts, Gd5 t := fun t ht => by
      obtain ⟨d, _, _, g⟩ := prd_mem_rr tb ht
      exact g
    -- backwards
    refine ⟨_, rfl, D, rfl, ⟨_, .of hD⟩, fun B nB => lc_it (walk_list (K := K) (a := D) (xs := ds.map V.ref)) (fun i A => ∃ es, A B = some (.lst (es.map V.ref)) ∧ TbP Gd5 A es ((ts.take i).map backT) ∧ Same H A) ⟨[], upd_same, .nil, same_put (Same.refl _) nB⟩ ?_ ?_ ?_⟩
    · rintro i A hi ⟨_, _, _, sA⟩
      exact .of (sA _ _ hD)
    · rintro i x A A2 hi ⟨es, hB, pe, sA⟩ ⟨rfl, hy⟩
      rw [List.getElem?_map] at hy
      obtain ⟨d, hdd, rfl⟩ := Option.map_eq_some_iff.mp hy
      obtain ⟨t, ht, htd, G⟩ := prd_at tb hdd
      have lpe := prd_len pe
      rw [List.length_map, List.length_take] at lpe
      refine ⟨rfl, _, rfl, d, t, rfl, sA _ _ htd, G, fun r A3 nr s3 hr3 => ?_⟩
      have hB3 := s3 _ _ hB
      refine ⟨_, hB3, by rw [List.length_map, sizeLine_eq]; omega, es ++ [r], by rw [upd_same, List.map_append]; rfl, ?_, same_over (fun b o e => s3 _ _ (sA _ _ e)) nB⟩
      have kp : ∀ b kvs, A3 b = some (.dK kvs) → upd A3 B (.lst (es.map V.ref ++ [.ref r])) b = some (.dK kvs) := fun b kvs z => by
        rw [upd_ne (fun e => by rw [e, hB3] at z; cases z)]
        exact z
      rw [List.take_add_one, ht, List.map_append]
      exact (prd_imp pe fun _ _ ⟨e, g⟩ => ⟨kp _ _ (s3 _ _ e), g⟩).snoc ⟨kp _ _ hr3, back_good G⟩
    rintro H1 ⟨eb, hB, tbb, s1⟩
    rw [List.length_map, lds, List.take_length] at tbb
    refine ⟨B, eb, ts.map backT, rfl, hB, tbb, by rw [List.length_map]; omega, fun M1 x1 H2 nM1 s2 hM1 ms1 => ?_⟩
    have s02 := s1.trans s2
    refine atNm ?_
    dsimp only [List.set_cons_succ, List.set_cons_zero]
    clear nM1 hB tbb s2 s1 nB
    -- other names
    have hD2 := s02 _ _ hD
    have tb2 := tb.same s02
    refine ⟨_, rfl, D, rfl, ⟨_, .of hD2⟩, fun B nB => lc_it (walk_list (K := K) (a := D) (xs := ds.map V.ref)) (fun i A => ∃ es, A B = some (.lst (es.map V.ref)) ∧ TbP Gd5 A es ((ts.take i).map fun t => namedT t nm) ∧ Same H2 A) ⟨[], upd_same, .nil, same_put (Same.refl _) nB⟩ ?_ ?_ ?_⟩
    · rintro i A hi ⟨_, _, _, sA⟩
      exact .of (sA _ _ hD2)
    · rintro i x A A2 hi ⟨es, hB, pe, sA⟩ ⟨rfl, hy⟩
      rw [List.getElem?_map] at hy
      obtain ⟨d, hdd, rfl⟩ := Option.map_eq_some_iff.mp hy
      obtain ⟨t, ht, htd, G⟩ := prd_at tb2 hdd
      have kt := ik t (List.mem_of_getElem? ht)
      have lpe := prd_len pe
      rw [List.length_map, List.length_take] at lpe
      have g5 := G.2
      refine ⟨rfl, _, rfl, _, rfl, d, N, t, nm, rfl, sA _ _ htd, sA _ _ (s02 _ _ hN), fun q hq => ⟨no.has _ (kt q hq).1, fun c hc => no.has _ ((kt q hq).2 c hc)⟩, by omega, fun q hq => Nat.le_trans (G.1.img q hq).2.1 (by decide), G.1.nd, (named_gd no G kt).1.nd, fun q hq => ⟨abc_mem.mp (G.1.key q hq), fun c hc => abc_mem.mp ((G.1.img q hq).2.2 c hc)⟩, fun r A3 nr s3 hr3 => ?_⟩
      have hB3 := s3 _ _ hB
      refine ⟨_, hB3, by rw [List.length_map, sizeLine_eq]; omega, es ++ [r], by rw [upd_same, List.map_append]; rfl, ?_, same_over (fun b o e => s3 _ _ (sA _ _ e)) nB⟩
      have kp : ∀ b kvs, A3 b = some (.dK kvs) → upd A3 B (.lst (es.map V.ref ++ [.ref r])) b = some (.dK kvs) := fun b kvs z => by
        rw [upd_ne (fun e => by rw [e, hB3] at z; cases z)]
        exact z
      rw [List.take_add_one, ht, List.map_append]
      exact (prd_imp pe fun _ _ ⟨e, g⟩ => ⟨kp _ _ (s3 _ _ e), g⟩).snoc ⟨kp _ _ hr3, named_gd no G kt⟩
    rintro H3 ⟨eb3, hB, tbb, s3⟩
    rw [List.length_map, lds, List.take_length] at tbb
    refine ⟨B, eb3, ts.map fun t => namedT t nm, rfl, hB, tbb, by rw [List.length_map]; omega, fun M2 x2 H4 nM2 s4 hM2 ms2 => ?_⟩
    have s24 := s3.trans s4
    refine atNm ?_
    dsimp only [List.set_cons_succ, List.set_cons_zero]
    have hM1' := s24 _ _ hM1
    have ms1' := ms1.same s24
    have s04 := s02.trans s24
    have rz4 := rz.same s04
    have cd4 := cd.same s04
    have hN4 := s04 _ _ hN
    clear nM2 hB tbb s3 s4 nB hD2 tb2 s02 s24 ms1 hM1 rz cd hN hD tb
    have eb : BadL (ts.map backT) ↔ BadL ts := badL_map fun u _ v _ => ⟨fun b => bck_bad (back_bck u).symm (back_bck v).symm b, fun b => bck_bad (back_bck u) (back_bck v) b⟩
    have en : BadL (ts.map fun t => namedT t nm) ↔ BadL ts := badL_map fun u hu v hv => nmd_bad no.inj (named_nmd no (gd u hu) (ik u hu)) (named_nmd no (gd v hv) (ik v hv))
    have ok1 : ∀ u ∈ ts.map backT, Okk u := fun u hu => by
      obtain ⟨t, ht, rfl⟩ := List.mem_map.mp hu
      exact gd_okk (back_good (gd t ht))
    have ok2 : ∀ u ∈ ts.map fun t => namedT t nm, Okk u := fun u hu => by
      obtain ⟨t, ht, rfl⟩ := List.mem_map.mp hu
      exact gd_okk (named_gd no (gd t ht) (ik t ht))
    have ln1 : (ts.map backT).length = ts.length := List.length_map _
    have ln2 : (ts.map fun t => namedT t nm).length = ts.length := List.length_map _
    refine ⟨_, rfl, M1, true, x1, ts.map backT, rfl, hM1', ms1', by omega, by omega, few_all ok1, cd4.cn, cd4.sd, fun z1 H5 s5 nz1 r1 => (snd_b (fun u hu => (ok1 u hu).1) r1).bool fun c1 k1 => ⟨_, rfl, (rz4.same s5).bool fun c2 k2 => ⟨rfl, ?_⟩⟩⟩
    rw [k1.eq k2 eb, decide_eq_true rfl]
    refine ⟨_, rfl, iteF ?_⟩
    refine ⟨_, rfl, M2, true, x2, ts.map fun t => namedT t nm, rfl, s5 _ _ hM2, ms2.same s5, by omega, by omega, few_all ok2, (cd4.same s5).cn, (cd4.same s5).sd, fun z2 H6 s6 nz2 r2 => (snd_b (fun u hu => (ok2 u hu).1) r2).bool fun c3 k3 => ⟨_, rfl, ((rz4.same s5).same s6).bool fun c4 k4 => ⟨rfl, ?_⟩⟩⟩
    rw [k3.eq k4 en, decide_eq_true rfl]
    refine ⟨_, rfl, iteF ?_⟩
    have s46 := s5.trans s6
    have s06 := s04.trans s46
    have rz6 := rz4.same s46
    refine ⟨_, rfl, rz6.tru fun c kc => ?_⟩
    cases c with
    | true => exact iteT (q _ s06)
    | false =>
      refine iteF ?_
      rcases rz6 with ⟨dx, fs, h, r⟩ | ⟨dx, i, j, w1, w2, hz, hi, hj, stp, bd⟩
      · exact absurd (kc.mp rfl) r
      have lw1 := stp.2.2.2.1
      have lw2 := stp.2.2.2.2
      refine ⟨_, rfl, z, CU, dx, _, _, rfl, hz, T.clU, T.u1, fUnsound_0 .., _, rfl, by rw [Sx_len, sizeLine_eq]; omega, _, rfl, z, CU, dx, _, _, rfl, hz, T.clU, T.u2, fUnsound_1 .., _, rfl, z, CU, dx, _, _, rfl, hz, T.clU, T.u3, fUnsound_2 .., _, rfl, by rw [Sx_len, sizeLine_eq]; omega, _, rfl, z, CU, dx, _, _, rfl, hz, T.clU, T.u4, fUnsound_3 .., ?_⟩
      rw [revS_sx, revS_sx]
      refine fun z3 dz3 nz ndz ne => ⟨z3, dz3, _, _, _, _, _, _, _, _, rfl, upd_same, .str _, fl_str fun c hc => stp.2.1 c (List.mem_reverse.mp hc), .int _, fl_int, .str _, fl_str fun c hc => stp.2.2.1 c (List.mem_reverse.mp hc), .int _, fl_int, fun u0 u1 u2 u3 H7 b7 hz3 t0 t1 t2 t3 => ⟨rfl, ?_⟩⟩
      cases t0
      cases t1
      cases t2
      cases t3
      have s7 : Same H6 H7 := made_same nz ndz b7
      clear b7 nz ndz ne
      refine atNm ?_
      dsimp only [List.set_cons_succ, List.set_cons_zero]
      have hN6 := s46 _ _ hN4
      have in_w1 : ∀ c ∈ w1, c ∈ ks := fun c hc => by
        obtain ⟨⟨g, a, _⟩, _⟩ := stp
        exact (nmd_im (named_nmd no (gd _ (tabI_mem hi)) (ik _ (tabI_mem hi))) a).1 c hc
      have in_w2 : ∀ c ∈ w2, c ∈ ks := fun c hc => by
        obtain ⟨⟨g, _, a, _⟩, _⟩ := stp
        exact (nmd_im (named_nmd no (gd _ (tabI_mem hj)) (ik _ (tabI_mem hj))) a).1 c hc
      refine ⟨⟨_, rfl⟩, _, rfl, z, CU, dx, _, _, rfl, s7 _ _ hz, T.clU, T.u1, fUnsound_0 .., Sx w1, rfl, fun D1 nD1 => ?_⟩
      refine lc_it walk_str (fun j H3 => H3 = upd H7 D1 (.lst (((((w1).map fun c => [nmF nm c]).map Sx).map V.str).take j))) rfl (fun _ _ _ _ => trivial) ?_ ?_
      · rintro j y H3 H3' hj rfl ⟨rfl, c, hc0, rfl⟩
        have hc1 := sx_at hc0
        have h3 := no.has c (in_w1 c (List.mem_of_getElem? hc1))
        have r1 := rd_put (x := .lst (((((w1).map fun c => [nmF nm c]).map Sx).map V.str).take j)) (.inl (s7 _ _ hN6) : Rd H7 N (.dK (encT nm))) nD1
        refine ⟨rfl, _, rfl, _, rfl, N, V.str (Sx [nmF nm c]), rfl, .inl ⟨_, Sum.inr (L1 c), r1, rfl, by rw [valV_enc, h3]; rfl⟩, ?_⟩
        exact acc_okL (nm_at hc1) (by rw [nm_len, sizeLine_eq]; omega)
      rintro H3 rfl
      rw [sx_size, List.take_of_length_le (by rw [nm_len]; exact Nat.le_refl _)]
      refine ⟨Str.empty, D1, ((w1).map fun c => [nmF nm c]).map Sx, rfl, rfl, .inl (SqL.of upd_same), nm_bound (by omega), ?_⟩
      rw [join_Sx, nm_flat]
      have s8 := same_put (s := s7) (o := .lst (((w1.map fun c => [nmF nm c]).map Sx).map V.str)) nD1
      have s78 := same_put (s := Same.refl H7) (o := .lst (((w1.map fun c => [nmF nm c]).map Sx).map V.str)) nD1
      generalize upd H7 D1 (.lst (((w1.map fun c => [nmF nm c]).map Sx).map V.str)) = H8 at s8 s78 ⊢
      refine ⟨⟨_, rfl⟩, _, rfl, z, CU, dx, _, _, rfl, s8 _ _ hz, T.clU, T.u3, fUnsound_2 .., Sx w2, rfl, fun D2 nD2 => ?_⟩
      refine lc_it walk_str (fun j H3 => H3 = upd H8 D2 (.lst (((((w2).map fun c => [nmF nm c]).map Sx).map V.str).take j))) rfl (fun _ _ _ _ => trivial) ?_ ?_
      · rintro j y H3 H3' hj rfl ⟨rfl, c, hc0, rfl⟩
        have hc1 := sx_at hc0
        have h3 := no.has c (in_w2 c (List.mem_of_getElem? hc1))
        have r1 := rd_put (x := .lst (((((w2).map fun c => [nmF nm c]).map Sx).map V.str).take j)) (.inl (s8 _ _ hN6) : Rd H8 N (.dK (encT nm))) nD2
        refine ⟨rfl, _, rfl, _, rfl, N, V.str (Sx [nmF nm c]), rfl, .inl ⟨_, Sum.inr (L1 c), r1, rfl, by rw [valV_enc, h3]; rfl⟩, ?_⟩
        exact acc_okL (nm_at hc1) (by rw [nm_len, sizeLine_eq]; omega)
      rintro H3 rfl
      rw [sx_size, List.take_of_length_le (by rw [nm_len]; exact Nat.le_refl _)]
      refine ⟨Str.empty, D2, ((w2).map fun c => [nmF nm c]).map Sx, rfl, rfl, .inl (SqL.of upd_same), nm_bound (by omega), ?_⟩
      rw [join_Sx, nm_flat]
      have s9 := same_put (s := s8) (o := .lst (((w2.map fun c => [nmF nm c]).map Sx).map V.str)) nD2
      have s79 := same_put (s := s78) (o := .lst (((w2.map fun c => [nmF nm c]).map Sx).map V.str)) nD2
      generalize upd H8 D2 (.lst (((w2.map fun c => [nmF nm c]).map Sx).map V.str)) = H9 at s9 s79 ⊢
      refine ⟨_, _, rfl, ?_⟩
      dsimp only [List.set_cons_succ, List.set_cons_zero]
      have s49 : Same H4 H9 := s46.trans s9
      have bb : Stp (tabI (ts.map backT) i) (tabI (ts.map backT) j) w1.reverse w2.reverse := by
        rw [tabI_map hi, tabI_map hj]
        exact stp.bck (back_bck _) (back_bck _)
      have bn : Stp (tabI (ts.map fun t => namedT t nm) i) (tabI (ts.map fun t => namedT t nm) j) (w1.map (nmF nm)) (w2.map (nmF nm)) := by
        rw [tabI_map hi, tabI_map hj]
        exact stp.nmd no.inj no.lt (named_nmd no (gd _ (tabI_mem hi)) (ik _ (tabI_mem hi))) (named_nmd no (gd _ (tabI_mem hj)) (ik _ (tabI_mem hj)))
      refine ⟨_, rfl, _, rfl, M1, z3, dz3, true, x1, ts.map backT, i, j, w1.reverse, w2.reverse, rfl, s49 _ _ hM1', ms1'.same s49, by omega, by omega, fun u hu => okk_bnd (ok1 u hu), s79 _ _ hz3, by omega, by omega, bb, fun H10 s10 => ⟨_, rfl, iteT ?_⟩⟩
      have s6a : Same H6 H10 := s9.trans s10
      have s4a : Same H4 H10 := s46.trans s6a
      refine ⟨_, rfl, _, rfl, _, rfl, z, CU, dx, _, _, rfl, s6a _ _ hz, T.clU, T.u2, fUnsound_1 .., _, rfl, _, rfl, z, CU, dx, _, _, rfl, s6a _ _ hz, T.clU, T.u4, fUnsound_3 .., ?_⟩
      refine fun z4 dz4 nz ndz ne => ⟨z4, dz4, _, _, _, _, _, _, _, _, rfl, upd_same, .str _, fl_str bn.2.1, .int _, fl_int, .str _, fl_str bn.2.2.1, .int _, fl_int, fun u0 u1 u2 u3 H11 b11 hz4 t0 t1 t2 t3 => ⟨rfl, ?_⟩⟩
      cases t0
      cases t1
      cases t2
      cases t3
      have s11 : Same H10 H11 := made_same nz ndz b11
      have s4b := s4a.trans s11
      exact ⟨M2, z4, dz4, true, x2, ts.map fun t => namedT t nm, i, j, w1.map (nmF nm), w2.map (nmF nm), rfl, s4b _ _ hM2, ms2.same s4b, by omega, by omega, fun u hu => okk_bnd (ok2 u hu), hz4, by omega, by omega, bn, fun H12 s12 => q _ (s06.trans ((s6a.trans s11).trans s12))⟩
end
end V8
set_option Elab.async false
set_option linter.all false
set_option maxRecDepth 100000
set_option maxHeartbeats 8000000
set_option pp.maxSteps 900
/-! The papers of merging: made, compared, True or False. -/
namespace V8
open PySem PySem.Spec PyProof.Rows L2 MZ
variable {K : PySem.W.Frag} {ω : World}
abbrev s_OneToOne_init : Stmt := inClass (topS 78) 0
theorem sc_OneToOne_init : FnScope ["self", "leads", "dead"] ["self", "leads", "dead"] (defScope s_OneToOne_init) := ⟨rfl, rfl, rfl, by decide +kernel, rfl, by decide +kernel, by decide +kernel⟩
abbrev s_OneToOne_bool : Stmt := inClass (topS 78) 2
theorem sc_OneToOne_bool : FnScope ["self"] ["self"] (defScope s_OneToOne_bool) := ⟨rfl, rfl, rfl, by decide +kernel, rfl, by decide +kernel, by decide +kernel⟩
abbrev s_Merged_init : Stmt := inClass (topS 79) 0
theorem sc_Merged_init : FnScope ["self", "one", "other"] ["self", "one", "other"] (defScope s_Merged_init) := ⟨rfl, rfl, rfl, by decide +kernel, rfl, by decide +kernel, by decide +kernel⟩
abbrev s_Merged_bool : Stmt := inClass (topS 79) 2
theorem sc_Merged_bool : FnScope ["self"] ["self"] (defScope s_Merged_bool) := ⟨rfl, rfl, rfl, by decide +kernel, rfl, by decide +kernel, by decide +kernel⟩
def fO (a b : V) : List (Str × V) := putF "dead" b (putF "leads" a [])
def fR (a b : V) : List (Str × V) := putF "other" b (putF "one" a [])
structure Tv (K : PySem.W.Frag) (mg : Str → Option Value) (CO CR : Addr) : Prop extends Te mg where
  clO : Cls K CO
  clR : Cls K CR
  nO1 : NoAttr K CO "leads"
  nO2 : NoAttr K CO "dead"
  nR1 : NoAttr K CR "one"
  nR2 : NoAttr K CR "other"
  gOneToOne : GV mg "OneToOne" (.ref CO)
  gMerged : GV mg "Merged" (.ref CR)
  /-- what an instance's type is, for the tests below -/
  tyO : ∀ (H : Hp) (x dx : Addr) (fs : List (Str × V)), H x = some (.ins CO dx fs) → TyX K H (.ref x) (.ref CO)
  tyR : ∀ (H : Hp) (x dx : Addr) (fs : List (Str × V)), H x = some (.ins CR dx fs) → TyX K H (.ref x) (.ref CR)
  kOO : PySem.W.kitOne K (.ref CO) (.ref CO) = some true
  kRR : PySem.W.kitOne K (.ref CR) (.ref CR) = some true
def spOneI (CO : Addr) : Sp := fun vs H Q _ => ∃ (x dx : Addr) (a b : V) (da db : PyData), vs = [.ref x, a, b] ∧ H x = some (.ins CO dx []) ∧ TV H a da ∧ TD 2 da ∧ TV H b db ∧ TD 2 db ∧
  ∀ a' b' H', ButX x H H' → H' x = some (.ins CO dx (fO a' b')) → TV H' a' da → TV H' b' db → Q .non H'
def spMrgI (CR : Addr) : Sp := fun vs H Q _ => ∃ (x dx : Addr) (a b : V) (da db : PyData), vs = [.ref x, a, b] ∧ H x = some (.ins CR dx []) ∧ Told2 H a ∧ PyW H a da ∧ Told2 H b ∧ PyW H b db ∧
  ∀ a' b' H', ButX x H H' → H' x = some (.ins CR dx (fR a' b')) → PyW H' a' da → PyW H' b' db → Q .non H'
def spTrue (b : Bool) : Sp := fun vs H Q _ => ∃ x : Addr, vs = [.ref x] ∧ Q (.bl b) H
section
variable {P : Program} {w : World} {K : PySem.W.Frag} {mg : Str → Option Value} {base : Heap} {CO CR : Addr}
theorem PyW.butx {H H' : Hp} {x : Addr} {v : V} {d : PyData} {C dx : Addr} {fs : List (Str × V)} (p : PyW H v d) (s : ButX x H H') (hx : H x = some (.ins C dx fs)) : PyW H' v d := p.keep fun b o e k => s b o e fun z => by
  rw [z, hx] at e
  cases e
  rcases k with ⟨xs, k⟩ | ⟨xs, k⟩ | ⟨xs, k⟩ <;> cases k
theorem ok_oneI {f : Addr} {fd : FuncData} (F : Fun K "__init__" "OneToOne.__init__" s_OneToOne_init f fd) (T : Tv K mg CO CR) (D_copied : Df P w K mg base 3 "copied" (spCopT 2)) : FnOk P w K mg base CX0 4 f fd ["self", "leads", "dead"] (spOneI CO) := by
  refine F.ok sc_OneToOne_init (fun vs H Q E h => ?_) (fun cdv A outer s H vs Q E hr h => ?_)
  · obtain ⟨x, dx, a, b, da, db, rfl, _⟩ := h
    rfl
  · obtain ⟨x, dx, a, b, da, db, rfl, hx, ta, a2, tb, b2, q⟩ := h
    refine ⟨_, (pss_cons (ps_fld (pv 0) (pe_c D_copied hr (by decide) (by rfl) (pa_cons (pv 1) pa_nil)) rfl)
      (pss_one (ps_fld (pv 0) (pe_c D_copied hr (by decide) (by rfl) (pa_cons (pv 2) pa_nil)) rfl))), ?_⟩
    refine ⟨_, rfl, a, da, rfl, ta, a2, fun a' H1 s1 ta' => ?_⟩
    have hx1 := s1 _ _ hx
    refine ⟨_, rfl, x, CO, dx, _, rfl, hx1, T.clO, T.nO1, by show 0 < 1000; decide, ?_⟩
    have k1 : ButX x H (upd H1 x (.ins CO dx (putF "leads" a' []))) := fun c o e n => by
      rw [upd_ne n]
      exact s1 _ _ e
    have k2 : ButX x H1 (upd H1 x (.ins CO dx (putF "leads" a' []))) := fun c o e n => by
      rw [upd_ne n]
      exact e
    have hx2 : upd H1 x (.ins CO dx (putF "leads" a' [])) x = some (.ins CO dx (putF "leads" a' [])) := upd_same
    show Ends.nx _ _ (upd H1 x (.ins CO dx (putF "leads" a' [])))
    have ta2 := ta'.butx k2 hx1
    have tb2 := tb.butx k1 hx
    generalize upd H1 x (.ins CO dx (putF "leads" a' [])) = H2 at k1 hx2 ta2 tb2 ⊢
    refine ⟨_, rfl, b, db, rfl, tb2, b2, fun b' H3 s3 tb' => ?_⟩
    have hx3 := s3 _ _ hx2
    refine ⟨_, rfl, x, CO, dx, _, rfl, hx3, T.clO, T.nO2, by show 1 < 1000; decide, ?_⟩
    have k4 : ButX x H3 (upd H3 x (.ins CO dx (fO a' b'))) := fun c o e n => by
      rw [upd_ne n]
      exact e
    exact q a' b' _ (fun c o e n => by
      show upd H3 x _ c = _
      rw [upd_ne n]
      exact s3 _ _ (k1 _ _ e n)) upd_same ((ta2.same s3).butx k4 hx3) (tb'.butx k4 hx3)
theorem ok_mrgI {f : Addr} {fd : FuncData} (F : Fun K "__init__" "Merged.__init__" s_Merged_init f fd) (T : Tv K mg CO CR) (D_copied : Df P w K mg base 2 "copied" spCopyW) : FnOk P w K mg base CX0 4 f fd ["self", "one", "other"] (spMrgI CR) := by
  refine F.ok sc_Merged_init (fun vs H Q E h => ?_) (fun cdv A outer s H vs Q E hr h => ?_)
  · obtain ⟨x, dx, a, b, da, db, rfl, _⟩ := h
    rfl
  · obtain ⟨x, dx, a, b, da, db, rfl, hx, ta, a2, tb, b2, q⟩ := h
    refine ⟨_, (pss_cons (ps_fld (pv 0) (pe_c D_copied hr (by decide) (by rfl) (pa_cons (pv 1) pa_nil)) rfl)
      (pss_one (ps_fld (pv 0) (pe_c D_copied hr (by decide) (by rfl) (pa_cons (pv 2) pa_nil)) rfl))), ?_⟩
    refine ⟨_, rfl, a, da, rfl, ta, a2, fun a' H1 s1 ta' => ?_⟩
    have hx1 := s1 _ _ hx
    refine ⟨_, rfl, x, CR, dx, _, rfl, hx1, T.clR, T.nR1, by show 0 < 1000; decide, ?_⟩
    have k1 : ButX x H (upd H1 x (.ins CR dx (putF "one" a' []))) := fun c o e n => by
      rw [upd_ne n]
      exact s1 _ _ e
    have k2 : ButX x H1 (upd H1 x (.ins CR dx (putF "one" a' []))) := fun c o e n => by
      rw [upd_ne n]
      exact e
    have hx2 : upd H1 x (.ins CR dx (putF "one" a' [])) x = some (.ins CR dx (putF "one" a' [])) := upd_same
    show Ends.nx _ _ (upd H1 x (.ins CR dx (putF "one" a' [])))
    have ta2 := PyW.butx ta' k2 hx1
    have tb2 := PyW.butx b2 k1 hx
    have td2 : Told2 (upd H1 x (.ins CR dx (putF "one" a' []))) b := by
      rcases tb with f | ⟨c, xs, e, h, l, g⟩ | ⟨c, kvs, e, h, l, n, g⟩
      · exact .inl f
      · refine .inr (.inl ⟨c, xs, e, h.imp (fun h => k1 _ _ h ?_) (fun h => k1 _ _ h ?_), l, g⟩)
        · exact ne_of h hx (fun z => nomatch z)
        · exact ne_of h hx (fun z => nomatch z)
      · exact .inr (.inr ⟨c, kvs, e, k1 _ _ h (ne_of h hx (fun z => nomatch z)), l, n, g⟩)
    generalize upd H1 x (.ins CR dx (putF "one" a' [])) = H2 at k1 hx2 ta2 tb2 td2 ⊢
    refine ⟨_, rfl, b, db, rfl, td2, tb2, fun b' H3 s3 tb' => ?_⟩
    have hx3 := s3 _ _ hx2
    refine ⟨_, rfl, x, CR, dx, _, rfl, hx3, T.clR, T.nR2, by show 1 < 1000; decide, ?_⟩
    have k4 : ButX x H3 (upd H3 x (.ins CR dx (fR a' b'))) := fun c o e n => by
      rw [upd_ne n]
      exact e
    exact q a' b' _ (fun c o e n => by
      show upd H3 x _ c = _
      rw [upd_ne n]
      exact s3 _ _ (k1 _ _ e n)) upd_same (PyW.butx (PyW.same s3 ta2) k4 hx3) (PyW.butx tb' k4 hx3)
theorem ok_oneB {f : Addr} {fd : FuncData} (F : Fun K "__bool__" "OneToOne.__bool__" s_OneToOne_bool f fd) : FnOk P w K mg base CX0 1 f fd ["self"] (spTrue true) := by
  refine F.ok sc_OneToOne_bool (fun vs H Q E h => ?_) (fun cdv A outer s H vs Q E hr h => ?_)
  · obtain ⟨x, rfl, _⟩ := h
    rfl
  · obtain ⟨x, rfl, q⟩ := h
    refine ⟨_, (pss_one (ps_ret pe_bl)), ?_⟩
    exact q
theorem ok_mrgB {f : Addr} {fd : FuncData} (F : Fun K "__bool__" "Merged.__bool__" s_Merged_bool f fd) : FnOk P w K mg base CX0 1 f fd ["self"] (spTrue false) := by
  refine F.ok sc_Merged_bool (fun vs H Q E h => ?_) (fun cdv A outer s H vs Q E hr h => ?_)
  · obtain ⟨x, rfl, _⟩ := h
    rfl
  · obtain ⟨x, rfl, q⟩ := h
    refine ⟨_, (pss_one (ps_ret pe_bl)), ?_⟩
    exact q
end
end V8
set_option Elab.async false
set_option linter.all false
set_option maxRecDepth 100000
set_option maxHeartbeats 8000000
set_option pp.maxSteps 900
/-! merging. -/
namespace V8
open PySem PySem.Spec PyProof.Rows L2 MZ
variable {K : PySem.W.Frag} {ω : World}
abbrev s_merging : Stmt := topS 80
theorem sc_merging : FnScope ["misreading", "pairs", "meetings", "unlike", "one", "other"] ["misreading"] (defScope s_merging) := ⟨rfl, rfl, rfl, by decide +kernel, rfl, by decide +kernel, by decide +kernel⟩
def leadsD (P : List Pr) (rs : List (Bool × Wd)) : PyData := .tuple (rs.map fun q => .tuple [.str (sideS q.1), .str (Sx q.2), .str (sideS (leadQ P P q).1), .str (Sx (leadQ P P q).2)])
theorem ls_tv {P : List Pr} {H : Hp} {e : Addr} {rs : List (Bool × Wd)} (h : LsT P P H e rs) : TV H (.ref e) (leadsD P rs) := by
  obtain ⟨vs, h1, h2⟩ := h
  refine .tup h1 ?_
  clear h1
  induction h2 with
  | nil => exact .nil
  | cons r _ ih =>
    obtain ⟨c, rfl, hc⟩ := r
    exact .cons (.tup hc (.cons (.str _) (.cons (.str _) (.cons (.str _) (.cons (.str _) .nil))))) ih
theorem rest_lt {u : Tab} (o : OkU u) {g : Bool} {rs : List (Bool × Wd)} (h : RsIs (pairsT u) (pairsT u) g rs) {q : Bool × Wd} (hq : q ∈ rs) : ∀ c ∈ q.2, isLt c := by
  obtain ⟨h1, _⟩ := h.mem hq
  obtain ⟨w, k⟩ := (runQ_reach (P := pairsT u) (S := pairsT u) 120).2 _ h1
  exact (reach_ok o.ne o.prOk o.prOk k).2
theorem rests_td {u : Tab} (o : OkU u) {g : Bool} {rs : List (Bool × Wd)} (h : RsIs (pairsT u) (pairsT u) g rs) : TD 2 (restsD rs) := by
  refine .inr ⟨_, rfl, ?_, fun e he => ?_⟩
  · rw [List.length_map]
    exact Nat.le_trans (h.len o.fewR) (by decide)
  · obtain ⟨q, hq, rfl⟩ := List.mem_map.mp he
    refine .inr ⟨_, rfl, by show 2 ≤ 200; decide, fun e he => ?_⟩
    rcases List.mem_cons.mp he with rfl | he
    · exact .inr (.inl ⟨_, rfl, side_ok _⟩)
    · rw [List.mem_singleton.mp he]
      exact .inr (.inl ⟨_, rfl, ok_sx (rest_lt o h hq)⟩)
theorem leads_td {u : Tab} (o : OkU u) {rs : List (Bool × Wd)} (h : RsIs (pairsT u) (pairsT u) true rs) (lt : ∀ q ∈ rs, ∀ c ∈ (leadQ (pairsT u) (pairsT u) q).2, isLt c) : TD 2 (leadsD (pairsT u) rs) := by
  refine .inr ⟨_, rfl, ?_, fun e he => ?_⟩
  · rw [List.length_map]
    exact Nat.le_trans (h.len o.fewR) (by decide)
  · obtain ⟨q, hq, rfl⟩ := List.mem_map.mp he
    refine .inr ⟨_, rfl, by show 4 ≤ 200; decide, fun e he => ?_⟩
    rcases List.mem_cons.mp he with rfl | he
    · exact .inr (.inl ⟨_, rfl, side_ok _⟩)
    rcases List.mem_cons.mp he with rfl | he
    · exact .inr (.inl ⟨_, rfl, ok_sx (rest_lt o h hq)⟩)
    rcases List.mem_cons.mp he with rfl | he
    · exact .inr (.inl ⟨_, rfl, side_ok _⟩)
    · rw [List.mem_singleton.mp he]
      exact .inr (.inl ⟨_, rfl, ok_sx (lt q hq)⟩)
/-- what merging answers -/
def VerO (CO CR : Addr) (P : List Pr) (H : Hp) (z : Addr) : Prop :=
  (∃ dx l d rs rs', Alike P P ∧ H z = some (.ins CO dx (fO l d)) ∧ TV H l (leadsD P rs) ∧ TV H d (restsD rs') ∧ RsIs P P true rs ∧ RsIs P P false rs' ∧ TD 2 (leadsD P rs) ∧ TD 2 (restsD rs')) ∨
  ∃ dx w, H z = some (.ins CR dx (fR (.str (Sx w.1)) (.str (Sx w.2)))) ∧ Way P P .start .fin w ∧ w.1 ≠ w.2 ∧ unlikeW P P = some w ∧ LtW w ∧ wlen w ≤ 260
def spMerging (K : PySem.W.Frag) (aS aE aV aD CM CO CR : Addr) : Sp := fun vs H Q _ => ∃ (x : Addr) (u : Tab), vs = [.ref x] ∧ MisAt CM H x u ∧ OkU u ∧ CnH K aS aE aV H ∧ SqT K H aD [.str (sideS true), .str (sideS false)] ∧
  ∀ z H', Same H H' → H z = none → VerO CO CR (pairsT u) H' z → Q (.ref z) H'
section
variable {P : Program} {w : World} {K : PySem.W.Frag} {mg : Str → Option Value} {base : Heap} {aS aE aV aD CM CJ CG CO CR : Addr}
theorem ok_merging {f : Addr} {fd : FuncData} (F : Fun K "merging" "merging" s_merging f fd) (T : Tp K mg CM CJ) (D_check_images : Df P w K mg base 5 "check_images" (spChkL CM)) (D_image_pairs : Df P w K mg base 4 "image_pairs" (spPairs CM)) (D_Meetings : MkC P w K mg base 5 CG "Meetings" (spMee K w aS aE aV CG))
    (D_unlike_meeting : Df P w K mg base 4 "unlike_meeting" (spUnlike K w aS aE aV CG)) (D_leads_of : Df P w K mg base 2 "leads_of" (spLeads K w aD CG)) (D_rests_of : Df P w K mg base 1 "rests_of" (spRests K w aD CG))
    (D_OneToOne : MkC P w K mg base 4 CO "OneToOne" (spOneI CO)) (D_Merged : MkC P w K mg base 4 CR "Merged" (spMrgI CR)) : FnOk P w K mg base CX0 7 f fd ["misreading"] (spMerging K aS aE aV aD CM CO CR) := by
  refine F.ok sc_merging (fun vs H Q E h => ?_) (fun cdv A outer s H vs Q E hr h => ?_)
  · obtain ⟨x, u, rfl, _⟩ := h
    rfl
  · obtain ⟨x, u, rfl, m, ok, cn, hD, q⟩ := h
    refine ⟨_, (pss_cons (ps_expr (pe_c D_check_images hr (by decide) (by rfl) (pa_cons (pv 0) pa_nil)))
      (pss_cons (ps_set (i := 1) sc_merging.nd rfl (.inl rfl) (pe_c D_image_pairs hr (by decide) (by rfl) (pa_cons (pv 0) pa_nil)))
      (pss_cons (ps_set (i := 2) sc_merging.nd rfl (.inl rfl) (pe_mkC D_Meetings hr (by decide) (by rfl) (pa_cons (pv 1) (pa_cons (pv 1) pa_nil))))
      (pss_cons (ps_set (i := 3) sc_merging.nd rfl (.inl rfl) (pe_c D_unlike_meeting hr (by decide) (by rfl) (pa_cons (pv 2) pa_nil)))
      (pss_cons (ps_if (pt_cmpR op_isN (pv 3) pe_non (nomark _))
        (pss_one (ps_ret (pe_mkC D_OneToOne hr (by decide) (by rfl) (pa_cons (pe_c D_leads_of hr (by decide) (by rfl) (pa_cons (pv 2) pa_nil)) (pa_cons (pe_c D_rests_of hr (by decide) (by rfl) (pa_cons (pv 2) (pa_cons pe_bl pa_nil))) pa_nil)))))
        pss_nil)
      (pss_cons (ps_asg (pv 3) (pg_tup (by rfl) (pgs_cons (pg_name (i := 4) sc_merging.nd rfl (.inl rfl)) (pgs_cons (pg_name (i := 5) sc_merging.nd rfl (.inl rfl)) pgs_nil))))
      (pss_one (ps_ret (pe_mkC D_Merged hr (by decide) (by rfl) (pa_cons (pv 4) (pa_cons (pv 5) pa_nil))))))))))), ?_⟩
    refine ⟨_, rfl, x, u, rfl, m, ok, fun H0 s0 => ?_⟩
    refine ⟨_, rfl, x, u, rfl, m.same2 s0, ok, fun a H1 s1 hP => ?_⟩
    have s01 : Same H H1 := fun b o e => s1 _ _ (s0 _ _ e)
    refine ⟨_, rfl, _, rfl, fun g dg ng nd ne => ?_⟩
    have sm := same_mk (C := CG) (o := .own g) ng nd
    refine ⟨g, dg, a, a, pairsT u, pairsT u, rfl, upd_same, hP.same sm, hP.same sm, (cn.same s01).same sm, ok.prOk, ok.prOk, ok.ne, fun Qs L R W H2 k2 me => ⟨rfl, ?_⟩⟩
    have s12 : Same H1 H2 := same_butx sm k2 ng
    have s02 : Same H H2 := fun b o e => s12 _ _ (s01 _ _ e)
    show Ends.nx _ _ H2
    refine ⟨_, rfl, g, pairsT u, pairsT u, Qs, L, R, W, rfl, me, cn.same s02, ok.prOk, ok.prOk, ok.lb, ok.lb, ok.ne, fun ak H3 s3 => ?_, fun e v H3 s3 he hw ne2 l13 eU => ?_⟩
    · refine ⟨_, rfl, rfl, true, rfl, iteT ?_⟩
      have me3 := me.same s3
      have s03 : Same H H3 := fun b o e => s3 _ _ (s02 _ _ e)
      refine ⟨_, rfl, g, pairsT u, pairsT u, Qs, L, R, W, rfl, me3, sq_same hD s03, ok.prOk, ok.prOk, ok.fewR, ak, fun el rs H4 s4 hl isl => ?_⟩
      have me4 := me3.same s4
      have s04 : Same H H4 := fun b o e => s4 _ _ (s03 _ _ e)
      refine ⟨_, rfl, g, false, pairsT u, pairsT u, Qs, L, R, W, rfl, me4, sq_same hD s04, ok.prOk, ok.prOk, ok.fewR, fun ed rs' H5 s5 hd isd => ?_⟩
      have s05 : Same H H5 := fun b o e => s5 _ _ (s04 _ _ e)
      have tl := (ls_tv hl).same s5
      have td := rs_tv hd
      have lt : ∀ q ∈ rs, ∀ c ∈ (leadQ (pairsT u) (pairsT u) q).2, isLt c := fun q0 hq => by
        obtain ⟨h1, h2⟩ := isl.mem hq
        obtain ⟨⟨_, _, _, _, _, _, _, wy, _, _⟩, bf, br, few, eqQ⟩ := me
        rw [← eqQ] at h1
        obtain ⟨_, kw⟩ := wayTo_has wy.2.1 ((br.all _).mpr ((bf.all _).mp h1))
        obtain ⟨v, kv⟩ := livesB_iff.mp h2
        have e1 := ak _ (kw.trans kv)
        obtain ⟨k, e2, _⟩ := lead_back e1 e1
        have e3 : leadQ (pairsT u) (pairsT u) q0 = k := by
          unfold leadQ
          rw [← wy.2.2.2, e2]
          rfl
        rw [e3]
        exact lead_lt (way_lt ok.lb ok.lb kw) e2
      have td1 := leads_td ok isl lt
      have td2 := rests_td ok isd
      refine fun z dz nz ndz nez => ?_
      have sz := same_mk (C := CO) (o := .own z) nz ndz
      refine ⟨z, dz, .ref el, .ref ed, _, _, rfl, upd_same, tl.same sz, td1, td.same sz, td2, fun a' b' H6 k6 hz ta tb => ⟨rfl, ?_⟩⟩
      exact q z H6 (fun b o e => same_butx sz k6 nz _ _ (s05 _ _ e)) (same_none s05 nz) (.inl ⟨dz, a', b', rs, rs', ak, hz, ta, tb, isl, isd, td1, td2⟩)
    · refine ⟨_, rfl, rfl, false, rfl, iteF ?_⟩
      have s03 : Same H H3 := fun b o e => s3 _ _ (s02 _ _ e)
      refine ⟨_, rfl, e, _, rfl, .inl (.inl he), rfl, _, _, rfl, _, _, rfl, rfl, ?_⟩
      refine ⟨_, rfl, _, rfl, fun z dz nz ndz nez => ?_⟩
      have sz := same_mk (C := CR) (o := .own z) nz ndz
      refine ⟨z, dz, .str (Sx v.1), .str (Sx v.2), _, _, rfl, upd_same, .inl (.inl ⟨_, rfl⟩), .str _, .inl (.inl ⟨_, rfl⟩), .str _, fun a' b' H6 k6 hz ta tb => ⟨rfl, ?_⟩⟩
      cases ta
      cases tb
      exact q z H6 (fun b o e => same_butx sz k6 nz _ _ (s03 _ _ e)) (same_none s03 nz) (.inr ⟨dz, v, hz, hw, ne2, eU, way_lt ok.lb ok.lb hw, l13⟩)
end
end V8
set_option Elab.async false
set_option linter.all false
set_option maxRecDepth 100000
set_option maxHeartbeats 4000000
/-! A list of anything == the empty list. -/
namespace L2
open PySem PySem.Spec PyProof.Rows
def rEqNil (K : PySem.W.Frag) : R2 := fun x y H Q => ∃ (a b : Addr) (xs : List V), x = .ref a ∧ y = .ref b ∧ SqL K H a xs ∧ SqL K H b [] ∧ Q (.bl xs.isEmpty) H
theorem op_eqNil {X : Cx} (hu : X.A.units < cLine) : OpR X (compareOp .Eq) (rEqNil X.K) := by
  intro pins s σ H x y v u Q I rx ry h
  obtain ⟨a, b, xs, rfl, rfl, ha, hb, q⟩ := h
  obtain rfl : v = Value.ref a := rx
  obtain rfl : u = Value.ref b := ry
  obtain ⟨its, r1, p1, _⟩ := I.list ha
  obtain ⟨jts, r2, p2, _⟩ := I.list hb
  cases r2
  have l1 : s.heap.IsList a its.toArray := by
    obtain ⟨o, n, e, c, d, f⟩ := p1
    exact ⟨o, e, c, n, by first | exact d | exact f⟩
  have l2 : s.heap.IsList b ([] : List Value).toArray := by
    obtain ⟨o, n, e, c, d, f⟩ := p2
    exact ⟨o, e, c, n, by first | exact d | exact f⟩
  cases its with
  | nil =>
    cases r1
    exact SeqAt.RcAt.lists (e := fun _ => true) l1 l2 rfl hu (fun j h1 _ => absurd h1 (by simp)) _ _ _ _ ⟨.bl true, H, I, rfl, q⟩
  | cons t ts =>
    cases r1
    exact SeqAt.RcAt.lists_lengths l1 l2 (by simp) hu _ _ _ _ ⟨.bl false, H, I, rfl, q⟩
theorem op_eqNilK {X : Cx} {K : PySem.W.Frag} (hK : X.K = K) (hu : X.A.units < cLine) : OpR X (compareOp .Eq) (rEqNil K) := by
  subst hK
  exact op_eqNil hu
end L2
set_option Elab.async false
set_option linter.all false
set_option maxRecDepth 100000
set_option maxHeartbeats 8000000
set_option pp.maxSteps 700
/-! Parts of a list. -/
namespace V8
open PySem PySem.Spec PyProof.Rows L2 MZ SetT SetW
abbrev s__law_parts_right : Stmt := topS 117
abbrev n__law_parts_right : List Str := ["_law_made_here", "_law_found", "_law_pairs", "_law_first", "_law_one", "_law_pair"]
theorem sc__law_parts_right : FnScope ["_law_made_here", "_law_found", "_law_pairs", "_law_first", "_law_one", "_law_pair"] ["_law_made_here", "_law_found"] (defScope s__law_parts_right) := ⟨rfl, rfl, rfl, by decide +kernel, rfl, by decide +kernel, by decide +kernel⟩
/-- bool of what merging answers: Says for one -/
def SaysM (c : Bool) (u : Tab) : Prop := c = false ↔ Bad2 u u
theorem VerO.says {CO CR : Addr} {u : Tab} {H : Hp} {z : Addr} (ne : NeU u) (h : VerO CO CR (pairsT u) H z) : ∃ C dx fs c, H z = some (.ins C dx fs) ∧ SaysM c u ∧ (C = CO ∧ c = true ∨ C = CR ∧ c = false) := by
  rcases h with ⟨dx, l, d, rs, rs', al, h, _⟩ | ⟨dx, w, h, k, n, _⟩
  · exact ⟨CO, dx, _, true, h, ⟨fun e => (nomatch e), fun b => absurd al ((bad2_self ne).mp b)⟩, .inl ⟨rfl, rfl⟩⟩
  · exact ⟨CR, dx, _, false, h, ⟨fun _ => (bad2_self ne).mpr fun al => n (al _ k), fun _ => rfl⟩, .inr ⟨rfl, rfl⟩⟩
theorem ver_bool {CO CR : Addr} {u : Tab} {H : Hp} {z : Addr} {Q : VK} (ne : NeU u) (h : VerO CO CR (pairsT u) H z) (q : ∀ c, SaysM c u → Q (.bl c) H) : rBoolV CO CR [.ref z] H Q := by
  obtain ⟨C, dx, fs, c, hz, s, ⟨rfl, rfl⟩ | ⟨rfl, rfl⟩⟩ := h.says ne
  · exact ⟨.inl ⟨z, dx, fs, rfl, hz, z, rfl, _, rfl, q true s⟩⟩
  · exact ⟨.inr ⟨z, dx, fs, rfl, hz, z, rfl, _, rfl, q false s⟩⟩
theorem ver_tru {CO CR : Addr} {u : Tab} {H : Hp} {z : Addr} {Q : Bool → Hp → Prop} (ne : NeU u) (h : VerO CO CR (pairsT u) H z) (q : ∀ c, SaysM c u → Q c H) : rTruV CO CR (.ref z) H Q := by
  obtain ⟨C, dx, fs, c, hz, s, ⟨rfl, rfl⟩ | ⟨rfl, rfl⟩⟩ := h.says ne
  · exact ⟨.inl ⟨z, dx, fs, rfl, hz, z, rfl, _, rfl, q true s⟩⟩
  · exact ⟨.inr ⟨z, dx, fs, rfl, hz, z, rfl, _, rfl, q false s⟩⟩
/-- lists of two -/
def prsN (ts : List Tab) (n : Nat) : List (List Tab) := (List.range n).flatMap fun i => (ts.drop i).map fun v => [tabI ts i, v]
theorem prs_mem {ts us : List Tab} {n : Nat} : us ∈ prsN ts n ↔ ∃ i < n, ∃ v ∈ ts.drop i, us = [tabI ts i, v] := by
  unfold prsN
  rw [List.mem_flatMap]
  constructor
  · rintro ⟨i, hi, h⟩
    obtain ⟨v, hv, e⟩ := List.mem_map.mp h
    exact ⟨i, List.mem_range.mp hi, v, hv, e.symm⟩
  · rintro ⟨i, hi, v, hv, e⟩
    exact ⟨i, List.mem_range.mpr hi, List.mem_map.mpr ⟨v, hv, e.symm⟩⟩
theorem prs_succ {ts : List Tab} {n : Nat} : prsN ts (n + 1) = prsN ts n ++ (ts.drop n).map fun v => [tabI ts n, v] := by
  unfold prsN
  rw [List.range_succ, List.flatMap_append, List.flatMap_cons, List.flatMap_nil, List.append_nil]
theorem prs_len {ts : List Tab} : ∀ n, (prsN ts n).length ≤ n * ts.length
  | 0 => Nat.zero_le _
  | n + 1 => by
    have := prs_len (ts := ts) n
    rw [prs_succ, List.length_append, List.length_map, List.length_drop, Nat.succ_mul]
    omega
theorem prs_bad {ts : List Tab} : (∃ us ∈ prsN ts ts.length, BadL us) ↔ BadL ts := by
  constructor
  · rintro ⟨us, hu, b⟩
    obtain ⟨i, hi, v, hv, rfl⟩ := prs_mem.mp hu
    refine b.sub fun u hu => ?_
    rcases List.mem_cons.mp hu with rfl | hu
    · exact tabI_mem hi
    · rw [List.mem_singleton.mp hu]
      exact List.mem_of_mem_drop hv
  · rintro ⟨u, hu, v, hv, b⟩
    obtain ⟨i, hi, rfl⟩ := mem_tabI hu
    obtain ⟨j, hj, rfl⟩ := mem_tabI hv
    have key : ∀ i j, i ≤ j → j < ts.length → Bad2 (tabI ts i) (tabI ts j) → ∃ us ∈ prsN ts ts.length, BadL us := fun i j h k b => by
      refine ⟨[tabI ts i, tabI ts j], prs_mem.mpr ⟨i, by omega, tabI ts j, ?_, rfl⟩, _, List.mem_cons_self, _, List.mem_cons_of_mem _ List.mem_cons_self, b⟩
      have e : (ts.drop i)[j - i]? = some (tabI ts j) := by
        rw [List.getElem?_drop, show i + (j - i) = j from by omega, List.getElem?_eq_getElem k]
        unfold tabI
        rw [List.getElem?_eq_getElem k]
        rfl
      exact List.mem_of_getElem? e
    rcases Nat.le_total i j with h | h
    · exact key i j h hj b
    · exact key j i h hi b.symm
/-- a list of misreadings, apart from D -/
def RowD (CM D : Addr) (H : Hp) (v : V) (us : List Tab) : Prop := ∃ b ys, v = .ref b ∧ b ≠ D ∧ H b = some (.lst ys) ∧ MsL CM H ys us
theorem RowD.keep {CM D E : Addr} {H H' : Hp} {v : V} {us : List Tab} (h : RowD CM D H v us) (k : ∀ b o, H b = some o → b ≠ D → H' b = some o) (n : H D ≠ none) (hl : ∃ xs, H D = some (.lst xs)) (ne : ∀ b, H b ≠ none → b ≠ D → b ≠ E) : RowD CM E H' v us := by
  obtain ⟨b, ys, e, nb, hb, m⟩ := h
  refine ⟨b, ys, e, ne b (by rw [hb]; exact fun z => nomatch z) nb, k _ _ hb nb, m.keepL fun c o e n => k c o e fun z => ?_⟩
  obtain ⟨xs, hx⟩ := hl
  rw [z, hx] at e
  cases e
  exact n _ rfl
def RowL (CM : Addr) (H : Hp) (v : V) (us : List Tab) : Prop := ∃ b ys, v = .ref b ∧ H b = some (.lst ys) ∧ MsL CM H ys us
theorem RowL.same {CM : Addr} {H H' : Hp} {v : V} {us : List Tab} (h : RowL CM H v us) (s : Same H H') : RowL CM H' v us := by
  obtain ⟨b, ys, e, hb, m⟩ := h
  exact ⟨b, ys, e, s _ _ hb, m.same s⟩
theorem cutD {xs : List V} {k : Nat} (h : k ≤ xs.length) : cutV xs (some (k : Int)) none = xs.drop k := by
  unfold cutV
  have e : HT.sIx xs.length 0 (some (k : Int)) = min k xs.length := HT.sIx_nat _ _ k
  rw [HT.sIx_none, e, Nat.min_eq_left h, List.take_of_length_le (by rw [List.length_drop]; exact Nat.le_refl _)]
def spParts (K : PySem.W.Frag) (aS aE aV aD CM CS CU : Addr) : Sp := fun vs H Q _ => ∃ (M z : Addr) (xs : List V) (ts : List Tab), vs = [.ref M, .ref z] ∧ H M = some (.lst xs) ∧ MsL CM H xs ts ∧ (∀ u ∈ ts, Okk u) ∧ 1 ≤ ts.length ∧ ts.length ≤ 3 ∧ SndB CS CU ts H z ∧ CnS K aS aE aV aD H ∧ ∀ H', Same H H' → Q (.bl true) H'
section
variable {P : Program} {w : World} {K : PySem.W.Frag} {mg : Str → Option Value} {base : Heap} {aS aE aV aD CM CJ CA CT CS CU CO CR : Addr}
theorem ok_parts {f : Addr} {fd : FuncData} (F : Fun K "_law_parts_right" "_law_parts_right" s__law_parts_right f fd) (T : Tu6 K mg CM CJ CS CU) (D_sound : Df P w K mg base 7 "sound" (spSound K aS aE aV aD CM CA CT CS CU)) (D_boolO : Mf P w K mg base 1 CS "__bool__" (spSays true)) (D_boolR : Mf P w K mg base 1 CU "__bool__" (spSays false)) (D_merging : Df P w K mg base 7 "merging" (spMerging K aS aE aV aD CM CO CR)) (D_boolA : Mf P w K mg base 1 CO "__bool__" (spSays true)) (D_boolB : Mf P w K mg base 1 CR "__bool__" (spSays false)) : FnOk P w K mg base CX0 8 f fd ["_law_made_here", "_law_found"] (spParts K aS aE aV aD CM CS CU) := by
  refine F.ok sc__law_parts_right (fun vs H Q E h => ?_) (fun cdv A outer s H vs Q E hr h => ?_)
  · obtain ⟨M, z, xs, ts, rfl, _⟩ := h
    rfl
  · obtain ⟨M, z, xs, ts, rfl, hM, ms, okk, l1, l3, rz, cd, q⟩ := h
    refine ⟨_, (pss_cons (ps_set (i := 2) sc__law_parts_right.nd rfl (.inl rfl) (pe_lst pa_nil))
      (pss_cons (ps_for PassesOwn.never rfl (pi_range1 (by rfl) T.range (pa_cons (pe_callB (call_len_seqK (K := K) rfl) (by rfl) T.len (by decide +kernel) (pa_cons (pv 0) pa_nil)) pa_nil)) (pg_name (i := 3) sc__law_parts_right.nd rfl (.inr rfl))
        (pss_one (ps_set (i := 2) sc__law_parts_right.nd rfl (.inl rfl) (pe_op op_cat (pv 2) (pe_lc (own := [("_law_one", 4)]) (g := gName 4) (by rfl) sc__law_parts_right.nd (pi_list (pe_slice (sl_listK (K := K) rfl) (pv 0) (po_some (pv 3)) po_none)) (blkOk_by (own := [("_law_one", 4)]) (N := n__law_parts_right) (sc := defScope s__law_parts_right) (by decide +kernel)) (fun _ _ _ _ _ => (pg_name (i := 4) sc__law_parts_right.nd rfl (.inl rfl))) (fun _ _ _ _ _ => pts_nil) (fun _ _ _ _ _ => (pe_lst (pa_cons (pe_ix (ix_listK (K := K) rfl) (pv 0) (pv 3) (fun _ _ => rfl)) (pa_cons (pv 4) pa_nil)))))))))
      (pss_cons (ps_if (pt_cmpR op_ne (pe_callTy (call_boolV D_boolO D_boolR hr (by decide)) (by rfl) T.bool (by decide +kernel) (pa_cons (pv 1) pa_nil)) (pe_cmpR (op_eqNilK (K := K) rfl hr.units0) (pe_lc (own := [("_law_pair", 5)]) (g := gName 5) (by rfl) sc__law_parts_right.nd (pi_list (pv 2)) (blkOk_by (own := [("_law_pair", 5)]) (N := n__law_parts_right) (sc := defScope s__law_parts_right) (by decide +kernel)) (fun _ _ _ _ _ => (pg_name (i := 5) sc__law_parts_right.nd rfl (.inl rfl))) (fun _ _ _ _ _ => (pts_one (pt_not (pt_tru (tru_V D_boolO D_boolR hr (by decide)) (pe_c D_sound hr (by decide) (by rfl) (pa_cons (pv 5) pa_nil)))))) (fun _ _ _ _ _ => (pv 5))) (pe_lst pa_nil) (nomark _)) (nomark _))
        (pss_one (ps_ret pe_bl))
        pss_nil)
      (pss_cons (ps_if (PW.pt (pw_and (pt_cmpR (op_neNilK (K := K) rfl hr.units0) (pe_lc (own := [("_law_one", 4)]) (g := gName 4) (by rfl) sc__law_parts_right.nd (pi_list (pv 0)) (blkOk_by (own := [("_law_one", 4)]) (N := n__law_parts_right) (sc := defScope s__law_parts_right) (by decide +kernel)) (fun _ _ _ _ _ => (pg_name (i := 4) sc__law_parts_right.nd rfl (.inl rfl))) (fun _ _ _ _ _ => (pts_one (pt_not (pt_tru (tru_V D_boolA D_boolB hr (by decide)) (pe_c D_merging hr (by decide) (by rfl) (pa_cons (pv 4) pa_nil)))))) (fun _ _ _ _ _ => (pv 4))) (pe_lst pa_nil) (nomark _)) (pw_and1 (pt_tru (tru_V D_boolO D_boolR hr (by decide)) (pv 1)))))
        (pss_one (ps_ret pe_bl))
        pss_nil)
      (pss_one (ps_ret (pe_cmpR (op_eqNilK (K := K) rfl hr.units0) (pe_lc (own := [("_law_one", 4)]) (g := gName 4) (by rfl) sc__law_parts_right.nd (pi_list (pv 0)) (blkOk_by (own := [("_law_one", 4)]) (N := n__law_parts_right) (sc := defScope s__law_parts_right) (by decide +kernel)) (fun _ _ _ _ _ => (pg_name (i := 4) sc__law_parts_right.nd rfl (.inl rfl))) (fun _ _ _ _ _ => (pts_one (pt_cmpR op_ne (pe_callTy (call_boolV D_boolO D_boolR hr (by decide)) (by rfl) T.bool (by decide +kernel) (pa_cons (pe_c D_sound hr (by decide) (by rfl) (pa_cons (pe_lst (pa_cons (pv 4) pa_nil)) pa_nil)) pa_nil)) (pe_callTy (call_boolV D_boolA D_boolB hr (by decide)) (by rfl) T.bool (by decide +kernel) (pa_cons (pe_c D_merging hr (by decide) (by rfl) (pa_cons (pv 4) pa_nil)) pa_nil)) (nomark _)))) (fun _ _ _ _ _ => (pv 4))) (pe_lst pa_nil) (nomark _)))))))), ?_⟩
    have lx := prd_len ms
    refine ⟨Nat.zero_le _, fun B0 nB0 => ?_⟩
    have s1 := same_put (s := Same.refl H) (o := .lst []) nB0
    have hB0 : upd H B0 (.lst []) B0 = some (.lst []) := upd_same
    generalize upd H B0 (.lst []) = H1 at s1 hB0 ⊢
    refine atNm ?_
    dsimp only [List.set_cons_succ, List.set_cons_zero]
    have hM1 := s1 _ _ hM
    have rz1 := rz.same s1
    have cd1 := cd.same s1
    have ms1 := ms.same s1
    refine ⟨_, rfl, M, xs, rfl, .inl (.of hM1), ?_⟩
    rw [lx]
    refine ⟨_, rfl, by omega, by omega, for_it (walk_range (lo := 0) (n := ts.length)) (fun i σ A => (∃ (B : Addr) (ps : List V) (v3 v4 v5 : Option V), σ = [some (.ref M), some (.ref z), some (.ref B), v3, v4, v5] ∧ A B = some (.lst ps) ∧ Paired (RowL CM A) ps (prsN ts i)) ∧ Same H1 A) ⟨⟨B0, [], none, none, none, rfl, hB0, .nil⟩, Same.refl _⟩ (fun _ _ _ _ _ => trivial) ?_ ?_⟩
    · rintro i y σ A0 A hi ⟨⟨B, ps, v3, v4, v5, rfl, hB, pr⟩, sA⟩ ⟨rfl, rfl⟩
      have hi' : i < ts.length := hi
      have hMA := sA _ _ hM1
      obtain ⟨xi, exi, mi, oi⟩ := ms_at ms1 hi'
      refine ⟨_, rfl, _, rfl, _, rfl, _, rfl, M, xs, rfl, .of hMA, fun C nC => ?_⟩
      rw [Int.zero_add, cutD (by omega)]
      have sC := same_put (s := Same.refl A) (o := .lst (xs.drop i)) nC
      have hC : upd A C (.lst (xs.drop i)) C = some (.lst (xs.drop i)) := upd_same
      generalize upd A C (.lst (xs.drop i)) = A1 at sC hC ⊢
      have hM2 := sC _ _ hMA
      have ms2 := (ms1.same sA).same sC
      refine ⟨C, rfl, ⟨_, .of hC⟩, fun D nD => lc_it (walk_list (K := K) (a := C) (xs := xs.drop i)) (fun j A2 => ∃ p2, A2 D = some (.lst p2) ∧ Paired (RowD CM D A2) p2 (((ts.drop i).take j).map fun v => [tabI ts i, v]) ∧ Same A1 A2) ⟨[], upd_same, .nil, same_put (Same.refl _) nD⟩ ?_ ?_ ?_⟩
      · rintro j A2 hj ⟨_, _, _, s2⟩
        exact .of (s2 _ _ hC)
      · rintro j x A3 A2 hj ⟨p2, hD, pd, s2⟩ ⟨rfl, hy⟩
        rw [List.getElem?_drop] at hy
        obtain ⟨u, hu, xj, rfl, mj, oj⟩ := prd_at ms2 hy
        have hud : (ts.drop i)[j]? = some u := by rw [List.getElem?_drop]; exact hu
        have lp := prd_len pd
        rw [List.length_map, List.length_take, List.length_drop] at lp
        refine ⟨rfl, _, rfl, _, rfl, M, xs, _, .ref xi, rfl, rfl, .of (s2 _ _ hM2), by rw [Int.zero_add]; exact atI_nat exi, _, rfl, by show 2 ≤ sizeLine; decide, fun b nb => ?_⟩
        have s3 := same_put (s := Same.refl A2) (o := .lst [.ref xi, .ref xj]) nb
        have hb : upd A2 b (.lst [.ref xi, .ref xj]) b = some (.lst [.ref xi, .ref xj]) := upd_same
        generalize upd A2 b (.lst [.ref xi, .ref xj]) = A4 at s3 hb ⊢
        have hD4 := s3 _ _ hD
        have bD : b ≠ D := fun e => by rw [e, hD] at nb; cases nb
        have kp : ∀ c o, A4 c = some o → (∀ xs, o ≠ .lst xs) → upd A4 D (.lst (p2 ++ [.ref b])) c = some o := fun c o e n => by
          rw [upd_ne (fun z => by rw [z, hD4] at e; cases e; exact n _ rfl)]
          exact e
        refine ⟨p2, hD4, by rw [sizeLine_eq]; omega, p2 ++ [.ref b], upd_same, ?_, same_over (s2.trans s3) nD⟩
        rw [List.take_add_one, hud, List.map_append]
        refine prd_snoc' (prd_imp pd fun _ _ ⟨b', ys, e, n', h', m⟩ => ⟨b', ys, e, n', by rw [upd_ne n']; exact s3 _ _ h', (m.same s3).keepL kp⟩) ⟨b, _, rfl, bD, by rw [upd_ne bD]; exact hb, MsL.keepL (.cons ⟨xi, rfl, ?_, ?_⟩ (.cons ⟨xj, rfl, mj.same2 (s2.trans s3), oj⟩ .nil)) kp⟩
        · exact (mi.same2 ((sA.trans sC).trans (s2.trans s3)))
        · exact oi
      rintro A2 ⟨p2, hD, pd, s2⟩
      have lp := prd_len pd
      rw [List.length_map, List.length_take, List.length_drop, List.length_drop] at lp
      rw [List.take_of_length_le (by rw [List.length_drop, List.length_drop]; omega)] at pd
      have lq := prd_len pr
      have lq2 := prs_len (ts := ts) i
      have lq3 : i * ts.length ≤ 3 * 3 := Nat.mul_le_mul (by omega) l3
      refine ⟨B, D, ps, p2, rfl, rfl, s2 _ _ (sC _ _ hB), hD, by rw [sizeLine_eq]; omega, fun B2 nB2 => ?_⟩
      refine atNm ?_
      have s5 := same_put (s := Same.refl A2) (o := .lst (ps ++ p2)) nB2
      have s25 : Same A (upd A2 B2 (.lst (ps ++ p2))) := (sC.trans s2).trans s5
      refine ⟨⟨B2, ps ++ p2, _, _, _, rfl, upd_same, ?_⟩, sA.trans s25⟩
      rw [prs_succ]
      exact prd_app (prd_imp pr fun _ _ r => r.same s25) (prd_imp pd fun _ _ ⟨b', ys, e, _, h', m⟩ => ⟨b', ys, e, s5 _ _ h', m.same s5⟩)
    · rintro σ A ⟨⟨B, ps, v3, v4, v5, rfl, hB, pr⟩, sA⟩
      have rzA := rz1.same sA
      have cdA := cd1.same sA
      have lq := prd_len pr
      have lq2 := prs_len (ts := ts) ts.length
      have lq3 : ts.length * ts.length ≤ 3 * 3 := Nat.mul_le_mul l3 l3
      refine ⟨_, rfl, rzA.bool fun c k => ?_⟩
      refine ⟨_, rfl, B, rfl, ⟨_, .of hB⟩, fun X nX => lc_it (walk_list (K := K) (a := B) (xs := ps)) (fun i A2 => ∃ ys, A2 X = some (.lst ys) ∧ ys.length ≤ i ∧ (ys ≠ [] ↔ ∃ us ∈ (prsN ts ts.length).take i, BadL us) ∧ Same A A2) ⟨[], upd_same, Nat.le_refl _, ⟨fun z => absurd rfl z, fun ⟨_, h, _⟩ => nomatch h⟩, same_put (Same.refl _) nX⟩ ?_ ?_ ?_⟩
      · rintro i A2 hi ⟨_, _, _, _, s2⟩
        exact .of (s2 _ _ hB)
      · rintro i x A3 A2 hi ⟨ys, hX, ly, iff, s2⟩ ⟨rfl, hy⟩
        obtain ⟨us, hus, b, ws, rfl, hb, m⟩ := prd_at pr hy
        obtain ⟨i0, hi0, v0, hv0, rfl⟩ := prs_mem.mp (List.mem_of_getElem? hus)
        have ok2 : ∀ u ∈ [tabI ts i0, v0], Okk u := fun u hu => by
          rcases List.mem_cons.mp hu with rfl | hu
          · exact okk _ (tabI_mem hi0)
          · rw [List.mem_singleton.mp hu]
            exact okk _ (List.mem_of_mem_drop hv0)
        refine ⟨rfl, _, rfl, b, true, ws, [tabI ts i0, v0], rfl, s2 _ _ hb, m.same s2, (by show 1 ≤ 2; decide), (by show 2 ≤ 4; decide), few_all ok2, (cdA.same s2).cn, (cdA.same s2).sd, fun z2 A4 s4 nz2 r2 => (snd_b (fun u hu => (ok2 u hu).1) r2).tru fun c2 k2 => ?_⟩
        have hX4 := s4 _ _ hX
        have l9 : i < 10 := by
          have : i < ps.length := hi
          omega
        cases c2 with
        | true =>
          refine iteF ⟨ys, hX4, Nat.le_succ_of_le ly, ?_, s2.trans s4⟩
          rw [iff, List.take_add_one, hus]
          exact ⟨fun ⟨us, h, b⟩ => ⟨us, List.mem_append_left _ h, b⟩, fun ⟨us, h, b⟩ => (List.mem_append.mp h).elim (fun h => ⟨us, h, b⟩) fun h => by
            rw [List.mem_singleton.mp h] at b
            exact absurd (k2.mpr b) (by decide)⟩
        | false =>
          refine iteT ⟨_, rfl, ys, hX4, by rw [sizeLine_eq]; omega, ys ++ [.ref b], upd_same, by rw [List.length_append]; exact Nat.succ_le_succ ly, ?_, same_over (s2.trans s4) nX⟩
          rw [List.take_add_one, hus]
          exact ⟨fun _ => ⟨_, List.mem_append_right _ List.mem_cons_self, k2.mp rfl⟩, fun _ => List.append_ne_nil_of_right_ne_nil _ (List.cons_ne_nil _ _)⟩
      rintro A2 ⟨ys, hX, ly, iff, s2⟩
      rw [lq, List.take_length, prs_bad] at iff
      refine ⟨Nat.zero_le _, fun e5 ne5 => ⟨X, e5, ys, rfl, rfl, .of (by rw [upd_ne (ne_of_none hX ne5)]; exact hX), .of upd_same, rfl, ?_⟩⟩
      have ec : c = ys.isEmpty := by
        cases ys with
        | nil =>
          cases c with
          | true => rfl
          | false => exact absurd (iff.mpr (k.mp rfl)) (fun z => z rfl)
        | cons y r =>
          have : c = false := k.mpr (iff.mp (List.cons_ne_nil _ _))
          rw [this]
          rfl
      rw [← ec, decide_eq_true rfl]
      refine ⟨_, rfl, iteF ?_⟩
      have s5 := same_put (s := s2) (o := .lst []) ne5
      generalize upd A2 e5 (.lst []) = A5 at s5 ⊢
      have s6 := sA.trans s5
      have hM5 := s6 _ _ hM1
      have ms5 := ms1.same s6
      have rz5 := rz1.same s6
      have cd5 := cd1.same s6
      clear iff ec s2 hX ne5 nX rzA cdA pr hB
      refine ⟨_, rfl, M, rfl, ⟨_, .of hM5⟩, fun X nX => lc_it (walk_list (K := K) (a := M) (xs := xs)) (fun i A2 => ∃ ys, A2 X = some (.lst ys) ∧ ys.length ≤ i ∧ (ys ≠ [] → ∃ u ∈ ts, Bad2 u u) ∧ Same A5 A2) ⟨[], upd_same, Nat.le_refl _, fun z => absurd rfl z, same_put (Same.refl _) nX⟩ ?_ ?_ ?_⟩
      · rintro i A2 hi ⟨_, _, _, _, s2⟩
        exact .of (s2 _ _ hM5)
      · rintro i x A3 A2 hi ⟨ys, hX, ly, iff, s2⟩ ⟨rfl, hy⟩
        obtain ⟨u, hu, y, rfl, m, o⟩ := prd_at ms5 hy
        have um := List.mem_of_getElem? hu
        have l9 : i < 10 := by
          have : i < xs.length := hi
          omega
        refine ⟨rfl, _, rfl, y, u, rfl, m.same2 s2, o, (cd5.same s2).cn, (cd5.same s2).sd, fun z2 A4 s4 nz2 r2 => ver_tru o.ne r2 fun c2 k2 => ?_⟩
        have hX4 := s4 _ _ hX
        cases c2 with
        | true => exact iteF ⟨ys, hX4, Nat.le_succ_of_le ly, iff, s2.trans s4⟩
        | false => exact iteT ⟨_, rfl, ys, hX4, by rw [sizeLine_eq]; omega, ys ++ [.ref y], upd_same, by rw [List.length_append]; exact Nat.succ_le_succ ly, fun _ => ⟨u, um, k2.mp rfl⟩, same_over (s2.trans s4) nX⟩
      rintro A2 ⟨ys2, hX, ly2, bad2, s2⟩
      refine ⟨Nat.zero_le _, fun e6 ne6 => ⟨X, e6, ys2, rfl, rfl, .of (by rw [upd_ne (ne_of_none hX ne6)]; exact hX), .of upd_same, _, rfl, ?_⟩⟩
      have s7 := same_put (s := s2) (o := .lst []) ne6
      generalize upd A2 e6 (.lst []) = A7 at s7 ⊢
      have s17 := s6.trans s7
      have hM7 := s7 _ _ hM5
      have ms7 := ms5.same s7
      have cd7 := cd5.same s7
      have rz7 := rz1.same s17
      have q7 : ∀ H', Same A7 H' → Q (.bl true) H' := fun H' s => q H' (s1.trans (s17.trans s))
      clear hX ne6 nX s2 s7 ms5 cd5 rz5 hM5
      cases ys2
      case' nil => refine iteF (iteF ?_)
      case' cons y r =>
        refine iteT ⟨_, rfl, rz7.tru fun c2 k2 => ?_⟩
        obtain ⟨u, hu, b⟩ := bad2 (List.cons_ne_nil _ _)
        obtain rfl : c2 = false := k2.mpr ⟨u, hu, u, hu, b⟩
        refine iteF ?_
      all_goals
        refine ⟨_, rfl, M, rfl, ⟨_, .of hM7⟩, fun X nX => lc_it (walk_list (K := K) (a := M) (xs := xs)) (fun i A2 => A2 X = some (.lst []) ∧ Same A7 A2) ⟨upd_same, same_put (Same.refl _) nX⟩ ?_ ?_ ?_⟩
        · rintro i A2 hi ⟨_, s2⟩
          exact .of (s2 _ _ hM7)
        · rintro i x A3 A2 hi ⟨hX, s2⟩ ⟨rfl, hy⟩
          obtain ⟨u, hu, y, rfl, m, o⟩ := prd_at ms7 hy
          have um := List.mem_of_getElem? hu
          refine ⟨rfl, _, rfl, by show 1 ≤ sizeLine; decide, fun b nb => ?_⟩
          have s3 := same_put (s := s2) (o := .lst [.ref y]) nb
          have hb : upd A2 b (.lst [.ref y]) b = some (.lst [.ref y]) := upd_same
          have hX3 : upd A2 b (.lst [.ref y]) X = some (.lst []) := by rw [upd_ne (ne_of_none hX nb)]; exact hX
          generalize upd A2 b (.lst [.ref y]) = A4 at s3 hb hX3 ⊢
          have ok1 : ∀ a ∈ [u], Okk a := fun a ha => by rw [List.mem_singleton.mp ha]; exact okk u um
          refine ⟨b, true, [.ref y], [u], rfl, hb, .cons ⟨y, rfl, m.same2 s3, o⟩ .nil, Nat.le_refl _, (by show 1 ≤ 4; decide), few_all ok1, (cd7.same s3).cn, (cd7.same s3).sd, fun z2 A5' s5' nz2 r2 => (snd_b (fun u hu => (ok1 u hu).1) r2).bool fun c3 k3 => ?_⟩
          refine ⟨_, rfl, y, u, rfl, (m.same2 s3).same2 s5', o, ((cd7.same s3).same s5').cn, ((cd7.same s3).same s5').sd, fun z3 A6 s6' nz3 r3 => ver_bool o.ne r3 fun c4 k4 => ⟨rfl, ?_⟩⟩
          have e34 : c3 = c4 := Says.eq (us := [u]) (vs := [u]) k3 (Iff.trans k4 badL_one.symm) Iff.rfl
          rw [e34, decide_eq_true rfl]
          exact ⟨_, rfl, iteF ⟨s6' _ _ (s5' _ _ hX3), s3.trans (s5'.trans s6')⟩⟩
        rintro A2 ⟨hX, s2⟩
        refine ⟨Nat.zero_le _, fun e7 ne7 => ⟨X, e7, [], rfl, rfl, .of (by rw [upd_ne (ne_of_none hX ne7)]; exact hX), .of upd_same, ?_⟩⟩
        exact q7 _ (same_put (s := s2) ne7)
end
end V8
set_option Elab.async false
set_option linter.all false
set_option maxRecDepth 100000
set_option maxHeartbeats 4000000
/-! sorted(set(xs)), xs a list of many texts, few of them unlike. -/
namespace L2
open PySem PySem.Spec PyProof.Rows SetT SetW
def tSortSetU (K : PySem.W.Frag) (ta : TE) : TE := fun σ H Q => ta σ H fun x H1 => ∃ (l : Addr) (ys : List Str), x = .ref l ∧ SqL K H1 l (ys.map V.str) ∧ ys.length ≤ 4000 ∧ (uqs ys).length < 64 ∧
  ∀ (us : List Str) (p : Addr), us.Perm (uqs ys) → sortedS us = true → H1 p = none → Q (.ref p) (upd H1 p (.lst (us.map V.str)))
theorem pe_sortSetU {X : Cx} {a : Expr} {ta : TE} {p p2 q pos : Pos} (calm : X.calm = true) (hg : Gl X "sorted") (hm : X.mg "sorted" = none) (hg2 : Gl X "set") (hm2 : X.mg "set" = none) (ha : PE X a ta)
    (na : starEach [a] X.env = (false, eval a X.env) :: starEach [] X.env := by rfl) : PE X (.Call (.Name "sorted" p) [.Call (.Name "set" p2) [a] [] q] [] pos) (tSortSetU X.K ta) := by
  refine ⟨fun pins s σ H Q I h => ?_⟩
  refine Call_ (ld_blt I hg hm (u := .builtin "sorted") (by decide +kernel) ?_)
  refine PyProof.Rows.callWith_builtin1 (PyProof.Rows.args_cons ?_ rfl) rfl rfl
  refine Call_ (ld_blt I hg2 hm2 boot_set ?_)
  refine PyProof.Rows.callWith_type1 (PyProof.Rows.args_cons (thn (ha.run pins s σ H _ I h) fun v s1 ⟨x, H1, I1, r1, q1⟩ => PyProof.Rows.args_nil ?_) na) na rfl
  obtain ⟨l, ys, rfl, sq, many, few, q1⟩ := q1
  obtain rfl : v = Value.ref l := r1
  obtain ⟨its, rv, pl, hz⟩ := I1.list sq
  refine set_textsW (I1.ok.hd calm) pl.isList (ys := ys) (by simpa using strsAre_of rv) many fun g tk set3 keep3 => PyProof.Rows.args_nil ?_
  have I2 : Inv X pins σ H1 { s1 with heap := g, toks := tk } := (I1.kept fun b o e => keep3 b o (Heap.lt_size e) e : Inv X pins σ H1 { s1 with heap := g, toks := tk })
  refine sortedW (z := { s1 with heap := g, toks := tk }) set3 (I2.ok.hd calm) few fun s' p2 out c us k g2 o2 hp hg3 b1 b2 b3 => ?_
  have free : H1 p2 = none := I2.hok.fresh hp
  have len : (us.map V.str).length ≤ sizeLine := by rw [List.length_map, b2.length_eq, sizeLine_eq]; omega
  have J : Inv X pins σ (upd H1 p2 (.lst (us.map V.str))) { ({ s1 with heap := g, toks := tk } : Shared) with heap := s'.heap, gens := s'.gens, drawn := s'.drawn, toks := s'.toks } :=
    I2.call (ch := []) (Un.laid k hp free) (I2.hok.laid k hp ⟨len, out.toList, c, vals_of_strs b1, hg3⟩) (by rw [g2]; exact I2.bare) (fun _ z => nomatch z)
  have e : s' = { ({ s1 with heap := g, toks := tk } : Shared) with heap := s'.heap, gens := s'.gens, drawn := s'.drawn, toks := s'.toks } := by
    cases s'
    cases s1
    cases o2
    rfl
  rw [e]
  exact ⟨.ref p2, _, J, rfl, q1 us p2 b2 b3 free⟩
end L2
set_option Elab.async false
set_option linter.all false
set_option maxRecDepth 100000
set_option maxHeartbeats 16000000
set_option pp.maxSteps 900
/-! The law. -/
namespace V8
open PySem PySem.Spec PyProof.Rows L2 MZ SetT SetW
abbrev s_law : Stmt := topS 118
abbrev n_law : List Str := ["_law_script", "_law_pen_here", "_law_turn", "_law_tables_here", "_law_found", "_law_names", "_law_some", "_law_table_here", "_law_sign", "_law_name", "_law_letter"]
theorem sc_law : FnScope ["_law_script", "_law_pen_here", "_law_turn", "_law_tables_here", "_law_found", "_law_names", "_law_some", "_law_table_here", "_law_sign", "_law_name", "_law_letter"] ["_law_script"] (defScope s_law) := ⟨rfl, rfl, rfl, by decide +kernel, rfl, by decide +kernel, by decide +kernel⟩
def spLaw (aS aE aV aD : Addr) (K : PySem.W.Frag) : Sp := fun vs H Q _ => ∃ (a : Addr) (ns : List Int), vs = [.ref a] ∧ SqL K H a (ns.map V.int) ∧ ns.length ≤ 63 ∧ CnS K aS aE aV aD H ∧ ∀ H', Q (.bl true) H'
/-- names by pairs -/
def nmz (ks ds : List Nat) : Tab := (ks.zip ds).map fun q => (q.1, [q.2])
theorem nmz_keys {ks ds : List Nat} (le : ks.length ≤ ds.length) : (nmz ks ds).map (·.1) = ks := by
  unfold nmz
  rw [List.map_map]
  exact List.map_fst_zip le
theorem nmz_at {ks ds : List Nat} (nk : ks.Nodup) (le : ks.length ≤ ds.length) {i : Nat} (hi : i < ks.length) : lookT (nmz ks ds) ks[i] = some [ds[i]'(by omega)] := by
  refine look_mem (by rw [nmz_keys le]; exact nk) (List.mem_map.mpr ⟨(ks[i], ds[i]'(by omega)), ?_, rfl⟩)
  have e : (ks.zip ds)[i]'(by rw [List.length_zip]; omega) = (ks[i], ds[i]'(by omega)) := List.getElem_zip
  rw [← e]
  exact List.getElem_mem _
theorem nmF_at {ks ds : List Nat} (nk : ks.Nodup) (le : ks.length ≤ ds.length) {i : Nat} (hi : i < ks.length) : nmF (nmz ks ds) ks[i] = ds[i]'(by omega) := by
  unfold nmF
  rw [nmz_at nk le hi]
  rfl
theorem nmz_ok {ks ds : List Nat} (nk : ks.Nodup) (nd : ds.Nodup) (le : ks.length ≤ ds.length) (lt : ∀ d ∈ ds, isLt d) : NmOk ks (nmz ks ds) := by
  refine ⟨fun c hc => ?_, fun c hc => ?_, fun a ha b hb e => ?_⟩
  · obtain ⟨i, hi, rfl⟩ := List.getElem_of_mem hc
    unfold HasNm
    rw [nmF_at nk le hi]
    exact nmz_at nk le hi
  · obtain ⟨i, hi, rfl⟩ := List.getElem_of_mem hc
    rw [nmF_at nk le hi]
    exact lt _ (List.getElem_mem _)
  · obtain ⟨i, hi, rfl⟩ := List.getElem_of_mem ha
    obtain ⟨j, hj, rfl⟩ := List.getElem_of_mem hb
    rw [nmF_at nk le hi, nmF_at nk le hj] at e
    have z : i = j := (List.getElem_inj nd).mp e
    subst z
    rfl
/-- the letters of tables, one by one -/
def sgT (t : Tab) : List Nat := t.flatMap fun q => q.1 :: q.2
def sgL (ts : List Tab) : List Nat := ts.flatMap sgT
theorem sg_len {t : Tab} (g : ∀ q ∈ t, q.2.length ≤ 4) : (sgT t).length ≤ 5 * t.length := by
  unfold sgT
  induction t with
  | nil => exact Nat.zero_le _
  | cons q r ih =>
    have a := g q List.mem_cons_self
    have b := ih fun x hx => g x (List.mem_cons_of_mem _ hx)
    rw [List.flatMap_cons, List.length_append, List.length_cons, List.length_cons]
    omega
theorem sgl_len {n : Nat} : ∀ {ts : List Tab}, (∀ t ∈ ts, (sgT t).length ≤ n) → (sgL ts).length ≤ n * ts.length
  | [], _ => Nat.zero_le _
  | t :: r, h => by
    have a := h t List.mem_cons_self
    have b := sgl_len (ts := r) fun x hx => h x (List.mem_cons_of_mem _ hx)
    unfold sgL at b ⊢
    rw [List.flatMap_cons, List.length_append, List.length_cons, Nat.mul_succ]
    omega
theorem sgl_in {ts : List Tab} : InKs (sgL ts) ts := fun t ht q hq =>
  ⟨List.mem_flatMap.mpr ⟨t, ht, List.mem_flatMap.mpr ⟨q, hq, List.mem_cons_self⟩⟩, fun c hc => List.mem_flatMap.mpr ⟨t, ht, List.mem_flatMap.mpr ⟨q, hq, List.mem_cons_of_mem _ hc⟩⟩⟩
theorem sgl_sub {ts : List Tab} {cs : List Nat} (g : ∀ t ∈ ts, GoodT cs t) : ∀ c ∈ sgL ts, c ∈ cs := fun c hc => by
  obtain ⟨t, ht, h⟩ := List.mem_flatMap.mp hc
  obtain ⟨q, hq, h⟩ := List.mem_flatMap.mp h
  rcases List.mem_cons.mp h with rfl | h
  · exact (g t ht).key q hq
  · exact ((g t ht).img q hq).2.2 c h
theorem sgl_snoc {ts : List Tab} {t : Tab} : sgL (ts ++ [t]) = sgL ts ++ sgT t := by
  unfold sgL
  rw [List.flatMap_append, List.flatMap_cons, List.flatMap_nil, List.append_nil]
structure Tu7 (K : PySem.W.Frag) (mg : Str → Option Value) (CM CJ CS CU : Addr) : Prop extends Tu6 K mg CM CJ CS CU where
  zip : mg "zip" = none
section
variable {P : Program} {w : World} {K : PySem.W.Frag} {mg : Str → Option Value} {base : Heap} {aS aE aV aD CM CJ CA CT CS CU CO CR : Addr}
theorem ok_law {f : Addr} {fd : FuncData} (F : Fun K "law" "law" s_law f fd) (T : Tu7 K mg CM CJ CS CU) (D_pen : Df P w K mg base 1 "_law_pen" (spPen K)) (D_tables : Df P w K mg base 5 "_law_tables" spTables) (D_some_letters : Df P w K mg base 2 "_law_some_letters" spLetters) (D_made : Df P w K mg base 8 "_law_made" (spMade CM)) (D_sound : Df P w K mg base 7 "sound" (spSound K aS aE aV aD CM CA CT CS CU)) (D_others_right : Df P w K mg base 9 "_law_others_right" (spOthers K aS aE aV aD CM CS CU)) (D_names_right : Df P w K mg base 9 "_law_names_right" (spNames K aS aE aV aD CM CS CU)) (D_parts_right : Df P w K mg base 8 "_law_parts_right" (spParts K aS aE aV aD CM CS CU)) : FnOk P w K mg base CX0 10 f fd ["_law_script"] (spLaw aS aE aV aD K) := by
  refine F.ok sc_law (fun vs H Q E h => ?_) (fun cdv A outer s H vs Q E hr h => ?_)
  · obtain ⟨a, ns, rfl, _⟩ := h
    rfl
  · obtain ⟨a, ns, rfl, hS, hn0, cd0, q0⟩ := h
    refine ⟨_, (pss_cons (ps_set (i := 1) sc_law.nd rfl (.inl rfl) (pe_c D_pen hr (by decide) (by rfl) (pa_cons (pv 0) pa_nil)))
      (pss_cons (ps_for PassesOwn.never rfl (pi_range1 (by rfl) T.range (pa_cons pe_int pa_nil)) (pg_name (i := 2) sc_law.nd rfl (.inl rfl))
        (pss_cons (ps_set (i := 3) sc_law.nd rfl (.inl rfl) (pe_c D_tables hr (by decide) (by rfl) (pa_cons (pv 1) (pa_cons pe_int pa_nil))))
        (pss_cons (ps_par3 (i := 4) (j := 5) (l := 6) (by rfl) sc_law.nd rfl rfl rfl (by decide) (by decide) (by decide) rfl rfl rfl (pa_cons (pe_c D_sound hr (by decide) (by rfl) (pa_cons (pe_c D_made hr (by decide) (by rfl) (pa_cons (pv 3) pa_nil)) pa_nil)) (pa_cons pe_dnewK (pa_cons (pe_lst pa_nil) pa_nil))) (by rfl))
        (pss_cons (ps_for PassesOwn.never rfl (pi_list (pv 3)) (pg_name (i := 7) sc_law.nd rfl (.inr rfl))
          (pss_one (ps_set (i := 6) sc_law.nd rfl (.inl rfl) (pe_op op_cat (pv 6) (pe_callTy (call_listS rfl) (by rfl) T.list (by decide +kernel) (pa_cons (pe_joinK (K := K) rfl pe_str (pe_lock (pe_lc (own := [("_law_letter", 10)]) (g := gName 10) (by rfl) sc_law.nd (pi_keys (pv 7)) (blkOk_by (own := [("_law_letter", 10)]) (N := n_law) (sc := defScope s_law) (by decide +kernel)) (fun _ _ _ _ _ => (pg_name (i := 10) sc_law.nd rfl (.inl rfl))) (fun _ _ _ _ _ => pts_nil) (fun _ _ _ _ _ => (pe_op op_add_str (pv 10) (pe_dget (hu_of hr) (pv 7) (pv 10) (fun _ _ => rfl))))))) pa_nil))))))
        (pss_cons (ps_for PassesOwn.never rfl (pi_zip (by rfl) T.zip (pa_cons (pe_sortSetU rfl (by rfl) T.sorted (by rfl) T.set (pe_lc (own := [("_law_sign", 8)]) (g := gName 8) (by rfl) sc_law.nd (pi_list (pv 6)) (blkOk_by (own := [("_law_sign", 8)]) (N := n_law) (sc := defScope s_law) (by decide +kernel)) (fun _ _ _ _ _ => (pg_name (i := 8) sc_law.nd rfl (.inl rfl))) (fun _ _ _ _ _ => pts_nil) (fun _ _ _ _ _ => (pe_callTy call_strS (by rfl) T.str (by decide +kernel) (pa_cons (pv 8) pa_nil))))) (pa_cons (pe_c D_some_letters hr (by decide) (by rfl) (pa_cons (pv 1) (pa_cons pe_int pa_nil))) pa_nil))) (pg_tup (by rfl) (pgs_cons (pg_name (i := 8) sc_law.nd rfl (.inl rfl)) (pgs_cons (pg_name (i := 9) sc_law.nd rfl (.inl rfl)) pgs_nil)))
          (pss_one (ps_dput (hu_of hr) (pv 5) (pv 8) (pv 9) rfl)))
        (pss_cons (ps_if (PW.pt (pw_or (pt_not (pt_val (pe_c D_others_right hr (by decide) (by rfl) (pa_cons (pv 1) (pa_cons (pv 3) (pa_cons (pv 4) pa_nil)))))) (pw_or1 (pt_not (pt_val (pe_c D_names_right hr (by decide) (by rfl) (pa_cons (pv 3) (pa_cons (pv 4) (pa_cons (pv 5) pa_nil)))))))))
          (pss_one (ps_ret pe_bl))
          pss_nil)
        (pss_one (ps_if (pt_not (pt_val (pe_c D_parts_right hr (by decide) (by rfl) (pa_cons (pe_c D_made hr (by decide) (by rfl) (pa_cons (pv 3) pa_nil)) (pa_cons (pv 4) pa_nil)))))
          (pss_one (ps_ret pe_bl))
          pss_nil))))))))
      (pss_one (ps_ret pe_bl)))), ?_⟩
    refine ⟨_, rfl, a, ns, rfl, hS, hn0, fun p l H1 np s1 PA1 => ?_⟩
    have cd1 := cd0.same s1
    clear np s1 cd0 hS
    refine ⟨_, rfl, by decide, by decide, for_it (walk_range (lo := 0) (n := 4)) (fun i σ H2 => (∃ v2 v3 v4 v5 v6 v7 v8 v9 v10 : Option V, σ = [some (.ref a), some (.ref p), v2, v3, v4, v5, v6, v7, v8, v9, v10]) ∧ PenAt H2 p l ns (2100 * (4 - i)) ∧ CnS K aS aE aV aD H2) ⟨⟨none, none, none, none, none, none, none, none, none, rfl⟩, PA1.less (by omega), cd1⟩ (fun _ _ _ _ _ => trivial) ?_ ?_⟩
    rotate_left
    · rintro σ H2 ⟨⟨v2, v3, v4, v5, v6, v7, v8, v9, v10, rfl⟩, PA2, cd2⟩
      exact q0 _
    rintro i0 y σ H2 H2' hi ⟨⟨v2, v3, v4, v5, v6, v7, v8, v9, v10, rfl⟩, PA2, cd2⟩ ⟨rfl, rfl⟩
    have hb : 2100 * (4 - i0) = 2100 * (4 - (i0 + 1)) + 100 + 2000 := by
      have : i0 < 4 := hi
      omega
    rw [hb] at PA2
    generalize 2100 * (4 - (i0 + 1)) = n at PA2 ⊢
    refine ⟨_, rfl, p, l, ns, n + 100, 3, rfl, PA2, by decide, by decide, fun D ds ts cs H3 cne c5 cnd clt hD tb t1 t3 PA3 fr3 nD => ?_⟩
    have cd3 := cd2.fr PA2 fr3
    have lds := prd_len tb
    have Dp : D ≠ p := PA2.nep nD
    have gts : ∀ t ∈ ts, GoodT cs t := fun t ht => by
      obtain ⟨d, _, _, g⟩ := prd_mem_rr tb ht
      exact g
    have tg : TbP Gd5 H3 ds ts := prd_imp tb fun _ _ ⟨h, g⟩ => ⟨h, g.toAbc clt, Nat.le_trans g.len c5⟩
    have okk : ∀ u ∈ ts, Okk u := fun u hu => gd_okk ⟨(gts u hu).toAbc clt, Nat.le_trans (gts u hu).len c5⟩
    clear cd2 fr3 nD PA2 tb
    refine atNm ?_
    dsimp only [List.set_cons_succ, List.set_cons_zero]
    refine ⟨_, rfl, D, ds, ts, rfl, hD, tg, by omega, fun M xs H4 nM s4 hM ms => ?_⟩
    refine ⟨M, true, xs, ts, rfl, hM, ms, t1, by omega, few_all okk, (cd3.same s4).cn, (cd3.same s4).sd, fun z H5 s5 nz rz0 => ?_⟩
    have rz := snd_b (fun u hu => (okk u hu).1) rz0
    have s35 := s4.trans s5
    have PA5 := pen_same PA3 s35
    have cd5 := cd3.same s35
    have tg5 := tg.same s35
    have hD5 := s35 _ _ hD
    clear rz0 nz ms hM nM s4 s5 cd3 PA3 tg hD s35
    refine fun N nN => ⟨Nat.zero_le _, fun S0 nS0 => ⟨_, _, _, rfl, ?_⟩⟩
    dsimp only [List.set_cons_succ, List.set_cons_zero]
    have Np : N ≠ p := PA5.nep nN
    have Nl : N ≠ l := PA5.nel nN
    have s6 := same_put (s := same_put (s := Same.refl H5) (o := .dK []) nN) (o := .lst []) nS0
    have hN6 : upd (upd H5 N (.dK [])) S0 (.lst []) N = some (.dK []) := by
      rw [upd_ne (ne_of_none (show upd H5 N (.dK []) N = _ from upd_same) nS0)]
      exact upd_same
    have hS6 : upd (upd H5 N (.dK [])) S0 (.lst []) S0 = some (.lst []) := upd_same
    generalize upd (upd H5 N (.dK [])) S0 (.lst []) = H6 at s6 hN6 hS6 ⊢
    have hD6 := s6 _ _ hD5
    have tg6 := tg5.same s6
    -- all letters
    refine ⟨_, rfl, D, rfl, ⟨_, .of hD6⟩, for_it (walk_list (K := K) (a := D) (xs := ds.map V.ref)) (fun i σ A => (∃ (S : Addr) (v7 : Option V), σ = [some (.ref a), some (.ref p), some (.int (0 + (i0 : Int))), some (.ref D), some (.ref z), some (.ref N), some (.ref S), v7, v8, v9, v10] ∧ A S = some (.lst (lets (sgL (ts.take i))))) ∧ Same H6 A) ⟨⟨S0, _, rfl, hS6⟩, Same.refl _⟩ ?_ ?_ ?_⟩
    · rintro i σ A hi ⟨_, sA⟩
      exact .of (sA _ _ hD6)
    · rintro i x σ A0 A hi ⟨⟨S, v7, rfl, hS⟩, sA⟩ ⟨rfl, hy⟩
      rw [List.getElem?_map] at hy
      obtain ⟨d, hdd, rfl⟩ := Option.map_eq_some_iff.mp hy
      obtain ⟨t, ht, htd, G⟩ := prd_at tg6 hdd
      have hd := sA _ _ htd
      have tm := List.mem_of_getElem? ht
      have lt : (encT t).length = t.length := encT_len t
      have g5 := G.2
      refine atNm ?_
      dsimp only [List.set_cons_succ, List.set_cons_zero]
      refine ⟨_, rfl, ⟨_, rfl⟩, d, _, hd, True.intro, fun od => ⟨_, rfl, d, od, rfl, .inl ⟨_, upd_same, fun B nB => lc_it (walk_keys (d := d) (o := od) (kvs := encT t)) (fun i A2 => A2 = upd (upd A d (.frz od (.dK (encT t)))) B (.lst (sxV ((t.take i).map fun q => q.1 :: q.2)))) rfl ?_ ?_ ?_⟩⟩⟩
      · rintro i A2 hi rfl
        rw [upd_ne (ne_of_none upd_same nB)]
        exact upd_same
      · rintro i x A2 A3 hi rfl ⟨rfl, k, v, hk, rfl⟩
        obtain ⟨hi', rfl, rfl⟩ := enc_at hk
        have ad : d ≠ B := ne_of_none (show upd A d (.frz od (.dK (encT t))) d = _ from upd_same) nB
        have i4 := (G.1.img _ (List.getElem_mem hi')).2.1
        refine ⟨rfl, _, rfl, _, rfl, _, rfl, d, V.str (Sx t[i].2), rfl, .inl ⟨encT t, Sum.inr (L1 t[i].1), .inr ⟨od, by rw [upd_ne ad]; exact upd_same⟩, rfl, by rw [valV_enc, look_at G.1.nd hi']; rfl⟩, Sx [t[i].1], Sx t[i].2, rfl, rfl, by rw [Sx_len, Sx_len, sizeLine_eq]; show 1 + _ ≤ _; omega, _, upd_same, by rw [sxV_len, List.length_map, List.length_take, sizeLine_eq]; omega, ?_⟩
        rw [Sx_app, upd_upd, List.take_add_one, List.getElem?_eq_getElem hi', List.map_append, sxV_app]
        rfl
      rintro A2 rfl
      rw [lt, List.take_length]
      have ad : d ≠ B := ne_of_none (show upd A d (.frz od (.dK (encT t))) d = _ from upd_same) nB
      have nB2 : A B = none := by
        rw [upd_ne (Ne.symm ad)] at nB
        exact nB
      have eH : upd (upd (upd A d (.frz od (.dK (encT t)))) B (.lst (sxV (t.map fun q => q.1 :: q.2)))) d (.dK (encT t)) = upd A B (.lst (sxV (t.map fun q => q.1 :: q.2))) := by
        funext b
        by_cases h1 : b = d
        · rw [h1, upd_same, upd_ne ad, hd]
        · by_cases h2 : b = B
          · rw [h2, upd_ne (Ne.symm ad), upd_same, upd_same]
          · rw [upd_ne h1, upd_ne h2, upd_ne h1, upd_ne h2]
      refine ⟨by rw [upd_ne ad]; exact upd_same, ?_⟩
      rw [eH]
      have sB := same_put (s := Same.refl A) (o := .lst (sxV (t.map fun q => q.1 :: q.2))) nB2
      have hB : upd A B (.lst (sxV (t.map fun q => q.1 :: q.2))) B = some (.lst (sxV (t.map fun q => q.1 :: q.2))) := upd_same
      generalize upd A B (.lst (sxV (t.map fun q => q.1 :: q.2))) = A2 at sB hB ⊢
      have sgl : (sgT t).length ≤ 25 := Nat.le_trans (sg_len fun q hq => (G.1.img q hq).2.1) (by omega)
      refine ⟨Str.empty, B, (t.map fun q => q.1 :: q.2).map Sx, rfl, rfl, .inl (SqL.of hB), ?_, ?_⟩
      · have hb := sum_le (fun x : Str => x.length) 5 ((t.map fun q => q.1 :: q.2).map Sx) fun y hy => by
          obtain ⟨s3, hs3, rfl⟩ := List.mem_map.mp hy
          obtain ⟨q, hq, rfl⟩ := List.mem_map.mp hs3
          rw [Sx_len, List.length_cons]
          have := (G.1.img q hq).2.1
          omega
        rw [List.length_map, List.length_map] at hb ⊢
        show _ + _ * 0 ≤ _
        omega
      rw [join_Sx, show (t.map fun q => q.1 :: q.2).flatten = sgT t from (List.flatMap_def ..).symm]
      refine ⟨_, rfl, by rw [Sx_len, sizeLine_eq]; omega, fun B2 nB2' => ?_⟩
      have el : (Sx (sgT t)).cps.toList.map (fun c => V.str ⟨#[c]⟩) = lets (sgT t) := rfl
      rw [el]
      have sB2 := same_put (s := sB) (o := .lst (lets (sgT t))) nB2'
      have hB2 : upd A2 B2 (.lst (lets (sgT t))) B2 = some (.lst (lets (sgT t))) := upd_same
      generalize upd A2 B2 (.lst (lets (sgT t))) = A3 at sB2 hB2 ⊢
      have sgi : (sgL (ts.take i)).length ≤ 25 * 3 := Nat.le_trans (sgl_len (n := 25) fun t ht => by
        obtain ⟨d, _, _, g⟩ := prd_mem_rr tg6 (List.mem_of_mem_take ht)
        have g5 := g.2
        exact Nat.le_trans (sg_len fun q hq => (g.1.img q hq).2.1) (by omega)) (Nat.mul_le_mul_left _ (by rw [List.length_take]; omega))
      have sl1 : (lets (sgL (ts.take i))).length = (sgL (ts.take i)).length := List.length_map _
      have sl2 : (lets (sgT t)).length = (sgT t).length := List.length_map _
      refine ⟨S, B2, _, _, rfl, rfl, sB2 _ _ hS, hB2, by rw [sizeLine_eq, sl1, sl2]; omega, fun S2 nS2 => ?_⟩
      refine atNm ?_
      refine ⟨⟨S2, _, rfl, ?_⟩, sA.trans (same_put (s := sB2) nS2)⟩
      rw [upd_same, List.take_add_one, ht, show (some t).toList = [t] from rfl, sgl_snoc]
      unfold lets
      rw [List.map_append]
    · rintro σ A ⟨⟨S, v7, rfl, hS⟩, sA⟩
      rw [List.length_map, lds, List.take_length] at hS
      have sub := sgl_sub gts
      have hN := sA _ _ hN6
      have s5A : Same H5 A := s6.trans sA
      have PAA := pen_same PA5 s5A
      have llen : (sgL ts).length ≤ 75 := Nat.le_trans (sgl_len (n := 25) fun t ht => by
        obtain ⟨d, _, _, g⟩ := prd_mem_rr tg6 ht
        have g5 := g.2
        exact Nat.le_trans (sg_len fun q hq => (g.1.img q hq).2.1) (by omega)) (by omega)
      have ll : (lets (sgL ts)).length = (sgL ts).length := List.length_map _
      refine ⟨_, rfl, S, rfl, ⟨_, .of hS⟩, fun B nB => lc_it (walk_list (K := K) (a := S) (xs := lets (sgL ts))) (fun i A2 => A2 = upd A B (.lst (lets ((sgL ts).take i)))) rfl ?_ ?_ ?_⟩
      · rintro i A2 hi rfl
        exact .of (by rw [upd_ne (ne_of_none hS nB)]; exact hS)
      · rintro i x A2 A3 hi rfl ⟨rfl, hy⟩
        unfold lets at hy
        rw [List.getElem?_map] at hy
        obtain ⟨c, hc, rfl⟩ := Option.map_eq_some_iff.mp hy
        have hi2 : i < (sgL ts).length := (List.getElem?_eq_some_iff.mp hc).1
        refine ⟨rfl, _, rfl, _, rfl, _, upd_same, by unfold lets; rw [List.length_map, List.length_take, sizeLine_eq]; omega, ?_⟩
        rw [upd_upd, List.take_add_one, hc]
        unfold lets
        rw [List.map_append]
        rfl
      rintro A2 rfl
      rw [ll, List.take_length]
      have sB := same_put (s := Same.refl A) (o := .lst (lets (sgL ts))) nB
      have hB : upd A B (.lst (lets (sgL ts))) B = some (.lst (((sgL ts).map L1).map V.str)) := by
        rw [upd_same]
        unfold lets
        rw [List.map_map]
        rfl
      generalize upd A B (.lst (lets (sgL ts))) = A2 at sB hB ⊢
      have uin : ∀ y ∈ uqs ((sgL ts).map L1), y ∈ cs.map L1 := fun y hy => by
        obtain ⟨c, hc, rfl⟩ := List.mem_map.mp (mem_uqs.mp hy)
        exact List.mem_map.mpr ⟨c, sub c hc, rfl⟩
      have ulen : (uqs ((sgL ts).map L1)).length ≤ 5 := by
        have := nd_le (uqs_nd ((sgL ts).map L1)) uin
        rw [List.length_map] at this
        omega
      refine ⟨B, (sgL ts).map L1, rfl, .of hB, by rw [List.length_map]; omega, by omega, fun us Z hu su nZ => ?_⟩
      obtain ⟨ks, rfl, ksub⟩ := un_ltrs (cs := sgL ts) us fun y hy => mem_uqs.mp (hu.mem_iff.mp hy)
      have knd : ks.Nodup := nd_of_map (hu.nodup_iff.mpr (uqs_nd _))
      have k5 : ks.length ≤ 5 := by
        have := hu.length_eq
        rw [List.length_map] at this
        omega
      have kin : ∀ c ∈ sgL ts, c ∈ ks := fun c hc => by
        have := hu.mem_iff.mpr (mem_uqs.mpr (List.mem_map.mpr ⟨c, hc, rfl⟩))
        obtain ⟨d, hd, e⟩ := List.mem_map.mp this
        obtain rfl : d = c := by
          have e2 : Sx [d] = Sx [c] := e
          exact List.head_eq_of_cons_eq (Sx_inj e2)
        exact hd
      have eZ : (ks.map L1).map V.str = lets ks := by
        unfold lets
        rw [List.map_map]
        rfl
      rw [eZ]
      have sZ := same_put (s := sB) (o := .lst (lets ks)) nZ
      have hZ : upd A2 Z (.lst (lets ks)) Z = some (.lst (lets ks)) := upd_same
      generalize upd A2 Z (.lst (lets ks)) = A3 at sZ hZ ⊢
      have Zp : Z ≠ p := fun e => PAA.some' (by
        rw [← e]
        cases hAZ : A Z with
        | none => rfl
        | some o =>
          rw [sB _ _ hAZ] at nZ
          cases nZ)
      have PA3' := pen_same PAA sZ
      refine ⟨_, rfl, p, l, ns, n + 88, 12, rfl, PA3', by decide, fun C ds12 A4 l12 nd12 lt12 PA4 fr4 nC hC => ?_⟩
      have hN4 := fr4 _ _ (sZ _ _ hN) Np
      have hZ4 := fr4 _ _ hZ Zp
      have f54 : Fr p H5 A4 := fun b o e ne => fr4 _ _ (sZ _ _ (s5A _ _ e)) ne
      have lks : (lets ks).length = ks.length := List.length_map _
      have ld : (lets ds12).length = 12 := by
        unfold lets
        rw [List.length_map, l12]
      have le12 : ks.length ≤ ds12.length := by omega
      have lnm : (nmz ks ds12).length = ks.length := by
        have := congrArg List.length (nmz_keys le12)
        rwa [List.length_map] at this
      clear hZ hN sZ sB hB nZ nB PA3' PAA fr4 hS s5A
      refine ⟨Z, C, lets ks, lets ds12, rfl, .of hZ4, .of hC, for_it (walk_zip (K := K) (a := Z) (b := C) (xs := lets ks) (ys := lets ds12) (n := ks.length) (by omega)) (fun i σ A => (∃ v8 v9 : Option V, σ = [some (.ref a), some (.ref p), some (.int (0 + (i0 : Int))), some (.ref D), some (.ref z), some (.ref N), some (.ref S), v7, v8, v9, v10] ∧ A N = some (.dK (encT ((nmz ks ds12).take i))) ∧ A Z = some (.lst (lets ks)) ∧ A C = some (.lst (lets ds12)) ∧ PenAt A p l ns (n + 88)) ∧ Fr p H5 A) ⟨⟨_, _, rfl, hN4, hZ4, hC, PA4⟩, f54⟩ ?_ ?_ ?_⟩
      · rintro i σ A hi ⟨⟨_, _, _, _, hz, hc, _⟩, _⟩
        exact ⟨.of hz, .of hc⟩
      · rintro i x σ A5 A hi ⟨⟨v8, v9, rfl, hN, hZ, hC, PA⟩, f5⟩ ⟨T0, x, y, rfl, nT, rfl, ex, ey⟩
        have hik : i < ks.length := hi
        have hid : i < ds12.length := by omega
        have e1 : x = V.str (L1 ks[i]) := by
          unfold lets at ex
          dsimp only at ex
          rw [List.getElem?_map, List.getElem?_eq_getElem hik] at ex
          cases ex
          rfl
        have e2 : y = V.str (Sx [ds12[i]]) := by
          unfold lets at ey
          dsimp only at ey
          rw [List.getElem?_map, List.getElem?_eq_getElem hid] at ey
          cases ey
          rfl
        subst e1
        subst e2
        have ne : ∀ b o, A5 b = some o → b ≠ T0 := fun b o e => ne_of_none e nT
        have lt : (encT ((nmz ks ds12).take i)).length = ((nmz ks ds12).take i).length := encT_len _
        have hNT : upd A5 T0 (.tup [V.str (L1 ks[i]), V.str (Sx [ds12[i]])]) N = some (.dK (encT ((nmz ks ds12).take i))) := by rw [upd_ne (ne _ _ hN)]; exact hN
        refine ⟨T0, _, rfl, .of upd_same, rfl, _, _, rfl, _, _, rfl, rfl, _, rfl, _, rfl, _, rfl, N, _, rfl, DPut.k (k := Sum.inr (L1 ks[i])) hNT (by rw [lt, List.length_take, sizeLine_eq]; omega), ?_⟩
        have nk : ks[i] ∉ ((nmz ks ds12).take i).map (·.1) := by
          rw [List.map_take, nmz_keys le12]
          intro h
          obtain ⟨j, hj, ej⟩ := List.getElem_of_mem h
          rw [List.length_take] at hj
          rw [List.getElem_take] at ej
          have := (List.getElem_inj knd).mp ej
          omega
        have ea : (nmz ks ds12)[i]? = some (ks[i], [ds12[i]]) := by
          unfold nmz
          rw [List.getElem?_map, List.getElem?_eq_getElem (by rw [List.length_zip]; omega), List.getElem_zip]
          rfl
        rw [putK_enc, putT_new nk]
        have NZ : Z ≠ N := fun e => by rw [e, hN] at hZ; cases hZ
        have NC : C ≠ N := fun e => by rw [e, hN] at hC; cases hC
        have TN : T0 ≠ N := Ne.symm (ne _ _ hN)
        refine ⟨⟨_, _, rfl, ?_, ?_, ?_, (PA.new nT).other Np Nl⟩, ?_⟩
        · rw [upd_same, List.take_add_one, ea]
          rfl
        · rw [upd_ne NZ, upd_ne (ne _ _ hZ)]
          exact hZ
        · rw [upd_ne NC, upd_ne (ne _ _ hC)]
          exact hC
        · intro b o e bp
          have e5 := f5 b o e bp
          rw [upd_ne (ne_of_none e nN), upd_ne (ne _ _ e5)]
          exact e5
      · rintro σ A ⟨⟨v8, v9, rfl, hN, hZ, hC, PA⟩, f5⟩
        rw [List.take_of_length_le (by omega)] at hN
        have k5l := fr_keepL PA5 f5
        have hDA := f5 _ _ hD5 Dp
        have tgA : TbP Gd5 A ds ts := prd_imp tg5 fun _ _ ⟨e, g⟩ => ⟨k5l _ _ e (fun _ z => nomatch z), g⟩
        have rzA := rz.keepL k5l
        have cdA := cd5.fr PA5 f5
        have kc : ∀ t ∈ ts, ∀ q ∈ t, q.1 ∈ cs := fun t ht q hq => (gts t ht).key q hq
        have ik : InKs ks ts := fun t ht q hq => ⟨kin _ (sgl_in t ht q hq).1, fun c hc => kin _ ((sgl_in t ht q hq).2 c hc)⟩
        have no : NmOk ks (nmz ks ds12) := nmz_ok knd nd12 le12 lt12
        clear hZ hC f5 k5l tg6 hD6 tg5 hD5 rz cd5 PA5
        refine ⟨_, rfl, _, rfl, _, rfl, p, l, D, z, ns, n + 87, ds, ts, cs, rfl, PA, hDA, Dp, tgA, t1, t3, rzA, cdA, kc, c5, clt, fun H9 fr9 PA9 => ⟨true, rfl, iteF ?_⟩⟩
        have k9 := fr_keepL PA fr9
        have hD9 := fr9 _ _ hDA Dp
        have tg9 : TbP Gd5 H9 ds ts := prd_imp tgA fun _ _ ⟨e, g⟩ => ⟨k9 _ _ e (fun _ z => nomatch z), g⟩
        have rz9 := rzA.keepL k9
        have cd9 := cdA.fr PA fr9
        have hN9 := fr9 _ _ hN Np
        refine ⟨_, rfl, _, rfl, _, rfl, D, z, N, ds, ts, ks, nmz ks ds12, rfl, hD9, tg9, t1, t3, rz9, cd9, hN9, no, ik, fun H10 s10 => ⟨true, rfl, iteF ?_⟩⟩
        refine ⟨_, rfl, D, ds, ts, rfl, s10 _ _ hD9, tg9.same s10, by omega, fun M2 x2 H11 nM2 s11 hM2 ms2 => ?_⟩
        have s911 := s10.trans s11
        refine ⟨_, rfl, M2, z, x2, ts, rfl, hM2, ms2, okk, t1, t3, rz9.same s911, cd9.same s911, fun H12 s12 => ⟨true, rfl, iteF ?_⟩⟩
        exact ⟨⟨_, _, _, _, _, _, _, _, _, rfl⟩, (pen_same PA9 (s911.trans s12)).less (by omega), cd9.same (s911.trans s12)⟩
end
end V8
set_option Elab.async false
set_option linter.all false
set_option maxRecDepth 100000
set_option maxHeartbeats 8000000
/-! Misreading.same. -/
namespace V8
open PySem PySem.Spec PyProof.Rows L2
section
variable {P : Program} {w : World} {K : PySem.W.Frag} {mg : Str → Option Value} {base : Heap} {CM CJ : Addr}
theorem ok_same {f : Addr} {fd : FuncData} (F : Fun K "same" "Misreading.same" s_Misreading_same f fd) (T : Ty K mg CM CJ) (D_mk : Mkr P w K mg base CM) : FnOk P w K mg base CX0 7 f fd ["letters"] (spSame CM) := by
  refine F.ok sc_Misreading_same (fun vs H Q E h => ?_) (fun cdv A outer s H vs Q E hr h => ?_)
  · obtain ⟨cs, st, rfl, _⟩ := h
    rfl
  · obtain ⟨cs, st, rfl, h12, hlt, hst, hs5, q⟩ := h
    refine ⟨_, (pss_one (ps_ret (pe_mk2 D_mk hr (by decide) (by rfl) (pa_cons pe_dnewK (pa_cons (pv 0) pa_nil))))), ?_⟩
    refine fun d nd => ⟨_, rfl, d, cs, st, [], rfl, upd_same, GoodT.nil, ⟨Nat.le_trans (toldT_good hst hlt GoodT.nil).len h12, by omega⟩, hlt, hst, hs5, fun x H' nx m sm => ?_⟩
    exact q x H' (same_none (s := same_put (s := fun _ _ e => e) nd) nx) m.mis (fun b o e => sm b o (by rw [upd_ne (ne_of_none e nd)]; exact e))
end
end V8
set_option Elab.async false
set_option linter.all false
set_option maxRecDepth 100000
set_option maxHeartbeats 16000000
/-! What the top has left, taken together. -/
namespace V8
open PySem PySem.Spec PyProof.Rows L2 MZ
def spLaw0 (K : PySem.W.Frag) : Sp := fun vs H Q _ => ∃ (a : Addr) (ns : List Int), vs = [.ref a] ∧ SqL K H a (ns.map V.int) ∧ ns.length ≤ 63 ∧ ∀ H', Q (.bl true) H'
theorem sq_known {K : PySem.W.Frag} {a : Addr} {od : Option Addr} {x y : Str} {t u : Tok} {n : Nat} {sl : Array (Option Value)} (h : K.lookup a = some ⟨.type "tuple", od, .seq #[.str x t, .str y u] n, sl⟩) (H : Hp) : SqT K H a [.str x, .str y] :=
  .inr ⟨_, _, _, h, rfl, rfl, by show 2 ≤ sizeLine; decide, .cons ⟨t, rfl⟩ (.cons ⟨u, rfl⟩ .nil)⟩
theorem all_mk {P : Program} {w : World} {K : PySem.W.Frag} {h : Heap} {mg : Str → Option Value} {fa CM CJ CG CS CU CA CT CO CR pS f0 f1 f2 f3 f4 f5 f6 f7 f8 f9 f10 f11 f12 f13 f14 f15 f16 f17 f18 f19 f20 f21 f22 f23 f24 f25 f26 f27 f28 f29 f30 f31 f32 f33 f34 f35 f36 f37 f38 f39 f40 f41 f42 f43 f44 f45 f46 f47 f48 f49 f50 f51 f52 f53 f54 f55 f56 f57 f58 f59 f60 f61 f62 f63 f64 f65 f66 f67 f68 f69 f70 TI tS tE tW tD0 : Addr} {od0 od1 od2 od3 od4 od5 od6 od7 od8 od9 od10 od11 od12 od13 od14 od15 od16 od17 od18 od19 od20 od21 od22 od23 od24 od25 od26 od27 od28 od29 od30 od31 od32 od33 od34 od35 od36 od37 od38 od39 od40 od41 od42 od43 od44 od45 od46 od47 od48 od49 od50 od51 od52 od53 od54 od55 od56 od57 od58 od59 od60 od61 od62 od63 od64 od65 od66 od67 od68 od69 od70 odT odS odE odW odD : Option Addr} {an0 an1 an2 an3 an4 an5 an6 an7 an8 an9 an10 an11 an12 an13 an14 an15 an16 an17 an18 an19 an20 an21 an22 an23 an24 an25 an26 an27 an28 an29 an30 an31 an32 an33 an34 an35 an36 an37 an38 an39 an40 an41 an42 an43 an44 an45 an46 an47 an48 an49 an50 an51 an52 an53 an54 an55 an56 an57 an58 an59 an60 an61 an62 an63 an64 an65 an66 an67 an68 an69 an70 : Option Addr} {sl0 sl1 sl2 sl3 sl4 sl5 sl6 sl7 sl8 sl9 sl10 sl11 sl12 sl13 sl14 sl15 sl16 sl17 sl18 sl19 sl20 sl21 sl22 sl23 sl24 sl25 sl26 sl27 sl28 sl29 sl30 sl31 sl32 sl33 sl34 sl35 sl36 sl37 sl38 sl39 sl40 sl41 sl42 sl43 sl44 sl45 sl46 sl47 sl48 sl49 sl50 sl51 sl52 sl53 sl54 sl55 sl56 sl57 sl58 sl59 sl60 sl61 sl62 sl63 sl64 sl65 sl66 sl67 sl68 sl69 sl70 slT slS slE slW slD : Array (Option Value)} {oc0 kV0 dc0 pm0 cd0 ct0 oc1 kV1 dc1 pm1 cd1 ct1 oc2 kV2 dc2 pm2 cd2 ct2 oc3 kV3 dc3 pm3 cd3 ct3 oc4 kV4 dc4 pm4 cd4 ct4 oc5 kV5 dc5 pm5 cd5 ct5 oc6 kV6 dc6 pm6 cd6 ct6 oc7 kV7 dc7 pm7 cd7 ct7 oc8 kV8 dc8 pm8 cd8 ct8 oc9 kV9 dc9 pm9 cd9 ct9 oc10 kV10 dc10 pm10 cd10 ct10 oc11 kV11 dc11 pm11 cd11 ct11 oc12 kV12 dc12 pm12 cd12 ct12 oc13 kV13 dc13 pm13 cd13 ct13 oc14 kV14 dc14 pm14 cd14 ct14 oc15 kV15 dc15 pm15 cd15 ct15 oc16 kV16 dc16 pm16 cd16 ct16 oc17 kV17 dc17 pm17 cd17 ct17 oc18 kV18 dc18 pm18 cd18 ct18 oc19 kV19 dc19 pm19 cd19 ct19 oc20 kV20 dc20 pm20 cd20 ct20 oc21 kV21 dc21 pm21 cd21 ct21 oc22 kV22 dc22 pm22 cd22 ct22 oc23 kV23 dc23 pm23 cd23 ct23 oc24 kV24 dc24 pm24 cd24 ct24 oc25 kV25 dc25 pm25 cd25 ct25 oc26 kV26 dc26 pm26 cd26 ct26 oc27 kV27 dc27 pm27 cd27 ct27 oc28 kV28 dc28 pm28 cd28 ct28 oc29 kV29 dc29 pm29 cd29 ct29 oc30 kV30 dc30 pm30 cd30 ct30 oc31 kV31 dc31 pm31 cd31 ct31 oc32 kV32 dc32 pm32 cd32 ct32 oc33 kV33 dc33 pm33 cd33 ct33 oc34 kV34 dc34 pm34 cd34 ct34 oc35 kV35 dc35 pm35 cd35 ct35 oc36 kV36 dc36 pm36 cd36 ct36 oc37 kV37 dc37 pm37 cd37 ct37 oc38 kV38 dc38 pm38 cd38 ct38 oc39 kV39 dc39 pm39 cd39 ct39 oc40 kV40 dc40 pm40 cd40 ct40 oc41 kV41 dc41 pm41 cd41 ct41 oc42 kV42 dc42 pm42 cd42 ct42 oc43 kV43 dc43 pm43 cd43 ct43 oc44 kV44 dc44 pm44 cd44 ct44 oc45 kV45 dc45 pm45 cd45 ct45 oc46 kV46 dc46 pm46 cd46 ct46 oc47 kV47 dc47 pm47 cd47 ct47 oc48 kV48 dc48 pm48 cd48 ct48 oc49 kV49 dc49 pm49 cd49 ct49 oc50 kV50 dc50 pm50 cd50 ct50 oc51 kV51 dc51 pm51 cd51 ct51 oc52 kV52 dc52 pm52 cd52 ct52 oc53 kV53 dc53 pm53 cd53 ct53 oc54 kV54 dc54 pm54 cd54 ct54 oc55 kV55 dc55 pm55 cd55 ct55 oc56 kV56 dc56 pm56 cd56 ct56 oc57 kV57 dc57 pm57 cd57 ct57 oc58 kV58 dc58 pm58 cd58 ct58 oc59 kV59 dc59 pm59 cd59 ct59 oc60 kV60 dc60 pm60 cd60 ct60 oc61 kV61 dc61 pm61 cd61 ct61 oc62 kV62 dc62 pm62 cd62 ct62 oc63 kV63 dc63 pm63 cd63 ct63 oc64 kV64 dc64 pm64 cd64 ct64 oc65 kV65 dc65 pm65 cd65 ct65 oc66 kV66 dc66 pm66 cd66 ct66 oc67 kV67 dc67 pm67 cd67 ct67 oc68 kV68 dc68 pm68 cd68 ct68 oc69 kV69 dc69 pm69 cd69 ct69 oc70 kV70 dc70 pm70 cd70 ct70 ocT : Value} {nT nS nE nW nD : Nat} {tkT tk1 tk2 tk3 tk4 tk5 tk6 tk7 taS tbS taE tbE taW tbW taD tbD : Tok} {poI roI : Option Value} {restS : List Value} (X : K.In h) (G : h.Ns mainGlobals mg) (hfa : mg "law" = some (.ref fa))
    (aC : PySem.W.nsIn K mainGlobals "Misreading" = some (some (.ref CM)))
    (aJ : PySem.W.nsIn K mainGlobals "Joined" = some (some (.ref CJ)))
    (aG : PySem.W.nsIn K mainGlobals "Meetings" = some (some (.ref CG)))
    (aS : PySem.W.nsIn K mainGlobals "Sound" = some (some (.ref CS)))
    (aU : PySem.W.nsIn K mainGlobals "Unsound" = some (some (.ref CU)))
    (aA : PySem.W.nsIn K mainGlobals "Alike" = some (some (.ref CA)))
    (aT : PySem.W.nsIn K mainGlobals "Still" = some (some (.ref CT)))
    (aO : PySem.W.nsIn K mainGlobals "OneToOne" = some (some (.ref CO)))
    (aR : PySem.W.nsIn K mainGlobals "Merged" = some (some (.ref CR)))
    (uS : PySem.W.nsIn K mainGlobals "START" = some (some (.ref tS)))
    (vS : K.lookup tS = some ⟨.type "tuple", odS, .seq #[.str "start" taS, .str "" tbS] nS, slS⟩)
    (uE : PySem.W.nsIn K mainGlobals "END" = some (some (.ref tE)))
    (vE : K.lookup tE = some ⟨.type "tuple", odE, .seq #[.str "end" taE, .str "" tbE] nE, slE⟩)
    (uW : PySem.W.nsIn K mainGlobals "EVEN" = some (some (.ref tW)))
    (vW : K.lookup tW = some ⟨.type "tuple", odW, .seq #[.str "one" taW, .str "" tbW] nW, slW⟩)
    (uD : PySem.W.nsIn K mainGlobals "SIDES" = some (some (.ref tD0)))
    (vD : K.lookup tD0 = some ⟨.type "tuple", odD, .seq #[.str "one" taD, .str "two" tbD] nD, slD⟩)
    (a0 : PySem.W.nsIn K mainGlobals "copied" = some (some (.ref f0)))
    (l0 : K.lookup f0 = some ⟨oc0, od0, .func (PySem.W.fnOf "copied" "copied" (defArgs s_copied) (defBody s_copied) (defScope s_copied) .none kV0 dc0 pm0 an0 cd0 ct0), sl0⟩) (c0 : PySem.W.codeIn K cd0 "copied" = true) (k0 : PySem.W.keepIn K (.ref f0) = true)
    (a1 : PySem.W.nsIn K mainGlobals "is_letter" = some (some (.ref f1)))
    (l1 : K.lookup f1 = some ⟨oc1, od1, .func (PySem.W.fnOf "is_letter" "is_letter" (defArgs s_is_letter) (defBody s_is_letter) (defScope s_is_letter) .none kV1 dc1 pm1 an1 cd1 ct1), sl1⟩) (c1 : PySem.W.codeIn K cd1 "is_letter" = true) (k1 : PySem.W.keepIn K (.ref f1) = true)
    (a2 : PySem.W.nsIn K mainGlobals "all_letters" = some (some (.ref f2)))
    (l2 : K.lookup f2 = some ⟨oc2, od2, .func (PySem.W.fnOf "all_letters" "all_letters" (defArgs s_all_letters) (defBody s_all_letters) (defScope s_all_letters) .none kV2 dc2 pm2 an2 cd2 ct2), sl2⟩) (c2 : PySem.W.codeIn K cd2 "all_letters" = true) (k2 : PySem.W.keepIn K (.ref f2) = true)
    (a3 : PySem.W.nsIn K mainGlobals "is_text" = some (some (.ref f3)))
    (l3 : K.lookup f3 = some ⟨oc3, od3, .func (PySem.W.fnOf "is_text" "is_text" (defArgs s_is_text) (defBody s_is_text) (defScope s_is_text) .none kV3 dc3 pm3 an3 cd3 ct3), sl3⟩) (c3 : PySem.W.codeIn K cd3 "is_text" = true) (k3 : PySem.W.keepIn K (.ref f3) = true)
    (a4 : PySem.W.nsIn K mainGlobals "is_image" = some (some (.ref f4)))
    (l4 : K.lookup f4 = some ⟨oc4, od4, .func (PySem.W.fnOf "is_image" "is_image" (defArgs s_is_image) (defBody s_is_image) (defScope s_is_image) .none kV4 dc4 pm4 an4 cd4 ct4), sl4⟩) (c4 : PySem.W.codeIn K cd4 "is_image" = true) (k4 : PySem.W.keepIn K (.ref f4) = true)
    (a5 : PySem.W.nsIn K mainGlobals "told_images" = some (some (.ref f5)))
    (l5 : K.lookup f5 = some ⟨oc5, od5, .func (PySem.W.fnOf "told_images" "told_images" (defArgs s_told_images) (defBody s_told_images) (defScope s_told_images) .none kV5 dc5 pm5 an5 cd5 ct5), sl5⟩) (c5 : PySem.W.codeIn K cd5 "told_images" = true) (k5 : PySem.W.keepIn K (.ref f5) = true)
    (a6 : PySem.W.nsIn K mainGlobals "other_side" = some (some (.ref f6)))
    (l6 : K.lookup f6 = some ⟨oc6, od6, .func (PySem.W.fnOf "other_side" "other_side" (defArgs s_other_side) (defBody s_other_side) (defScope s_other_side) .none kV6 dc6 pm6 an6 cd6 ct6), sl6⟩) (c6 : PySem.W.codeIn K cd6 "other_side" = true) (k6 : PySem.W.keepIn K (.ref f6) = true)
    (a7 : PySem.W.nsIn K mainGlobals "place_behind" = some (some (.ref f7)))
    (l7 : K.lookup f7 = some ⟨oc7, od7, .func (PySem.W.fnOf "place_behind" "place_behind" (defArgs s_place_behind) (defBody s_place_behind) (defScope s_place_behind) .none kV7 dc7 pm7 an7 cd7 ct7), sl7⟩) (c7 : PySem.W.codeIn K cd7 "place_behind" = true) (k7 : PySem.W.keepIn K (.ref f7) = true)
    (a8 : PySem.W.nsIn K mainGlobals "moves_from" = some (some (.ref f8)))
    (l8 : K.lookup f8 = some ⟨oc8, od8, .func (PySem.W.fnOf "moves_from" "moves_from" (defArgs s_moves_from) (defBody s_moves_from) (defScope s_moves_from) .none kV8 dc8 pm8 an8 cd8 ct8), sl8⟩) (c8 : PySem.W.codeIn K cd8 "moves_from" = true) (k8 : PySem.W.keepIn K (.ref f8) = true)
    (a9 : PySem.W.nsIn K mainGlobals "with_label" = some (some (.ref f9)))
    (l9 : K.lookup f9 = some ⟨oc9, od9, .func (PySem.W.fnOf "with_label" "with_label" (defArgs s_with_label) (defBody s_with_label) (defScope s_with_label) .none kV9 dc9 pm9 an9 cd9 ct9), sl9⟩) (c9 : PySem.W.codeIn K cd9 "with_label" = true) (k9 : PySem.W.keepIn K (.ref f9) = true)
    (a10 : PySem.W.nsIn K mainGlobals "lead_of" = some (some (.ref f10)))
    (l10 : K.lookup f10 = some ⟨oc10, od10, .func (PySem.W.fnOf "lead_of" "lead_of" (defArgs s_lead_of) (defBody s_lead_of) (defScope s_lead_of) .none kV10 dc10 pm10 an10 cd10 ct10), sl10⟩) (c10 : PySem.W.codeIn K cd10 "lead_of" = true) (k10 : PySem.W.keepIn K (.ref f10) = true)
    (a11 : PySem.W.nsIn K mainGlobals "all_moves" = some (some (.ref f11)))
    (l11 : K.lookup f11 = some ⟨oc11, od11, .func (PySem.W.fnOf "all_moves" "all_moves" (defArgs s_all_moves) (defBody s_all_moves) (defScope s_all_moves) .none kV11 dc11 pm11 an11 cd11 ct11), sl11⟩) (c11 : PySem.W.codeIn K cd11 "all_moves" = true) (k11 : PySem.W.keepIn K (.ref f11) = true)
    (a12 : PySem.W.nsIn K mainGlobals "all_living" = some (some (.ref f12)))
    (l12 : K.lookup f12 = some ⟨oc12, od12, .func (PySem.W.fnOf "all_living" "all_living" (defArgs s_all_living) (defBody s_all_living) (defScope s_all_living) .none kV12 dc12 pm12 an12 cd12 ct12), sl12⟩) (c12 : PySem.W.codeIn K cd12 "all_living" = true) (k12 : PySem.W.keepIn K (.ref f12) = true)
    (a13 : PySem.W.nsIn K mainGlobals "ways_from" = some (some (.ref f13)))
    (l13 : K.lookup f13 = some ⟨oc13, od13, .func (PySem.W.fnOf "ways_from" "ways_from" (defArgs s_ways_from) (defBody s_ways_from) (defScope s_ways_from) .none kV13 dc13 pm13 an13 cd13 ct13), sl13⟩) (c13 : PySem.W.codeIn K cd13 "ways_from" = true) (k13 : PySem.W.keepIn K (.ref f13) = true)
    (a14 : PySem.W.nsIn K mainGlobals "ended" = some (some (.ref f14)))
    (l14 : K.lookup f14 = some ⟨oc14, od14, .func (PySem.W.fnOf "ended" "ended" (defArgs s_ended) (defBody s_ended) (defScope s_ended) .none kV14 dc14 pm14 an14 cd14 ct14), sl14⟩) (c14 : PySem.W.codeIn K cd14 "ended" = true) (k14 : PySem.W.keepIn K (.ref f14) = true)
    (a15 : PySem.W.nsIn K mainGlobals "unlike_meeting" = some (some (.ref f15)))
    (l15 : K.lookup f15 = some ⟨oc15, od15, .func (PySem.W.fnOf "unlike_meeting" "unlike_meeting" (defArgs s_unlike_meeting) (defBody s_unlike_meeting) (defScope s_unlike_meeting) .none kV15 dc15 pm15 an15 cd15 ct15), sl15⟩) (c15 : PySem.W.codeIn K cd15 "unlike_meeting" = true) (k15 : PySem.W.keepIn K (.ref f15) = true)
    (a16 : PySem.W.nsIn K mainGlobals "meeting_with" = some (some (.ref f16)))
    (l16 : K.lookup f16 = some ⟨oc16, od16, .func (PySem.W.fnOf "meeting_with" "meeting_with" (defArgs s_meeting_with) (defBody s_meeting_with) (defScope s_meeting_with) .none kV16 dc16 pm16 an16 cd16 ct16), sl16⟩) (c16 : PySem.W.codeIn K cd16 "meeting_with" = true) (k16 : PySem.W.keepIn K (.ref f16) = true)
    (a17 : PySem.W.nsIn K mainGlobals "rests_of" = some (some (.ref f17)))
    (l17 : K.lookup f17 = some ⟨oc17, od17, .func (PySem.W.fnOf "rests_of" "rests_of" (defArgs s_rests_of) (defBody s_rests_of) (defScope s_rests_of) .none kV17 dc17 pm17 an17 cd17 ct17), sl17⟩) (c17 : PySem.W.codeIn K cd17 "rests_of" = true) (k17 : PySem.W.keepIn K (.ref f17) = true)
    (a18 : PySem.W.nsIn K mainGlobals "leads_of" = some (some (.ref f18)))
    (l18 : K.lookup f18 = some ⟨oc18, od18, .func (PySem.W.fnOf "leads_of" "leads_of" (defArgs s_leads_of) (defBody s_leads_of) (defScope s_leads_of) .none kV18 dc18 pm18 an18 cd18 ct18), sl18⟩) (c18 : PySem.W.codeIn K cd18 "leads_of" = true) (k18 : PySem.W.keepIn K (.ref f18) = true)
    (a19 : PySem.W.nsIn K mainGlobals "check_misreadings" = some (some (.ref f19)))
    (l19 : K.lookup f19 = some ⟨oc19, od19, .func (PySem.W.fnOf "check_misreadings" "check_misreadings" (defArgs s_check_misreadings) (defBody s_check_misreadings) (defScope s_check_misreadings) .none kV19 dc19 pm19 an19 cd19 ct19), sl19⟩) (c19 : PySem.W.codeIn K cd19 "check_misreadings" = true) (k19 : PySem.W.keepIn K (.ref f19) = true)
    (a20 : PySem.W.nsIn K mainGlobals "check_length" = some (some (.ref f20)))
    (l20 : K.lookup f20 = some ⟨oc20, od20, .func (PySem.W.fnOf "check_length" "check_length" (defArgs s_check_length) (defBody s_check_length) (defScope s_check_length) .none kV20 dc20 pm20 an20 cd20 ct20), sl20⟩) (c20 : PySem.W.codeIn K cd20 "check_length" = true) (k20 : PySem.W.keepIn K (.ref f20) = true)
    (a21 : PySem.W.nsIn K mainGlobals "check_lists" = some (some (.ref f21)))
    (l21 : K.lookup f21 = some ⟨oc21, od21, .func (PySem.W.fnOf "check_lists" "check_lists" (defArgs s_check_lists) (defBody s_check_lists) (defScope s_check_lists) .none kV21 dc21 pm21 an21 cd21 ct21), sl21⟩) (c21 : PySem.W.codeIn K cd21 "check_lists" = true) (k21 : PySem.W.keepIn K (.ref f21) = true)
    (a22 : PySem.W.nsIn K mainGlobals "image_pairs" = some (some (.ref f22)))
    (l22 : K.lookup f22 = some ⟨oc22, od22, .func (PySem.W.fnOf "image_pairs" "image_pairs" (defArgs s_image_pairs) (defBody s_image_pairs) (defScope s_image_pairs) .none kV22 dc22 pm22 an22 cd22 ct22), sl22⟩) (c22 : PySem.W.codeIn K cd22 "image_pairs" = true) (k22 : PySem.W.keepIn K (.ref f22) = true)
    (a23 : PySem.W.nsIn K mainGlobals "index_pairs" = some (some (.ref f23)))
    (l23 : K.lookup f23 = some ⟨oc23, od23, .func (PySem.W.fnOf "index_pairs" "index_pairs" (defArgs s_index_pairs) (defBody s_index_pairs) (defScope s_index_pairs) .none kV23 dc23 pm23 an23 cd23 ct23), sl23⟩) (c23 : PySem.W.codeIn K cd23 "index_pairs" = true) (k23 : PySem.W.keepIn K (.ref f23) = true)
    (a24 : PySem.W.nsIn K mainGlobals "both" = some (some (.ref f24)))
    (l24 : K.lookup f24 = some ⟨oc24, od24, .func (PySem.W.fnOf "both" "both" (defArgs s_both) (defBody s_both) (defScope s_both) .none kV24 dc24 pm24 an24 cd24 ct24), sl24⟩) (c24 : PySem.W.codeIn K cd24 "both" = true) (k24 : PySem.W.keepIn K (.ref f24) = true)
    (a25 : PySem.W.nsIn K mainGlobals "has_one_of" = some (some (.ref f25)))
    (l25 : K.lookup f25 = some ⟨oc25, od25, .func (PySem.W.fnOf "has_one_of" "has_one_of" (defArgs s_has_one_of) (defBody s_has_one_of) (defScope s_has_one_of) .none kV25 dc25 pm25 an25 cd25 ct25), sl25⟩) (c25 : PySem.W.codeIn K cd25 "has_one_of" = true) (k25 : PySem.W.keepIn K (.ref f25) = true)
    (a26 : PySem.W.nsIn K mainGlobals "paper_of" = some (some (.ref f26)))
    (l26 : K.lookup f26 = some ⟨oc26, od26, .func (PySem.W.fnOf "paper_of" "paper_of" (defArgs s_paper_of) (defBody s_paper_of) (defScope s_paper_of) .none kV26 dc26 pm26 an26 cd26 ct26), sl26⟩) (c26 : PySem.W.codeIn K cd26 "paper_of" = true) (k26 : PySem.W.keepIn K (.ref f26) = true)
    (a27 : PySem.W.nsIn K mainGlobals "merging_steps" = some (some (.ref f27)))
    (l27 : K.lookup f27 = some ⟨oc27, od27, .func (PySem.W.fnOf "merging_steps" "merging_steps" (defArgs s_merging_steps) (defBody s_merging_steps) (defScope s_merging_steps) .none kV27 dc27 pm27 an27 cd27 ct27), sl27⟩) (c27 : PySem.W.codeIn K cd27 "merging_steps" = true) (k27 : PySem.W.keepIn K (.ref f27) = true)
    (a28 : PySem.W.nsIn K mainGlobals "sound" = some (some (.ref f28)))
    (l28 : K.lookup f28 = some ⟨oc28, od28, .func (PySem.W.fnOf "sound" "sound" (defArgs s_sound) (defBody s_sound) (defScope s_sound) .none kV28 dc28 pm28 an28 cd28 ct28), sl28⟩) (c28 : PySem.W.codeIn K cd28 "sound" = true) (k28 : PySem.W.keepIn K (.ref f28) = true)
    (a29 : PySem.W.nsIn K mainGlobals "check_misreading" = some (some (.ref f29)))
    (l29 : K.lookup f29 = some ⟨oc29, od29, .func (PySem.W.fnOf "check_misreading" "check_misreading" (defArgs s_check_misreading) (defBody s_check_misreading) (defScope s_check_misreading) .none kV29 dc29 pm29 an29 cd29 ct29), sl29⟩) (c29 : PySem.W.codeIn K cd29 "check_misreading" = true) (k29 : PySem.W.keepIn K (.ref f29) = true)
    (a30 : PySem.W.nsIn K mainGlobals "check_images" = some (some (.ref f30)))
    (l30 : K.lookup f30 = some ⟨oc30, od30, .func (PySem.W.fnOf "check_images" "check_images" (defArgs s_check_images) (defBody s_check_images) (defScope s_check_images) .none kV30 dc30 pm30 an30 cd30 ct30), sl30⟩) (c30 : PySem.W.codeIn K cd30 "check_images" = true) (k30 : PySem.W.keepIn K (.ref f30) = true)
    (a31 : PySem.W.nsIn K mainGlobals "merging" = some (some (.ref f31)))
    (l31 : K.lookup f31 = some ⟨oc31, od31, .func (PySem.W.fnOf "merging" "merging" (defArgs s_merging) (defBody s_merging) (defScope s_merging) .none kV31 dc31 pm31 an31 cd31 ct31), sl31⟩) (c31 : PySem.W.codeIn K cd31 "merging" = true) (k31 : PySem.W.keepIn K (.ref f31) = true)
    (a32 : PySem.W.nsIn K mainGlobals "is_integer" = some (some (.ref f32)))
    (l32 : K.lookup f32 = some ⟨oc32, od32, .func (PySem.W.fnOf "is_integer" "is_integer" (defArgs s_is_integer) (defBody s_is_integer) (defScope s_is_integer) .none kV32 dc32 pm32 an32 cd32 ct32), sl32⟩) (c32 : PySem.W.codeIn K cd32 "is_integer" = true) (k32 : PySem.W.keepIn K (.ref f32) = true)
    (a33 : PySem.W.nsIn K mainGlobals "is_between" = some (some (.ref f33)))
    (l33 : K.lookup f33 = some ⟨oc33, od33, .func (PySem.W.fnOf "is_between" "is_between" (defArgs s_is_between) (defBody s_is_between) (defScope s_is_between) .none kV33 dc33 pm33 an33 cd33 ct33), sl33⟩) (c33 : PySem.W.codeIn K cd33 "is_between" = true) (k33 : PySem.W.keepIn K (.ref f33) = true)
    (a34 : PySem.W.nsIn K mainGlobals "is_index" = some (some (.ref f34)))
    (l34 : K.lookup f34 = some ⟨oc34, od34, .func (PySem.W.fnOf "is_index" "is_index" (defArgs s_is_index) (defBody s_is_index) (defScope s_is_index) .none kV34 dc34 pm34 an34 cd34 ct34), sl34⟩) (c34 : PySem.W.codeIn K cd34 "is_index" = true) (k34 : PySem.W.keepIn K (.ref f34) = true)
    (a35 : PySem.W.nsIn K mainGlobals "can_happen" = some (some (.ref f35)))
    (l35 : K.lookup f35 = some ⟨oc35, od35, .func (PySem.W.fnOf "can_happen" "can_happen" (defArgs s_can_happen) (defBody s_can_happen) (defScope s_can_happen) .none kV35 dc35 pm35 an35 cd35 ct35), sl35⟩) (c35 : PySem.W.codeIn K cd35 "can_happen" = true) (k35 : PySem.W.keepIn K (.ref f35) = true)
    (a36 : PySem.W.nsIn K mainGlobals "right_unsound" = some (some (.ref f36)))
    (l36 : K.lookup f36 = some ⟨oc36, od36, .func (PySem.W.fnOf "right_unsound" "right_unsound" (defArgs s_right_unsound) (defBody s_right_unsound) (defScope s_right_unsound) .none kV36 dc36 pm36 an36 cd36 ct36), sl36⟩) (c36 : PySem.W.codeIn K cd36 "right_unsound" = true) (k36 : PySem.W.keepIn K (.ref f36) = true)
    (a37 : PySem.W.nsIn K mainGlobals "shows_sound" = some (some (.ref f37)))
    (l37 : K.lookup f37 = some ⟨oc37, od37, .func (PySem.W.fnOf "shows_sound" "shows_sound" (defArgs s_shows_sound) (defBody s_shows_sound) (defScope s_shows_sound) .none kV37 dc37 pm37 an37 cd37 ct37), sl37⟩) (c37 : PySem.W.codeIn K cd37 "shows_sound" = true) (k37 : PySem.W.keepIn K (.ref f37) = true)
    (a38 : PySem.W.nsIn K mainGlobals "_law_pen" = some (some (.ref f38)))
    (l38 : K.lookup f38 = some ⟨oc38, od38, .func (PySem.W.fnOf "_law_pen" "_law_pen" (defArgs s_pen) (defBody s_pen) (defScope s_pen) .none kV38 dc38 pm38 an38 cd38 ct38), sl38⟩) (c38 : PySem.W.codeIn K cd38 "_law_pen" = true) (k38 : PySem.W.keepIn K (.ref f38) = true)
    (a39 : PySem.W.nsIn K mainGlobals "_law_draw" = some (some (.ref f39)))
    (l39 : K.lookup f39 = some ⟨oc39, od39, .func (PySem.W.fnOf "_law_draw" "_law_draw" (defArgs s_draw) (defBody s_draw) (defScope s_draw) .none kV39 dc39 pm39 an39 cd39 ct39), sl39⟩) (c39 : PySem.W.codeIn K cd39 "_law_draw" = true) (k39 : PySem.W.keepIn K (.ref f39) = true)
    (a40 : PySem.W.nsIn K mainGlobals "_law_pick" = some (some (.ref f40)))
    (l40 : K.lookup f40 = some ⟨oc40, od40, .func (PySem.W.fnOf "_law_pick" "_law_pick" (defArgs s_pick) (defBody s_pick) (defScope s_pick) .none kV40 dc40 pm40 an40 cd40 ct40), sl40⟩) (c40 : PySem.W.codeIn K cd40 "_law_pick" = true) (k40 : PySem.W.keepIn K (.ref f40) = true)
    (a41 : PySem.W.nsIn K mainGlobals "_law_some_letters" = some (some (.ref f41)))
    (l41 : K.lookup f41 = some ⟨oc41, od41, .func (PySem.W.fnOf "_law_some_letters" "_law_some_letters" (defArgs s_some_letters) (defBody s_some_letters) (defScope s_some_letters) .none kV41 dc41 pm41 an41 cd41 ct41), sl41⟩) (c41 : PySem.W.codeIn K cd41 "_law_some_letters" = true) (k41 : PySem.W.keepIn K (.ref f41) = true)
    (a42 : PySem.W.nsIn K mainGlobals "_law_escaped" = some (some (.ref f42)))
    (l42 : K.lookup f42 = some ⟨oc42, od42, .func (PySem.W.fnOf "_law_escaped" "_law_escaped" (defArgs s_escaped) (defBody s_escaped) (defScope s_escaped) .none kV42 dc42 pm42 an42 cd42 ct42), sl42⟩) (c42 : PySem.W.codeIn K cd42 "_law_escaped" = true) (k42 : PySem.W.keepIn K (.ref f42) = true)
    (a43 : PySem.W.nsIn K mainGlobals "_law_any_image" = some (some (.ref f43)))
    (l43 : K.lookup f43 = some ⟨oc43, od43, .func (PySem.W.fnOf "_law_any_image" "_law_any_image" (defArgs s_any_image) (defBody s_any_image) (defScope s_any_image) .none kV43 dc43 pm43 an43 cd43 ct43), sl43⟩) (c43 : PySem.W.codeIn K cd43 "_law_any_image" = true) (k43 : PySem.W.keepIn K (.ref f43) = true)
    (a44 : PySem.W.nsIn K mainGlobals "_law_table" = some (some (.ref f44)))
    (l44 : K.lookup f44 = some ⟨oc44, od44, .func (PySem.W.fnOf "_law_table" "_law_table" (defArgs s_table) (defBody s_table) (defScope s_table) .none kV44 dc44 pm44 an44 cd44 ct44), sl44⟩) (c44 : PySem.W.codeIn K cd44 "_law_table" = true) (k44 : PySem.W.keepIn K (.ref f44) = true)
    (a45 : PySem.W.nsIn K mainGlobals "_law_near" = some (some (.ref f45)))
    (l45 : K.lookup f45 = some ⟨oc45, od45, .func (PySem.W.fnOf "_law_near" "_law_near" (defArgs s__law_near) (defBody s__law_near) (defScope s__law_near) .none kV45 dc45 pm45 an45 cd45 ct45), sl45⟩) (c45 : PySem.W.codeIn K cd45 "_law_near" = true) (k45 : PySem.W.keepIn K (.ref f45) = true)
    (a46 : PySem.W.nsIn K mainGlobals "_law_tables" = some (some (.ref f46)))
    (l46 : K.lookup f46 = some ⟨oc46, od46, .func (PySem.W.fnOf "_law_tables" "_law_tables" (defArgs s__law_tables) (defBody s__law_tables) (defScope s__law_tables) .none kV46 dc46 pm46 an46 cd46 ct46), sl46⟩) (c46 : PySem.W.codeIn K cd46 "_law_tables" = true) (k46 : PySem.W.keepIn K (.ref f46) = true)
    (a47 : PySem.W.nsIn K mainGlobals "_law_made" = some (some (.ref f47)))
    (l47 : K.lookup f47 = some ⟨oc47, od47, .func (PySem.W.fnOf "_law_made" "_law_made" (defArgs s__law_made) (defBody s__law_made) (defScope s__law_made) .none kV47 dc47 pm47 an47 cd47 ct47), sl47⟩) (c47 : PySem.W.codeIn K cd47 "_law_made" = true) (k47 : PySem.W.keepIn K (.ref f47) = true)
    (a48 : PySem.W.nsIn K mainGlobals "_law_back" = some (some (.ref f48)))
    (l48 : K.lookup f48 = some ⟨oc48, od48, .func (PySem.W.fnOf "_law_back" "_law_back" (defArgs s__law_back) (defBody s__law_back) (defScope s__law_back) .none kV48 dc48 pm48 an48 cd48 ct48), sl48⟩) (c48 : PySem.W.codeIn K cd48 "_law_back" = true) (k48 : PySem.W.keepIn K (.ref f48) = true)
    (a49 : PySem.W.nsIn K mainGlobals "_law_named" = some (some (.ref f49)))
    (l49 : K.lookup f49 = some ⟨oc49, od49, .func (PySem.W.fnOf "_law_named" "_law_named" (defArgs s__law_named) (defBody s__law_named) (defScope s__law_named) .none kV49 dc49 pm49 an49 cd49 ct49), sl49⟩) (c49 : PySem.W.codeIn K cd49 "_law_named" = true) (k49 : PySem.W.keepIn K (.ref f49) = true)
    (a50 : PySem.W.nsIn K mainGlobals "_law_others_right" = some (some (.ref f50)))
    (l50 : K.lookup f50 = some ⟨oc50, od50, .func (PySem.W.fnOf "_law_others_right" "_law_others_right" (defArgs s__law_others_right) (defBody s__law_others_right) (defScope s__law_others_right) .none kV50 dc50 pm50 an50 cd50 ct50), sl50⟩) (c50 : PySem.W.codeIn K cd50 "_law_others_right" = true) (k50 : PySem.W.keepIn K (.ref f50) = true)
    (a51 : PySem.W.nsIn K mainGlobals "_law_names_right" = some (some (.ref f51)))
    (l51 : K.lookup f51 = some ⟨oc51, od51, .func (PySem.W.fnOf "_law_names_right" "_law_names_right" (defArgs s__law_names_right) (defBody s__law_names_right) (defScope s__law_names_right) .none kV51 dc51 pm51 an51 cd51 ct51), sl51⟩) (c51 : PySem.W.codeIn K cd51 "_law_names_right" = true) (k51 : PySem.W.keepIn K (.ref f51) = true)
    (a52 : PySem.W.nsIn K mainGlobals "_law_parts_right" = some (some (.ref f52)))
    (l52 : K.lookup f52 = some ⟨oc52, od52, .func (PySem.W.fnOf "_law_parts_right" "_law_parts_right" (defArgs s__law_parts_right) (defBody s__law_parts_right) (defScope s__law_parts_right) .none kV52 dc52 pm52 an52 cd52 ct52), sl52⟩) (c52 : PySem.W.codeIn K cd52 "_law_parts_right" = true) (k52 : PySem.W.keepIn K (.ref f52) = true)
    (a53 : PySem.W.nsIn K mainGlobals "law" = some (some (.ref f53)))
    (l53 : K.lookup f53 = some ⟨oc53, od53, .func (PySem.W.fnOf "law" "law" (defArgs s_law) (defBody s_law) (defScope s_law) .none kV53 dc53 pm53 an53 cd53 ct53), sl53⟩) (c53 : PySem.W.codeIn K cd53 "law" = true) (k53 : PySem.W.keepIn K (.ref f53) = true)
    (a54 : PySem.W.findIn K (.ref CM) "first_barred" = some (some (.ref f54)))
    (i54 : PySem.W.isFn K (.ref f54) = true)
    (l54 : K.lookup f54 = some ⟨oc54, od54, .func (PySem.W.fnOf "first_barred" "Misreading.first_barred" (defArgs s_Misreading_first_barred) (defBody s_Misreading_first_barred) (defScope s_Misreading_first_barred) .none kV54 dc54 pm54 an54 cd54 ct54), sl54⟩) (c54 : PySem.W.codeIn K cd54 "Misreading.first_barred" = true) (k54 : PySem.W.keepIn K (.ref f54) = true)
    (n54 : PySem.W.fnIn K f54 = true)
    (a55 : PySem.W.findIn K (.ref CM) "image" = some (some (.ref f55)))
    (i55 : PySem.W.isFn K (.ref f55) = true)
    (l55 : K.lookup f55 = some ⟨oc55, od55, .func (PySem.W.fnOf "image" "Misreading.image" (defArgs s_Misreading_image) (defBody s_Misreading_image) (defScope s_Misreading_image) .none kV55 dc55 pm55 an55 cd55 ct55), sl55⟩) (c55 : PySem.W.codeIn K cd55 "Misreading.image" = true) (k55 : PySem.W.keepIn K (.ref f55) = true)
    (n55 : PySem.W.fnIn K f55 = true)
    (a56 : PySem.W.findIn K (.ref CM) "__getitem__" = some (some (.ref f56)))
    (i56 : PySem.W.isFn K (.ref f56) = true)
    (l56 : K.lookup f56 = some ⟨oc56, od56, .func (PySem.W.fnOf "__getitem__" "Misreading.__getitem__" (defArgs s_Misreading_getitem) (defBody s_Misreading_getitem) (defScope s_Misreading_getitem) .none kV56 dc56 pm56 an56 cd56 ct56), sl56⟩) (c56 : PySem.W.codeIn K cd56 "Misreading.__getitem__" = true) (k56 : PySem.W.keepIn K (.ref f56) = true)
    (n56 : PySem.W.fnIn K f56 = true)
    (a57 : PySem.W.findIn K (.ref CM) "__iter__" = some (some (.ref f57)))
    (i57 : PySem.W.isFn K (.ref f57) = true)
    (l57 : K.lookup f57 = some ⟨oc57, od57, .func (PySem.W.fnOf "__iter__" "Misreading.__iter__" (defArgs s_Misreading_iter) (defBody s_Misreading_iter) (defScope s_Misreading_iter) .none kV57 dc57 pm57 an57 cd57 ct57), sl57⟩) (c57 : PySem.W.codeIn K cd57 "Misreading.__iter__" = true) (k57 : PySem.W.keepIn K (.ref f57) = true)
    (n57 : PySem.W.fnIn K f57 = true)
    (a58 : PySem.W.findIn K (.ref CS) "__init__" = some (some (.ref f58)))
    (i58 : PySem.W.isFn K (.ref f58) = true)
    (l58 : K.lookup f58 = some ⟨oc58, od58, .func (PySem.W.fnOf "__init__" "Sound.__init__" (defArgs s_Sound_init) (defBody s_Sound_init) (defScope s_Sound_init) .none kV58 dc58 pm58 an58 cd58 ct58), sl58⟩) (c58 : PySem.W.codeIn K cd58 "Sound.__init__" = true) (k58 : PySem.W.keepIn K (.ref f58) = true)
    (a59 : PySem.W.findIn K (.ref CS) "__bool__" = some (some (.ref f59)))
    (i59 : PySem.W.isFn K (.ref f59) = true)
    (l59 : K.lookup f59 = some ⟨oc59, od59, .func (PySem.W.fnOf "__bool__" "Sound.__bool__" (defArgs s_Sound_bool) (defBody s_Sound_bool) (defScope s_Sound_bool) .none kV59 dc59 pm59 an59 cd59 ct59), sl59⟩) (c59 : PySem.W.codeIn K cd59 "Sound.__bool__" = true) (k59 : PySem.W.keepIn K (.ref f59) = true)
    (n59 : PySem.W.fnIn K f59 = true)
    (a60 : PySem.W.findIn K (.ref CU) "__init__" = some (some (.ref f60)))
    (i60 : PySem.W.isFn K (.ref f60) = true)
    (l60 : K.lookup f60 = some ⟨oc60, od60, .func (PySem.W.fnOf "__init__" "Unsound.__init__" (defArgs s_Unsound_init) (defBody s_Unsound_init) (defScope s_Unsound_init) .none kV60 dc60 pm60 an60 cd60 ct60), sl60⟩) (c60 : PySem.W.codeIn K cd60 "Unsound.__init__" = true) (k60 : PySem.W.keepIn K (.ref f60) = true)
    (a61 : PySem.W.findIn K (.ref CU) "__bool__" = some (some (.ref f61)))
    (i61 : PySem.W.isFn K (.ref f61) = true)
    (l61 : K.lookup f61 = some ⟨oc61, od61, .func (PySem.W.fnOf "__bool__" "Unsound.__bool__" (defArgs s_Unsound_bool) (defBody s_Unsound_bool) (defScope s_Unsound_bool) .none kV61 dc61 pm61 an61 cd61 ct61), sl61⟩) (c61 : PySem.W.codeIn K cd61 "Unsound.__bool__" = true) (k61 : PySem.W.keepIn K (.ref f61) = true)
    (n61 : PySem.W.fnIn K f61 = true)
    (a62 : PySem.W.findIn K (.ref CA) "__init__" = some (some (.ref f62)))
    (i62 : PySem.W.isFn K (.ref f62) = true)
    (l62 : K.lookup f62 = some ⟨oc62, od62, .func (PySem.W.fnOf "__init__" "Alike.__init__" (defArgs s_Alike_init) (defBody s_Alike_init) (defScope s_Alike_init) .none kV62 dc62 pm62 an62 cd62 ct62), sl62⟩) (c62 : PySem.W.codeIn K cd62 "Alike.__init__" = true) (k62 : PySem.W.keepIn K (.ref f62) = true)
    (a63 : PySem.W.findIn K (.ref CT) "__init__" = some (some (.ref f63)))
    (i63 : PySem.W.isFn K (.ref f63) = true)
    (l63 : K.lookup f63 = some ⟨oc63, od63, .func (PySem.W.fnOf "__init__" "Still.__init__" (defArgs s_Still_init) (defBody s_Still_init) (defScope s_Still_init) .none kV63 dc63 pm63 an63 cd63 ct63), sl63⟩) (c63 : PySem.W.codeIn K cd63 "Still.__init__" = true) (k63 : PySem.W.keepIn K (.ref f63) = true)
    (a64 : PySem.W.findIn K (.ref CG) "__init__" = some (some (.ref f64)))
    (i64 : PySem.W.isFn K (.ref f64) = true)
    (l64 : K.lookup f64 = some ⟨oc64, od64, .func (PySem.W.fnOf "__init__" "Meetings.__init__" (defArgs s_Meetings_init) (defBody s_Meetings_init) (defScope s_Meetings_init) .none kV64 dc64 pm64 an64 cd64 ct64), sl64⟩) (c64 : PySem.W.codeIn K cd64 "Meetings.__init__" = true) (k64 : PySem.W.keepIn K (.ref f64) = true)
    (a65 : PySem.W.findIn K (.ref CO) "__init__" = some (some (.ref f65)))
    (i65 : PySem.W.isFn K (.ref f65) = true)
    (l65 : K.lookup f65 = some ⟨oc65, od65, .func (PySem.W.fnOf "__init__" "OneToOne.__init__" (defArgs s_OneToOne_init) (defBody s_OneToOne_init) (defScope s_OneToOne_init) .none kV65 dc65 pm65 an65 cd65 ct65), sl65⟩) (c65 : PySem.W.codeIn K cd65 "OneToOne.__init__" = true) (k65 : PySem.W.keepIn K (.ref f65) = true)
    (a66 : PySem.W.findIn K (.ref CO) "__bool__" = some (some (.ref f66)))
    (i66 : PySem.W.isFn K (.ref f66) = true)
    (l66 : K.lookup f66 = some ⟨oc66, od66, .func (PySem.W.fnOf "__bool__" "OneToOne.__bool__" (defArgs s_OneToOne_bool) (defBody s_OneToOne_bool) (defScope s_OneToOne_bool) .none kV66 dc66 pm66 an66 cd66 ct66), sl66⟩) (c66 : PySem.W.codeIn K cd66 "OneToOne.__bool__" = true) (k66 : PySem.W.keepIn K (.ref f66) = true)
    (n66 : PySem.W.fnIn K f66 = true)
    (a67 : PySem.W.findIn K (.ref CR) "__init__" = some (some (.ref f67)))
    (i67 : PySem.W.isFn K (.ref f67) = true)
    (l67 : K.lookup f67 = some ⟨oc67, od67, .func (PySem.W.fnOf "__init__" "Merged.__init__" (defArgs s_Merged_init) (defBody s_Merged_init) (defScope s_Merged_init) .none kV67 dc67 pm67 an67 cd67 ct67), sl67⟩) (c67 : PySem.W.codeIn K cd67 "Merged.__init__" = true) (k67 : PySem.W.keepIn K (.ref f67) = true)
    (a68 : PySem.W.findIn K (.ref CR) "__bool__" = some (some (.ref f68)))
    (i68 : PySem.W.isFn K (.ref f68) = true)
    (l68 : K.lookup f68 = some ⟨oc68, od68, .func (PySem.W.fnOf "__bool__" "Merged.__bool__" (defArgs s_Merged_bool) (defBody s_Merged_bool) (defScope s_Merged_bool) .none kV68 dc68 pm68 an68 cd68 ct68), sl68⟩) (c68 : PySem.W.codeIn K cd68 "Merged.__bool__" = true) (k68 : PySem.W.keepIn K (.ref f68) = true)
    (n68 : PySem.W.fnIn K f68 = true)
    (a69 : PySem.W.findIn K (.ref CM) "__init__" = some (some (.ref f69)))
    (i69 : PySem.W.isFn K (.ref f69) = true)
    (l69 : K.lookup f69 = some ⟨oc69, od69, .func (PySem.W.fnOf "__init__" "Misreading.__init__" (defArgs s_Misreading_init) (defBody s_Misreading_init) (defScope s_Misreading_init) (.ref TI) kV69 dc69 pm69 an69 cd69 ct69), sl69⟩) (c69 : PySem.W.codeIn K cd69 "Misreading.__init__" = true) (k69 : PySem.W.keepIn K (.ref f69) = true)
    (tI : K.lookup TI = some ⟨ocT, odT, .seq #[.str "" tkT] nT, slT⟩)
    (sC : PySem.W.findCls K (.ref CM) (.type "type") "same" = some (.get (.builtin "staticmethod.__get__") (.ref pS) .none (.ref CM)))
    (sR : PySem.W.recIn K pS "staticmethod" = some (.ref f70 :: restS))
    (l70 : K.lookup f70 = some ⟨oc70, od70, .func (PySem.W.fnOf "same" "Misreading.same" (defArgs s_Misreading_same) (defBody s_Misreading_same) (defScope s_Misreading_same) .none kV70 dc70 pm70 an70 cd70 ct70), sl70⟩) (c70 : PySem.W.codeIn K cd70 "Misreading.same" = true) (k70 : PySem.W.keepIn K (.ref f70) = true)
    (rd : PySem.W.readsIn K CM (.type "type") = true)
    (ga : PySem.W.specialIn K (.ref CM) "__getattribute__" = some (some (.builtin "type.__getattribute__")))
    (pg : PySem.W.plainGet K CM Str.empty = true)
    (hd : PySem.W.hasDictIn K CM = true)
    (po : PySem.W.plainOver K CM = true)
    (sa : PySem.W.findIn K (.ref CM) "__setattr__" = some (some (.builtin "object.__setattr__")))
    (mk : PySem.W.makesIn K CM = true)
    (kc : PySem.W.keepIn K (.ref CM) = true)
    (nL : PySem.W.findIn K (.ref CM) "_letters" = some none)
    (nI : PySem.W.findIn K (.ref CM) "_images" = some none)
    (nC : PySem.W.findIn K (.ref CM) "changed" = some none)
    (tA : PySem.W.findIn K (.ref CM) "__class__" = some (some (.builtin "object.__class__")))
    (tD : PySem.W.mroIn K CM (.type "object") = some true)
    (ne : PySem.W.findIn K (.ref CM) "__ne__" = some (some (.builtin "object.__ne__")))
    (tB : PySem.W.specialIn K (.builtin "object.__class__") "__get__" = some (some (.builtin "getset_descriptor.__get__")))
    (tC : PySem.W.takesIn K (.builtin "object.__class__") = some true)
    (rp : PySem.W.findIn K (.ref CM) "__rpow__" = some none)
    (h1 : PySem.W.findIn K (.type "int") "__pow__" = some poI)
    (h2 : PySem.W.findIn K (.type "int") "__rpow__" = some roI)
    (os_int : PySem.W.subIn K (.type "int") (.ref CM) = some false)
    (ow_int : PySem.W.notFirst K CM (.type "int") = true)
    (ow_str : PySem.W.notFirst K CM (.type "str") = true)
    (ow_dict : PySem.W.notFirst K CM (.type "dict") = true)
    (pgJ : PySem.W.plainGet K CJ Str.empty = true)
    (hdJ : PySem.W.hasDictIn K CJ = true)
    (poJ : PySem.W.plainOver K CJ = true)
    (saJ : PySem.W.findIn K (.ref CJ) "__setattr__" = some (some (.builtin "object.__setattr__")))
    (nJ : PySem.W.findIn K (.ref CJ) "images" = some none)
    (jA : PySem.W.findIn K (.ref CJ) "__class__" = some (some (.builtin "object.__class__")))
    (jD : PySem.W.mroIn K CJ (.type "object") = some true)
    (pgS : PySem.W.plainGet K CS Str.empty = true)
    (hdS : PySem.W.hasDictIn K CS = true)
    (poS : PySem.W.plainOver K CS = true)
    (saS : PySem.W.findIn K (.ref CS) "__setattr__" = some (some (.builtin "object.__setattr__")))
    (mkS : PySem.W.makesIn K CS = true)
    (kcS : PySem.W.keepIn K (.ref CS) = true)
    (pgU : PySem.W.plainGet K CU Str.empty = true)
    (hdU : PySem.W.hasDictIn K CU = true)
    (poU : PySem.W.plainOver K CU = true)
    (saU : PySem.W.findIn K (.ref CU) "__setattr__" = some (some (.builtin "object.__setattr__")))
    (mkU : PySem.W.makesIn K CU = true)
    (kcU : PySem.W.keepIn K (.ref CU) = true)
    (pgA : PySem.W.plainGet K CA Str.empty = true)
    (hdA : PySem.W.hasDictIn K CA = true)
    (poA : PySem.W.plainOver K CA = true)
    (saA : PySem.W.findIn K (.ref CA) "__setattr__" = some (some (.builtin "object.__setattr__")))
    (mkA : PySem.W.makesIn K CA = true)
    (kcA : PySem.W.keepIn K (.ref CA) = true)
    (pgT : PySem.W.plainGet K CT Str.empty = true)
    (hdT : PySem.W.hasDictIn K CT = true)
    (poT : PySem.W.plainOver K CT = true)
    (saT : PySem.W.findIn K (.ref CT) "__setattr__" = some (some (.builtin "object.__setattr__")))
    (mkT : PySem.W.makesIn K CT = true)
    (kcT : PySem.W.keepIn K (.ref CT) = true)
    (pgG : PySem.W.plainGet K CG Str.empty = true)
    (hdG : PySem.W.hasDictIn K CG = true)
    (poG : PySem.W.plainOver K CG = true)
    (saG : PySem.W.findIn K (.ref CG) "__setattr__" = some (some (.builtin "object.__setattr__")))
    (mkG : PySem.W.makesIn K CG = true)
    (kcG : PySem.W.keepIn K (.ref CG) = true)
    (pgO : PySem.W.plainGet K CO Str.empty = true)
    (hdO : PySem.W.hasDictIn K CO = true)
    (poO : PySem.W.plainOver K CO = true)
    (saO : PySem.W.findIn K (.ref CO) "__setattr__" = some (some (.builtin "object.__setattr__")))
    (mkO : PySem.W.makesIn K CO = true)
    (kcO : PySem.W.keepIn K (.ref CO) = true)
    (pgR : PySem.W.plainGet K CR Str.empty = true)
    (hdR : PySem.W.hasDictIn K CR = true)
    (poR : PySem.W.plainOver K CR = true)
    (saR : PySem.W.findIn K (.ref CR) "__setattr__" = some (some (.builtin "object.__setattr__")))
    (mkR : PySem.W.makesIn K CR = true)
    (kcR : PySem.W.keepIn K (.ref CR) = true)
    (tAA : PySem.W.findIn K (.ref CA) "__class__" = some (some (.builtin "object.__class__")))
    (tDA : PySem.W.mroIn K CA (.type "object") = some true)
    (neA : PySem.W.findIn K (.ref CA) "__ne__" = some (some (.builtin "object.__ne__")))
    (tAT : PySem.W.findIn K (.ref CT) "__class__" = some (some (.builtin "object.__class__")))
    (tDT : PySem.W.mroIn K CT (.type "object") = some true)
    (neT : PySem.W.findIn K (.ref CT) "__ne__" = some (some (.builtin "object.__ne__")))
    (tAU : PySem.W.findIn K (.ref CU) "__class__" = some (some (.builtin "object.__class__")))
    (tDU : PySem.W.mroIn K CU (.type "object") = some true)
    (neU : PySem.W.findIn K (.ref CU) "__ne__" = some (some (.builtin "object.__ne__")))
    (tAO : PySem.W.findIn K (.ref CO) "__class__" = some (some (.builtin "object.__class__")))
    (tDO : PySem.W.mroIn K CO (.type "object") = some true)
    (neO : PySem.W.findIn K (.ref CO) "__ne__" = some (some (.builtin "object.__ne__")))
    (tAR : PySem.W.findIn K (.ref CR) "__class__" = some (some (.builtin "object.__class__")))
    (tDR : PySem.W.mroIn K CR (.type "object") = some true)
    (neR : PySem.W.findIn K (.ref CR) "__ne__" = some (some (.builtin "object.__ne__")))
    (nS1 : PySem.W.findIn K (.ref CS) "papers" = some none)
    (nU1 : PySem.W.findIn K (.ref CU) "one" = some none)
    (nU2 : PySem.W.findIn K (.ref CU) "first" = some none)
    (nU3 : PySem.W.findIn K (.ref CU) "other" = some none)
    (nU4 : PySem.W.findIn K (.ref CU) "second" = some none)
    (nA1 : PySem.W.findIn K (.ref CA) "leads" = some none)
    (nA2 : PySem.W.findIn K (.ref CA) "dead" = some none)
    (nT1 : PySem.W.findIn K (.ref CT) "side" = some none)
    (nT2 : PySem.W.findIn K (.ref CT) "living" = some none)
    (nT3 : PySem.W.findIn K (.ref CT) "dead" = some none)
    (nG1 : PySem.W.findIn K (.ref CG) "moves" = some none)
    (nG2 : PySem.W.findIn K (.ref CG) "living" = some none)
    (nG3 : PySem.W.findIn K (.ref CG) "ways" = some none)
    (nO1 : PySem.W.findIn K (.ref CO) "leads" = some none)
    (nO2 : PySem.W.findIn K (.ref CO) "dead" = some none)
    (nR1 : PySem.W.findIn K (.ref CR) "one" = some none)
    (nR2 : PySem.W.findIn K (.ref CR) "other" = some none)
    (ok_int : PySem.W.kitOne K (.type "int") (.ref CM) = some false)
    (ok_str : PySem.W.kitOne K (.type "str") (.ref CM) = some false)
    (ok_dict : PySem.W.kitOne K (.type "dict") (.ref CM) = some false)
    (kdJ : PySem.W.kitOne K (.type "dict") (.ref CJ) = some false)
    (kMM : PySem.W.kitOne K (.ref CM) (.ref CM) = some true)
    (kMJ : PySem.W.kitOne K (.ref CM) (.ref CJ) = some false)
    (kMs : PySem.W.kitOne K (.ref CM) (.type "str") = some false)
    (kls : PySem.W.kitOne K (.type "list") (.type "str") = some false)
    (kOO : PySem.W.kitOne K (.ref CO) (.ref CO) = some true)
    (kRR : PySem.W.kitOne K (.ref CR) (.ref CR) = some true)
    (kUU : PySem.W.kitOne K (.ref CU) (.ref CU) = some true)
    (kUS : PySem.W.kitOne K (.ref CU) (.ref CS) = some false)
    (kJJ : PySem.W.kitOne K (.ref CJ) (.ref CJ) = some true)
    (kA_list : PySem.W.kitOne K (.ref CA) (.type "list") = some false)
    (kA_tuple : PySem.W.kitOne K (.ref CA) (.type "tuple") = some false)
    (kA_dict : PySem.W.kitOne K (.ref CA) (.type "dict") = some false)
    (kT_list : PySem.W.kitOne K (.ref CT) (.type "list") = some false)
    (kT_tuple : PySem.W.kitOne K (.ref CT) (.type "tuple") = some false)
    (kT_dict : PySem.W.kitOne K (.ref CT) (.type "dict") = some false)
    (kll : PySem.W.kitOne K (.type "list") (.type "list") = some true)
    (ktl : PySem.W.kitOne K (.type "tuple") (.type "list") = some false)
    (ktt : PySem.W.kitOne K (.type "tuple") (.type "tuple") = some true)
    (g1 : PySem.W.nsIn K mainGlobals "LETTERS" = some (some (.str "abcdefghijklmnopqrstuvwxyz" tk1)))
    (g2 : PySem.W.nsIn K mainGlobals "LONGEST" = some (some (.int 2000 tk2)))
    (g3 : PySem.W.nsIn K mainGlobals "LONGEST_TOLD" = some (some (.int 4 tk3)))
    (g4 : PySem.W.nsIn K mainGlobals "MOST_LETTERS" = some (some (.int 12 tk4)))
    (g5 : PySem.W.nsIn K mainGlobals "LONGEST_JOINED" = some (some (.int 64 tk5)))
    (g6 : PySem.W.nsIn K mainGlobals "LONGEST_IMAGE" = some (some (.int 8 tk6)))
    (g7 : PySem.W.nsIn K mainGlobals "MOST_MISREADINGS" = some (some (.int 4 tk7)))
    (z_list : PySem.W.nsIn K mainGlobals "list" = some none)
    (z_int : PySem.W.nsIn K mainGlobals "int" = some none)
    (z_len : PySem.W.nsIn K mainGlobals "len" = some none)
    (z_abs : PySem.W.nsIn K mainGlobals "abs" = some none)
    (z_range : PySem.W.nsIn K mainGlobals "range" = some none)
    (z_dict : PySem.W.nsIn K mainGlobals "dict" = some none)
    (z_str : PySem.W.nsIn K mainGlobals "str" = some none)
    (z_sorted : PySem.W.nsIn K mainGlobals "sorted" = some none)
    (z_tuple : PySem.W.nsIn K mainGlobals "tuple" = some none)
    (z_isinstance : PySem.W.nsIn K mainGlobals "isinstance" = some none)
    (z_iter : PySem.W.nsIn K mainGlobals "iter" = some none)
    (z_enumerate : PySem.W.nsIn K mainGlobals "enumerate" = some none)
    (z_all : PySem.W.nsIn K mainGlobals "all" = some none)
    (z_bool : PySem.W.nsIn K mainGlobals "bool" = some none)
    (z_any : PySem.W.nsIn K mainGlobals "any" = some none)
    (z_zip : PySem.W.nsIn K mainGlobals "zip" = some none)
    (z_set : PySem.W.nsIn K mainGlobals "set" = some none)
    (z_repr : PySem.W.nsIn K mainGlobals "repr" = some none) :
    ∃ fd : FuncData, (∀ (s : Shared) (v : Value), BindsTo s fd ⟨[v], []⟩ [("_law_script", v)]) ∧ ∀ base : Heap, K.In base → base.Ns mainGlobals mg → FnOk P w K mg base CX0 10 fa fd ["_law_script"] (spLaw0 K) := by
  have e := hfa.symm.trans (PySem.W.mg_of X G a53)
  cases e
  have B : Blt mg := ⟨PySem.W.mg_none_of X G z_list, PySem.W.mg_none_of X G z_int, PySem.W.mg_none_of X G z_len, PySem.W.mg_none_of X G z_abs, PySem.W.mg_none_of X G z_range, PySem.W.mg_none_of X G z_dict, PySem.W.mg_none_of X G z_str, PySem.W.mg_none_of X G z_sorted, PySem.W.mg_none_of X G z_tuple⟩
  have T1 : Tx K mg CM CJ := ⟨B, PySem.W.mg_none_of X G z_isinstance, PySem.W.mg_none_of X G z_iter, ⟨_, PySem.W.mg_of X G g1, ⟨tk1, rfl⟩⟩, ⟨_, PySem.W.mg_of X G g2, ⟨tk2, rfl⟩⟩, ⟨_, PySem.W.mg_of X G g3, ⟨tk3, rfl⟩⟩, ⟨_, PySem.W.mg_of X G g4, ⟨tk4, rfl⟩⟩,
    ⟨_, PySem.W.mg_of X G aC, rfl⟩, ⟨_, PySem.W.mg_of X G aJ, rfl⟩, kdJ, ok_dict, ok_str, ok_int, ⟨pg, hd, po, sa⟩, nL, nI, nC, tA, tB, tC, tD, ne, ow_dict, ow_str, ow_int⟩
  have T2 : Ty K mg CM CJ := ⟨T1, kMM, kMJ, kMs, kls⟩
  have T : Tz K mg CM CJ := ⟨T2, PySem.W.mg_none_of X G z_enumerate, PySem.W.mg_none_of X G z_all, PySem.W.mg_none_of X G z_bool, ⟨_, PySem.W.mg_of X G g5, ⟨tk5, rfl⟩⟩, ⟨pgJ, hdJ, poJ, saJ⟩, nJ, jA, jD, ⟨rp, ⟨_, h1⟩, ⟨_, h2⟩, os_int⟩, kJJ⟩
  have Tp1 : Tp K mg CM CJ := ⟨T, PySem.W.mg_none_of X G z_any, ⟨_, PySem.W.mg_of X G g6, ⟨tk6, rfl⟩⟩⟩
  have Tm1 : Tm mg tS tE tW := ⟨B, ⟨_, PySem.W.mg_of X G uS, rfl⟩, ⟨_, PySem.W.mg_of X G uE, rfl⟩, ⟨_, PySem.W.mg_of X G uW, rfl⟩, PySem.W.mg_none_of X G z_any⟩
  have Tn1 : Tn K mg tS tE tW CG := ⟨Tm1, ⟨pgG, hdG, poG, saG⟩, nG1, nG2, nG3⟩
  have Tq1 : Tq mg := ⟨B, PySem.W.mg_none_of X G z_isinstance, PySem.W.mg_none_of X G z_repr, PySem.W.mg_none_of X G z_enumerate⟩
  have Te1 : Te mg := ⟨Tq1, PySem.W.mg_none_of X G z_bool, PySem.W.mg_none_of X G z_all, PySem.W.mg_none_of X G z_zip⟩
  have clM : Cls K CM := ⟨pg, hd, po, sa⟩
  have clS : Cls K CS := ⟨pgS, hdS, poS, saS⟩
  have clU : Cls K CU := ⟨pgU, hdU, poU, saU⟩
  have clA : Cls K CA := ⟨pgA, hdA, poA, saA⟩
  have clT : Cls K CT := ⟨pgT, hdT, poT, saT⟩
  have ciA : ClsI K CA := ⟨clA, tAA, tB, tC, tDA, kA_list, kA_tuple, kA_dict⟩
  have ciT : ClsI K CT := ⟨clT, tAT, tB, tC, tDT, kT_list, kT_tuple, kT_dict⟩
  have Ts1 : Tsd K mg CM CJ := ⟨Tp1, ⟨_, PySem.W.mg_of X G g7, ⟨tk7, rfl⟩⟩, kitAny_cons kll (fun z => nomatch z) (fun _ => rfl), kitAny_cons ktl (fun _ => kitAny_cons ktt (fun z => nomatch z) (fun _ => rfl)) (fun z => nomatch z)⟩
  have clO : Cls K CO := ⟨pgO, hdO, poO, saO⟩
  have clR : Cls K CR := ⟨pgR, hdR, poR, saR⟩
  have Tv1 : Tv K mg CO CR := ⟨Te1, clO, clR, nO1, nO2, nR1, nR2, ⟨_, PySem.W.mg_of X G aO, rfl⟩, ⟨_, PySem.W.mg_of X G aR, rfl⟩, fun _ _ _ _ hx => .base (.ins hx clO tAO tB tC tDO), fun _ _ _ _ hx => .base (.ins hx clR tAR tB tC tDR), kOO, kRR⟩
  have T5 : Tu5 K mg CM CJ CS CU := ⟨Tp1, ⟨_, PySem.W.mg_of X G aS, rfl⟩, ⟨_, PySem.W.mg_of X G aU, rfl⟩, clU, nU1, nU2, nU3, nU4, kUS, kUU, fun _ _ _ _ hx => .base (.ins hx clU tAU tB tC tDU)⟩
  have T6 : Tu6 K mg CM CJ CS CU := ⟨T5, PySem.W.mg_none_of X G z_set⟩
  have T7 : Tu7 K mg CM CJ CS CU := ⟨T6, PySem.W.mg_none_of X G z_zip⟩
  have hSD : GV mg "SIDES" (.ref tD0) := ⟨_, PySem.W.mg_of X G uD, rfl⟩
  have F0 := fun_mk (st := s_copied) l0 c0 k0
  have b0 := F0.binds (ps := ["value"]) fun _ _ _ _ _ _ us hl => match us, hl with | [_], _ => rfl
  have F1 := fun_mk (st := s_is_letter) l1 c1 k1
  have b1 := F1.binds (ps := ["value"]) fun _ _ _ _ _ _ us hl => match us, hl with | [_], _ => rfl
  have F2 := fun_mk (st := s_all_letters) l2 c2 k2
  have b2 := F2.binds (ps := ["string"]) fun _ _ _ _ _ _ us hl => match us, hl with | [_], _ => rfl
  have F3 := fun_mk (st := s_is_text) l3 c3 k3
  have b3 := F3.binds (ps := ["value"]) fun _ _ _ _ _ _ us hl => match us, hl with | [_], _ => rfl
  have F4 := fun_mk (st := s_is_image) l4 c4 k4
  have b4 := F4.binds (ps := ["value"]) fun _ _ _ _ _ _ us hl => match us, hl with | [_], _ => rfl
  have F5 := fun_mk (st := s_told_images) l5 c5 k5
  have b5 := F5.binds (ps := ["images", "keeps"]) fun _ _ _ _ _ _ us hl => match us, hl with | [_, _], _ => rfl
  have F6 := fun_mk (st := s_other_side) l6 c6 k6
  have b6 := F6.binds (ps := ["side"]) fun _ _ _ _ _ _ us hl => match us, hl with | [_], _ => rfl
  have F7 := fun_mk (st := s_place_behind) l7 c7 k7
  have b7 := F7.binds (ps := ["ahead", "rest", "word"]) fun _ _ _ _ _ _ us hl => match us, hl with | [_, _, _], _ => rfl
  have F8 := fun_mk (st := s_moves_from) l8 c8 k8
  have b8 := F8.binds (ps := ["first", "second", "place"]) fun _ _ _ _ _ _ us hl => match us, hl with | [_, _, _], _ => rfl
  have F9 := fun_mk (st := s_with_label) l9 c9 k9
  have b9 := F9.binds (ps := ["way", "taker", "label"]) fun _ _ _ _ _ _ us hl => match us, hl with | [_, _, _], _ => rfl
  have F10 := fun_mk (st := s_lead_of) l10 c10 k10
  have b10 := F10.binds (ps := ["way"]) fun _ _ _ _ _ _ us hl => match us, hl with | [_], _ => rfl
  have F11 := fun_mk (st := s_all_moves) l11 c11 k11
  have b11 := F11.binds (ps := ["first", "second"]) fun _ _ _ _ _ _ us hl => match us, hl with | [_, _], _ => rfl
  have F12 := fun_mk (st := s_all_living) l12 c12 k12
  have b12 := F12.binds (ps := ["moves"]) fun _ _ _ _ _ _ us hl => match us, hl with | [_], _ => rfl
  have F13 := fun_mk (st := s_ways_from) l13 c13 k13
  have b13 := F13.binds (ps := ["moves", "place"]) fun _ _ _ _ _ _ us hl => match us, hl with | [_, _], _ => rfl
  have F14 := fun_mk (st := s_ended) l14 c14 k14
  have b14 := F14.binds (ps := ["meetings", "way", "place"]) fun _ _ _ _ _ _ us hl => match us, hl with | [_, _, _], _ => rfl
  have F15 := fun_mk (st := s_unlike_meeting) l15 c15 k15
  have b15 := F15.binds (ps := ["meetings"]) fun _ _ _ _ _ _ us hl => match us, hl with | [_], _ => rfl
  have F16 := fun_mk (st := s_meeting_with) l16 c16 k16
  have b16 := F16.binds (ps := ["meetings", "side", "labels"]) fun _ _ _ _ _ _ us hl => match us, hl with | [_, _, _], _ => rfl
  have F17 := fun_mk (st := s_rests_of) l17 c17 k17
  have b17 := F17.binds (ps := ["meetings", "living"]) fun _ _ _ _ _ _ us hl => match us, hl with | [_, _], _ => rfl
  have F18 := fun_mk (st := s_leads_of) l18 c18 k18
  have b18 := F18.binds (ps := ["meetings"]) fun _ _ _ _ _ _ us hl => match us, hl with | [_], _ => rfl
  have F19 := fun_mk (st := s_check_misreadings) l19 c19 k19
  have b19 := F19.binds (ps := ["value"]) fun _ _ _ _ _ _ us hl => match us, hl with | [_], _ => rfl
  have F20 := fun_mk (st := s_check_length) l20 c20 k20
  have b20 := F20.binds (ps := ["misreading"]) fun _ _ _ _ _ _ us hl => match us, hl with | [_], _ => rfl
  have F21 := fun_mk (st := s_check_lists) l21 c21 k21
  have b21 := F21.binds (ps := ["misreadings"]) fun _ _ _ _ _ _ us hl => match us, hl with | [_], _ => rfl
  have F22 := fun_mk (st := s_image_pairs) l22 c22 k22
  have b22 := F22.binds (ps := ["misreading"]) fun _ _ _ _ _ _ us hl => match us, hl with | [_], _ => rfl
  have F23 := fun_mk (st := s_index_pairs) l23 c23 k23
  have b23 := F23.binds (ps := ["size"]) fun _ _ _ _ _ _ us hl => match us, hl with | [_], _ => rfl
  have F24 := fun_mk (st := s_both) l24 c24 k24
  have b24 := F24.binds (ps := ["way", "more"]) fun _ _ _ _ _ _ us hl => match us, hl with | [_, _], _ => rfl
  have F25 := fun_mk (st := s_has_one_of) l25 c25 k25
  have b25 := F25.binds (ps := ["text", "letters"]) fun _ _ _ _ _ _ us hl => match us, hl with | [_, _], _ => rfl
  have F26 := fun_mk (st := s_paper_of) l26 c26 k26
  have b26 := F26.binds (ps := ["meetings", "first_changed", "second_changed"]) fun _ _ _ _ _ _ us hl => match us, hl with | [_, _, _], _ => rfl
  have F27 := fun_mk (st := s_merging_steps) l27 c27 k27
  have b27 := F27.binds (ps := ["meetings", "first_changed", "second_changed"]) fun _ _ _ _ _ _ us hl => match us, hl with | [_, _, _], _ => rfl
  have F28 := fun_mk (st := s_sound) l28 c28 k28
  have b28 := F28.binds (ps := ["misreadings"]) fun _ _ _ _ _ _ us hl => match us, hl with | [_], _ => rfl
  have F29 := fun_mk (st := s_check_misreading) l29 c29 k29
  have b29 := F29.binds (ps := ["value"]) fun _ _ _ _ _ _ us hl => match us, hl with | [_], _ => rfl
  have F30 := fun_mk (st := s_check_images) l30 c30 k30
  have b30 := F30.binds (ps := ["misreading"]) fun _ _ _ _ _ _ us hl => match us, hl with | [_], _ => rfl
  have F31 := fun_mk (st := s_merging) l31 c31 k31
  have b31 := F31.binds (ps := ["misreading"]) fun _ _ _ _ _ _ us hl => match us, hl with | [_], _ => rfl
  have F32 := fun_mk (st := s_is_integer) l32 c32 k32
  have b32 := F32.binds (ps := ["value"]) fun _ _ _ _ _ _ us hl => match us, hl with | [_], _ => rfl
  have F33 := fun_mk (st := s_is_between) l33 c33 k33
  have b33 := F33.binds (ps := ["value", "least", "most"]) fun _ _ _ _ _ _ us hl => match us, hl with | [_, _, _], _ => rfl
  have F34 := fun_mk (st := s_is_index) l34 c34 k34
  have b34 := F34.binds (ps := ["value", "size"]) fun _ _ _ _ _ _ us hl => match us, hl with | [_, _], _ => rfl
  have F35 := fun_mk (st := s_can_happen) l35 c35 k35
  have b35 := F35.binds (ps := ["misreading", "value"]) fun _ _ _ _ _ _ us hl => match us, hl with | [_, _], _ => rfl
  have F36 := fun_mk (st := s_right_unsound) l36 c36 k36
  have b36 := F36.binds (ps := ["misreadings", "value"]) fun _ _ _ _ _ _ us hl => match us, hl with | [_, _], _ => rfl
  have F37 := fun_mk (st := s_shows_sound) l37 c37 k37
  have b37 := F37.binds (ps := ["misreadings", "value"]) fun _ _ _ _ _ _ us hl => match us, hl with | [_, _], _ => rfl
  have F38 := fun_mk (st := s_pen) l38 c38 k38
  have b38 := F38.binds (ps := ["_law_script"]) fun _ _ _ _ _ _ us hl => match us, hl with | [_], _ => rfl
  have F39 := fun_mk (st := s_draw) l39 c39 k39
  have b39 := F39.binds (ps := ["_law_pen_here", "_law_many"]) fun _ _ _ _ _ _ us hl => match us, hl with | [_, _], _ => rfl
  have F40 := fun_mk (st := s_pick) l40 c40 k40
  have b40 := F40.binds (ps := ["_law_pen_here", "_law_some"]) fun _ _ _ _ _ _ us hl => match us, hl with | [_, _], _ => rfl
  have F41 := fun_mk (st := s_some_letters) l41 c41 k41
  have b41 := F41.binds (ps := ["_law_pen_here", "_law_many"]) fun _ _ _ _ _ _ us hl => match us, hl with | [_, _], _ => rfl
  have F42 := fun_mk (st := s_escaped) l42 c42 k42
  have b42 := F42.binds (ps := ["_law_pen_here", "_law_some"]) fun _ _ _ _ _ _ us hl => match us, hl with | [_, _], _ => rfl
  have F43 := fun_mk (st := s_any_image) l43 c43 k43
  have b43 := F43.binds (ps := ["_law_pen_here", "_law_some"]) fun _ _ _ _ _ _ us hl => match us, hl with | [_, _], _ => rfl
  have F44 := fun_mk (st := s_table) l44 c44 k44
  have b44 := F44.binds (ps := ["_law_pen_here", "_law_some"]) fun _ _ _ _ _ _ us hl => match us, hl with | [_, _], _ => rfl
  have F45 := fun_mk (st := s__law_near) l45 c45 k45
  have b45 := F45.binds (ps := ["_law_pen_here", "_law_table_here", "_law_some"]) fun _ _ _ _ _ _ us hl => match us, hl with | [_, _, _], _ => rfl
  have F46 := fun_mk (st := s__law_tables) l46 c46 k46
  have b46 := F46.binds (ps := ["_law_pen_here", "_law_most"]) fun _ _ _ _ _ _ us hl => match us, hl with | [_, _], _ => rfl
  have F47 := fun_mk (st := s__law_made) l47 c47 k47
  have b47 := F47.binds (ps := ["_law_tables_here"]) fun _ _ _ _ _ _ us hl => match us, hl with | [_], _ => rfl
  have F48 := fun_mk (st := s__law_back) l48 c48 k48
  have b48 := F48.binds (ps := ["_law_table_here"]) fun _ _ _ _ _ _ us hl => match us, hl with | [_], _ => rfl
  have F49 := fun_mk (st := s__law_named) l49 c49 k49
  have b49 := F49.binds (ps := ["_law_table_here", "_law_names"]) fun _ _ _ _ _ _ us hl => match us, hl with | [_, _], _ => rfl
  have F50 := fun_mk (st := s__law_others_right) l50 c50 k50
  have b50 := F50.binds (ps := ["_law_pen_here", "_law_tables_here", "_law_found"]) fun _ _ _ _ _ _ us hl => match us, hl with | [_, _, _], _ => rfl
  have F51 := fun_mk (st := s__law_names_right) l51 c51 k51
  have b51 := F51.binds (ps := ["_law_tables_here", "_law_found", "_law_names"]) fun _ _ _ _ _ _ us hl => match us, hl with | [_, _, _], _ => rfl
  have F52 := fun_mk (st := s__law_parts_right) l52 c52 k52
  have b52 := F52.binds (ps := ["_law_made_here", "_law_found"]) fun _ _ _ _ _ _ us hl => match us, hl with | [_, _], _ => rfl
  have F53 := fun_mk (st := s_law) l53 c53 k53
  have F54 := fun_mk (st := s_Misreading_first_barred) l54 c54 k54
  have b54 := F54.binds (ps := ["self", "text"]) fun _ _ _ _ _ _ us hl => match us, hl with | [_, _], _ => rfl
  have F55 := fun_mk (st := s_Misreading_image) l55 c55 k55
  have b55 := F55.binds (ps := ["self", "text"]) fun _ _ _ _ _ _ us hl => match us, hl with | [_, _], _ => rfl
  have F56 := fun_mk (st := s_Misreading_getitem) l56 c56 k56
  have b56 := F56.binds (ps := ["self", "at"]) fun _ _ _ _ _ _ us hl => match us, hl with | [_, _], _ => rfl
  have F57 := fun_mk (st := s_Misreading_iter) l57 c57 k57
  have b57 := F57.binds (ps := ["self"]) fun _ _ _ _ _ _ us hl => match us, hl with | [_], _ => rfl
  have F58 := fun_mk (st := s_Sound_init) l58 c58 k58
  have b58 := F58.binds (ps := ["self", "papers"]) fun _ _ _ _ _ _ us hl => match us, hl with | [_, _], _ => rfl
  have F59 := fun_mk (st := s_Sound_bool) l59 c59 k59
  have b59 := F59.binds (ps := ["self"]) fun _ _ _ _ _ _ us hl => match us, hl with | [_], _ => rfl
  have F60 := fun_mk (st := s_Unsound_init) l60 c60 k60
  have b60 := F60.binds (ps := ["self", "one", "first", "other", "second"]) fun _ _ _ _ _ _ us hl => match us, hl with | [_, _, _, _, _], _ => rfl
  have F61 := fun_mk (st := s_Unsound_bool) l61 c61 k61
  have b61 := F61.binds (ps := ["self"]) fun _ _ _ _ _ _ us hl => match us, hl with | [_], _ => rfl
  have F62 := fun_mk (st := s_Alike_init) l62 c62 k62
  have b62 := F62.binds (ps := ["self", "leads", "dead"]) fun _ _ _ _ _ _ us hl => match us, hl with | [_, _, _], _ => rfl
  have F63 := fun_mk (st := s_Still_init) l63 c63 k63
  have b63 := F63.binds (ps := ["self", "side", "living", "dead"]) fun _ _ _ _ _ _ us hl => match us, hl with | [_, _, _, _], _ => rfl
  have F64 := fun_mk (st := s_Meetings_init) l64 c64 k64
  have b64 := F64.binds (ps := ["self", "first", "second"]) fun _ _ _ _ _ _ us hl => match us, hl with | [_, _, _], _ => rfl
  have F65 := fun_mk (st := s_OneToOne_init) l65 c65 k65
  have b65 := F65.binds (ps := ["self", "leads", "dead"]) fun _ _ _ _ _ _ us hl => match us, hl with | [_, _, _], _ => rfl
  have F66 := fun_mk (st := s_OneToOne_bool) l66 c66 k66
  have b66 := F66.binds (ps := ["self"]) fun _ _ _ _ _ _ us hl => match us, hl with | [_], _ => rfl
  have F67 := fun_mk (st := s_Merged_init) l67 c67 k67
  have b67 := F67.binds (ps := ["self", "one", "other"]) fun _ _ _ _ _ _ us hl => match us, hl with | [_, _, _], _ => rfl
  have F68 := fun_mk (st := s_Merged_bool) l68 c68 k68
  have b68 := F68.binds (ps := ["self"]) fun _ _ _ _ _ _ us hl => match us, hl with | [_], _ => rfl
  have ee : ("" : Str) = Sx [] := by decide +kernel
  have F69 : FunD K "__init__" "Misreading.__init__" (defArgs s_Misreading_init) (defBody s_Misreading_init) (defScope s_Misreading_init) [.str (Sx [])] [] f69 _ := ⟨⟨oc69, od69, .ref TI, kV69, dc69, pm69, an69, cd69, ct69, sl69, rfl, l69, c69, .inr ⟨(fun z => nomatch z), TI, _, [.str "" tkT], nT, rfl, tI, rfl, .cons ⟨tkT, by rw [← ee]⟩ .nil⟩, .inl rfl⟩, k69⟩
  have F70 := fun_mk (st := s_Misreading_same) l70 c70 k70
  have b70 := F70.binds (ps := ["letters"]) fun _ _ _ _ _ _ us hl => match us, hl with | [_], _ => rfl
  have kb : KBinds K (PySem.W.fnOf "same" "Misreading.same" (defArgs s_Misreading_same) (defBody s_Misreading_same) (defScope s_Misreading_same) .none kV70 dc70 pm70 an70 cd70 ct70) ["letters"] ["letters"] (fun us ws => us ++ ws) (fun vs zs => vs ++ zs) := ⟨fun s us ws _ hl => match us, ws, hl with
    | [], [_], _ => .of_eq rfl
    | [_], [], _ => .of_eq rfl, fun r1 r2 => r1.append r2⟩
  refine ⟨PySem.W.fnOf "law" "law" (defArgs s_law) (defBody s_law) (defScope s_law) .none kV53 dc53 pm53 an53 cd53 ct53, fun s v => .of_eq rfl, fun base _ _ => ?_⟩
  have D_draw : Df P w K mg base 1 "_law_draw" spDraw := ⟨⟨f39, _, _, ok_draw (k := 0) F39 B, PySem.W.mg_of X G a39, k39, b39⟩⟩
  have D_pick : Df P w K mg base 2 "_law_pick" (spPick K) := ⟨⟨f40, _, _, ok_pick F40 B D_draw, PySem.W.mg_of X G a40, k40, b40⟩⟩
  have D_some_letters : Df P w K mg base 2 "_law_some_letters" spLetters := ⟨⟨f41, _, _, ok_some_letters F41 B D_draw, PySem.W.mg_of X G a41, k41, b41⟩⟩
  have D_any_image : Df P w K mg base 3 "_law_any_image" spImage := ⟨⟨f43, _, _, ok_any_image F43 B D_pick, PySem.W.mg_of X G a43, k43, b43⟩⟩
  have D_escaped : Df P w K mg base 2 "_law_escaped" (spTab 52) := ⟨⟨f42, _, _, ok_escaped F42 B D_draw, PySem.W.mg_of X G a42, k42, b42⟩⟩
  have D_table : Df P w K mg base 4 "_law_table" (spTab 260) := ⟨⟨f44, _, _, ok_table F44 B D_draw D_escaped D_any_image, PySem.W.mg_of X G a44, k44, b44⟩⟩
  have D_pen : Df P w K mg base 1 "_law_pen" (spPen K) := ⟨⟨f38, _, _, ok_pen F38 B, PySem.W.mg_of X G a38, k38, b38⟩⟩
  have D_is_letter : Df P w K mg base 1 "is_letter" (spIsLetter K) := ⟨⟨f1, _, _, ok_is_letter F1 T1, PySem.W.mg_of X G a1, k1, b1⟩⟩
  have D_all_letters : Df P w K mg base 1 "all_letters" spAllLetters := ⟨⟨f2, _, _, ok_all_letters F2 T1, PySem.W.mg_of X G a2, k2, b2⟩⟩
  have D_is_text : Df P w K mg base 2 "is_text" spIsText := ⟨⟨f3, _, _, ok_is_text F3 T1 D_all_letters, PySem.W.mg_of X G a3, k3, b3⟩⟩
  have D_is_image : Df P w K mg base 3 "is_image" spIsImage := ⟨⟨f4, _, _, ok_is_image F4 T1 D_is_text, PySem.W.mg_of X G a4, k4, b4⟩⟩
  have D_told_images : Df P w K mg base 4 "told_images" spTold := ⟨⟨f5, _, _, ok_told_images F5 T1 D_is_letter D_is_text D_is_image, PySem.W.mg_of X G a5, k5, b5⟩⟩
  have D_cop0 : Df P w K mg base 0 "copied" (fun _ _ _ _ => False) := ⟨⟨f0, _, _, ⟨fun _ _ _ _ z => z.elim, fun _ _ _ _ _ _ _ _ _ _ _ _ _ z => z.elim⟩, PySem.W.mg_of X G a0, k0, b0⟩⟩
  have D_copT0 : Df P w K mg base 1 "copied" (spCopT 0) := ⟨⟨f0, _, _, ok_copT (n := 0) (k := 0) F0 Te1 D_cop0, PySem.W.mg_of X G a0, k0, b0⟩⟩
  have D_copT1 : Df P w K mg base 2 "copied" (spCopT 1) := ⟨⟨f0, _, _, ok_copT (n := 1) (k := 1) F0 Te1 D_copT0, PySem.W.mg_of X G a0, k0, b0⟩⟩
  have D_copT2 : Df P w K mg base 3 "copied" (spCopT 2) := ⟨⟨f0, _, _, ok_copT (n := 2) (k := 2) F0 Te1 D_copT1, PySem.W.mg_of X G a0, k0, b0⟩⟩
  have D_mk : Mkr P w K mg base CM := mkr_of F69 T1 D_told_images ⟨mk, a69, i69, kc⟩ (PySem.W.mg_of X G aC)
  have D_first_barred : Mf P w K mg base 1 CM "first_barred" (spFB CM) := ⟨⟨f54, _, _, ok_first_barred F54 T, ⟨a54, i54, k54⟩, ⟨a54, i54⟩, n54, b54⟩⟩
  have D_image : Mf P w K mg base 1 CM "image" (spImg CM) := ⟨⟨f55, _, _, ok_image F55 T, ⟨a55, i55, k55⟩, ⟨a55, i55⟩, n55, b55⟩⟩
  have D_get : Mf P w K mg base 2 CM "__getitem__" (spGet CM) := ⟨⟨f56, _, _, ok_get F56 T1 D_is_letter, ⟨a56, i56, k56⟩, ⟨a56, i56⟩, n56, b56⟩⟩
  have D_iter : ItM P w K mg base 1 CM (snIter CM) := ⟨f57, _, _, ok_iter F57 T1, ⟨a57, i57⟩, b57⟩
  have D_other_side : Df P w K mg base 1 "other_side" spOther := ⟨⟨f6, _, _, ok_other F6 Tm1, PySem.W.mg_of X G a6, k6, b6⟩⟩
  have D_place_behind : Df P w K mg base 2 "place_behind" (spBehind K tS tE tW) := ⟨⟨f7, _, _, ok_behind F7 Tm1 D_other_side, PySem.W.mg_of X G a7, k7, b7⟩⟩
  have D_with_label : Df P w K mg base 1 "with_label" spLabel := ⟨⟨f9, _, _, ok_with_label F9 Tm1, PySem.W.mg_of X G a9, k9, b9⟩⟩
  have D_lead_of : Df P w K mg base 1 "lead_of" (spLead K) := ⟨⟨f10, _, _, ok_lead_of F10 Tm1, PySem.W.mg_of X G a10, k10, b10⟩⟩
  have D_moves_from : Df P w K mg base 3 "moves_from" (spMoves K tS tE tW) := ⟨⟨f8, _, _, ok_moves F8 Tm1 D_other_side D_place_behind, PySem.W.mg_of X G a8, k8, b8⟩⟩
  have D_all_moves : Df P w K mg base 4 "all_moves" (spAll K w tS tE tW) := ⟨⟨f11, _, _, ok_all_moves F11 Tm1 D_moves_from, PySem.W.mg_of X G a11, k11, b11⟩⟩
  have D_all_living : Df P w K mg base 1 "all_living" (spLiving K w tS tE tW) := ⟨⟨f12, _, _, ok_all_living F12 Tm1, PySem.W.mg_of X G a12, k12, b12⟩⟩
  have D_ways_from : Df P w K mg base 2 "ways_from" (spWays K w) := ⟨⟨f13, _, _, ok_ways_from F13 Tm1 D_with_label, PySem.W.mg_of X G a13, k13, b13⟩⟩
  have D_Meetings : MkC P w K mg base 5 CG "Meetings" (spMee K w tS tE tW CG) := ⟨f64, _, _, ⟨mkG, a64, i64, kcG⟩, ok_meet F64 Tn1 D_all_moves D_all_living D_ways_from, PySem.W.mg_of X G aG, b64⟩
  have D_ended : Df P w K mg base 3 "ended" (spEnded K w tS tE tW CG) := ⟨⟨f14, _, _, ok_ended F14 Tn1 D_ways_from, PySem.W.mg_of X G a14, k14, b14⟩⟩
  have D_unlike_meeting : Df P w K mg base 4 "unlike_meeting" (spUnlike K w tS tE tW CG) := ⟨⟨f15, _, _, ok_unlike F15 Tn1 D_with_label D_lead_of D_ended, PySem.W.mg_of X G a15, k15, b15⟩⟩
  have D_meeting_with : Df P w K mg base 4 "meeting_with" (spMeetW K w tS tE tW CG) := ⟨⟨f16, _, _, ok_meetW F16 Tn1 D_with_label D_ended, PySem.W.mg_of X G a16, k16, b16⟩⟩
  have D_rests_of : Df P w K mg base 1 "rests_of" (spRests K w tD0 CG) := ⟨⟨f17, _, _, ok_rests F17 Tn1 hSD, PySem.W.mg_of X G a17, k17, b17⟩⟩
  have D_leads_of : Df P w K mg base 2 "leads_of" (spLeads K w tD0 CG) := ⟨⟨f18, _, _, ok_leads F18 Tn1 D_rests_of D_lead_of, PySem.W.mg_of X G a18, k18, b18⟩⟩
  have D_check_length : Df P w K mg base 4 "check_length" (spChkL CM) := ⟨⟨f20, _, _, ok_check_length F20 Tp1 D_iter D_get, PySem.W.mg_of X G a20, k20, b20⟩⟩
  have D_image_pairs : Df P w K mg base 4 "image_pairs" (spPairs CM) := ⟨⟨f22, _, _, ok_image_pairs F22 Tp1 D_iter D_get, PySem.W.mg_of X G a22, k22, b22⟩⟩
  have D_copI : Df P w K mg base 1 "copied" (spCopI K) := ⟨⟨f0, _, _, ok_copI F0 Te1 D_cop0, PySem.W.mg_of X G a0, k0, b0⟩⟩
  have D_copP : Df P w K mg base 2 "copied" (spCopP K) := ⟨⟨f0, _, _, ok_copP F0 Te1 D_copI, PySem.W.mg_of X G a0, k0, b0⟩⟩
  have D_Sound : MkC P w K mg base 3 CS "Sound" (spSoundI K CS) := ⟨f58, _, _, ⟨mkS, a58, i58, kcS⟩, ok_soundI F58 clS nS1 D_copP, PySem.W.mg_of X G aS, b58⟩
  have D_Unsound : MkC P w K mg base 4 CU "Unsound" (spUnsoundI CU) := ⟨f60, _, _, ⟨mkU, a60, i60, kcU⟩, ok_UnsoundI F60 clU nU1 nU2 nU3 nU4 D_copT2, PySem.W.mg_of X G aU, b60⟩
  have D_Alike : MkC P w K mg base 4 CA "Alike" (spAlikeI CA) := ⟨f62, _, _, ⟨mkA, a62, i62, kcA⟩, ok_AlikeI F62 clA nA1 nA2 D_copT2, PySem.W.mg_of X G aA, b62⟩
  have D_Still : MkC P w K mg base 4 CT "Still" (spStillI CT) := ⟨f63, _, _, ⟨mkT, a63, i63, kcT⟩, ok_StillI F63 clT nT1 nT2 nT3 D_copT2, PySem.W.mg_of X G aT, b63⟩
  have D_both : Df P w K mg base 1 "both" spBoth := ⟨⟨f24, _, _, ok_both F24, PySem.W.mg_of X G a24, k24, b24⟩⟩
  have D_has_one_of : Df P w K mg base 1 "has_one_of" (spHasOne K) := ⟨⟨f25, _, _, ok_hasOne F25 Tp1, PySem.W.mg_of X G a25, k25, b25⟩⟩
  have D_paper_of : Df P w K mg base 6 "paper_of" (spPaper K w tS tE tW tD0 CG CA CT) := ⟨⟨f26, _, _, ok_paper F26 D_unlike_meeting D_leads_of D_rests_of D_meeting_with D_Alike D_Still, PySem.W.mg_of X G a26, k26, b26⟩⟩
  have D_merging_steps : Df P w K mg base 5 "merging_steps" (spMergeS K w tS tE tW CG) := ⟨⟨f27, _, _, ok_mergeS F27 D_unlike_meeting D_meeting_with D_both D_has_one_of, PySem.W.mg_of X G a27, k27, b27⟩⟩
  have D_index_pairs : Df P w K mg base 1 "index_pairs" spIp := ⟨⟨f23, _, _, ok_ip F23 Tp1, PySem.W.mg_of X G a23, k23, b23⟩⟩
  have D_check_misreadings : Df P w K mg base 1 "check_misreadings" (spCkM CM) := ⟨⟨f19, _, _, ok_ckM F19 Ts1, PySem.W.mg_of X G a19, k19, b19⟩⟩
  have D_check_lists : Df P w K mg base 5 "check_lists" (spCkM CM) := ⟨⟨f21, _, _, ok_ckL F21 Ts1 D_check_length D_check_misreadings, PySem.W.mg_of X G a21, k21, b21⟩⟩
  have D_sound : Df P w K mg base 7 "sound" (spSound K tS tE tW tD0 CM CA CT CS CU) := ⟨⟨f28, _, _, ok_sound F28 Ts1 ciA ciT D_check_lists D_index_pairs D_image_pairs D_Meetings D_paper_of D_merging_steps D_Unsound D_Sound, PySem.W.mg_of X G a28, k28, b28⟩⟩
  have D_boolO : Mf P w K mg base 1 CS "__bool__" (spSays true) := ⟨⟨f59, _, _, ok_soundB F59, ⟨a59, i59, k59⟩, ⟨a59, i59⟩, n59, b59⟩⟩
  have D_boolR : Mf P w K mg base 1 CU "__bool__" (spSays false) := ⟨⟨f61, _, _, ok_unsoundB F61, ⟨a61, i61, k61⟩, ⟨a61, i61⟩, n61, b61⟩⟩
  have D_near : Df P w K mg base 4 "_law_near" spNear := ⟨⟨f45, _, _, ok_near F45 B D_draw D_pick D_any_image, PySem.W.mg_of X G a45, k45, b45⟩⟩
  have D_tables : Df P w K mg base 5 "_law_tables" spTables := ⟨⟨f46, _, _, ok_tables F46 B D_draw D_some_letters D_escaped D_table D_near, PySem.W.mg_of X G a46, k46, b46⟩⟩
  have D_copied : Df P w K mg base 1 "copied" (spCopied K) := ⟨⟨f0, _, _, ok_copied F0 Tq1 D_cop0, PySem.W.mg_of X G a0, k0, b0⟩⟩
  have D_copyW : Df P w K mg base 2 "copied" spCopyW := ⟨⟨f0, _, _, ok_copyW F0 Tq1 D_copied, PySem.W.mg_of X G a0, k0, b0⟩⟩
  have D_OneToOne : MkC P w K mg base 4 CO "OneToOne" (spOneI CO) := ⟨f65, _, _, ⟨mkO, a65, i65, kcO⟩, ok_oneI F65 Tv1 D_copT2, PySem.W.mg_of X G aO, b65⟩
  have D_Merged : MkC P w K mg base 4 CR "Merged" (spMrgI CR) := ⟨f67, _, _, ⟨mkR, a67, i67, kcR⟩, ok_mrgI F67 Tv1 D_copyW, PySem.W.mg_of X G aR, b67⟩
  have D_check_misreading : Df P w K mg base 1 "check_misreading" (spChkM CM) := ⟨⟨f29, _, _, ok_check_misreading F29 Tp1, PySem.W.mg_of X G a29, k29, b29⟩⟩
  have D_check_images : Df P w K mg base 5 "check_images" (spChkL CM) := ⟨⟨f30, _, _, ok_check_images F30 Tp1 D_check_misreading D_check_length, PySem.W.mg_of X G a30, k30, b30⟩⟩
  have D_merging : Df P w K mg base 7 "merging" (spMerging K tS tE tW tD0 CM CO CR) := ⟨⟨f31, _, _, ok_merging F31 Tp1 D_check_images D_image_pairs D_Meetings D_unlike_meeting D_leads_of D_rests_of D_OneToOne D_Merged, PySem.W.mg_of X G a31, k31, b31⟩⟩
  have D_boolA : Mf P w K mg base 1 CO "__bool__" (spSays true) := ⟨⟨f66, _, _, ok_oneB F66, ⟨a66, i66, k66⟩, ⟨a66, i66⟩, n66, b66⟩⟩
  have D_boolB : Mf P w K mg base 1 CR "__bool__" (spSays false) := ⟨⟨f68, _, _, ok_mrgB F68, ⟨a68, i68, k68⟩, ⟨a68, i68⟩, n68, b68⟩⟩
  have D_is_integer : Df P w K mg base 1 "is_integer" spInt := ⟨⟨f32, _, _, ok_is_integer F32 T, PySem.W.mg_of X G a32, k32, b32⟩⟩
  have D_is_between : Df P w K mg base 2 "is_between" spBtw := ⟨⟨f33, _, _, ok_is_between F33 T D_is_integer, PySem.W.mg_of X G a33, k33, b33⟩⟩
  have D_is_index : Df P w K mg base 3 "is_index" spIdx := ⟨⟨f34, _, _, ok_index F34 D_is_between, PySem.W.mg_of X G a34, k34, b34⟩⟩
  have D_can_happen : Df P w K mg base 3 "can_happen" (spCan CM) := ⟨⟨f35, _, _, ok_can F35 T D_is_text D_first_barred, PySem.W.mg_of X G a35, k35, b35⟩⟩
  have D_right_unsound : Df P w K mg base 4 "right_unsound" (spRU CM CU) := ⟨⟨f36, _, _, ok_rightU F36 T5 D_is_index D_can_happen D_image, PySem.W.mg_of X G a36, k36, b36⟩⟩
  have D_shows_sound : Df P w K mg base 6 "shows_sound" (spShows CM CU) := ⟨⟨f37, _, _, ok_shows F37 T5 D_check_lists D_right_unsound, PySem.W.mg_of X G a37, k37, b37⟩⟩
  have D_same : Sms P w K mg base CM := ⟨pS, f70, _, .type "type", ⟨rd, ga⟩, ⟨sC, ⟨restS, sR⟩, k70⟩, ok_same F70 T2 D_mk, b70, kb⟩
  have D_made : Df P w K mg base 8 "_law_made" (spMade CM) := ⟨⟨f47, _, _, ok_made F47 D_mk, PySem.W.mg_of X G a47, k47, b47⟩⟩
  have D_back : Df P w K mg base 1 "_law_back" spBack := ⟨⟨f48, _, _, ok_back F48 T, PySem.W.mg_of X G a48, k48, b48⟩⟩
  have D_named : Df P w K mg base 1 "_law_named" spNamed := ⟨⟨f49, _, _, ok_named F49 T, PySem.W.mg_of X G a49, k49, b49⟩⟩
  have D_others_right : Df P w K mg base 9 "_law_others_right" (spOthers K tS tE tW tD0 CM CS CU) := ⟨⟨f50, _, _, ok_others F50 T6 D_made D_same D_pick D_sound D_boolO D_boolR D_Unsound D_shows_sound, PySem.W.mg_of X G a50, k50, b50⟩⟩
  have D_names_right : Df P w K mg base 9 "_law_names_right" (spNames K tS tE tW tD0 CM CS CU) := ⟨⟨f51, _, _, ok_names F51 T6 D_made D_back D_named D_sound D_boolO D_boolR D_Unsound D_shows_sound, PySem.W.mg_of X G a51, k51, b51⟩⟩
  have D_parts_right : Df P w K mg base 8 "_law_parts_right" (spParts K tS tE tW tD0 CM CS CU) := ⟨⟨f52, _, _, ok_parts F52 T6 D_sound D_boolO D_boolR D_merging D_boolA D_boolB, PySem.W.mg_of X G a52, k52, b52⟩⟩
  refine (ok_law F53 T7 D_pen D_tables D_some_letters D_made D_sound D_others_right D_names_right D_parts_right).imp fun vs H Q E z => ?_
  obtain ⟨a, ns, e1, e2, e3, e4⟩ := z
  refine ⟨a, ns, e1, e2, e3, ⟨⟨sq_known vS H, sq_known vE H, ?_⟩, sq_known vD H⟩, e4⟩
  rw [← ee]
  exact sq_known vW H
theorem walk {l : PySem.W.OpenLaw} {q : Program} {loose : List Str} {XP : (Str → Option Value) → Heap → Prop} {YP : World → Heap → Prop} {d : DefRec} {K : Params → PySem.W.Frag} (hn : l.most = some 63) (hdf : d.params.defaults = [])
    (hY : ∀ (w : World) (h : Heap), YP w h → (K w.params).In h)
    (F : ∀ (w : World) (mg : Str → Option Value) (fa : Addr) (h : Heap), (K w.params).In h → h.Ns mainGlobals mg → mg d.name = some (.ref fa) →
      ∃ fd : FuncData, (∀ (s : Shared) (u : Value), BindsTo s fd ⟨[u], []⟩ [("_law_script", u)]) ∧ ∀ base : Heap, (K w.params).In base → base.Ns mainGlobals mg → FnOk l.prog w (K w.params) mg base CX0 10 fa fd ["_law_script"] (spLaw0 (K w.params))) :
    PySem.W.WalkO q loose XP YP l.row.toRowW d [] (fun f vs => PySem.call f vs) :=
  L2.walk_of (n := 63) (k := 10) (x := "_law_script") (CX := fun _ => CX0) (sp := fun w => spLaw0 (K w.params)) hn (by decide) hdf ⟨rfl, by decide, by decide⟩ hY F (fun _ _ a ns hl _ hS => ⟨a, ns, rfl, hS, hl, fun _ => rfl⟩) fun _ _ _ _ _ z => z
end V8
set_option Elab.async false
set_option linter.all false
set_option maxRecDepth 100000
open PySem PySem.W PyProof.Rows
theorem PySem.W.Fast.te5138594355144747789 : True := trivial
theorem PySem.W.Fast.tw1229770133083546750 : True := trivial
theorem PySem.W.Fast.tw11870613200881591137 : True := trivial
theorem PySem.W.Fast.tw6602378256326430221 : True := trivial
theorem PySem.W.Fast.tw1814196398523322449 : True := trivial
theorem PySem.W.Fast.tw4205776653667414283 : True := trivial
theorem PySem.W.Fast.tw18311746093682543092 : True := trivial
theorem PySem.W.Fast.tw6273460451949995352 : True := trivial
theorem PySem.W.Fast.tw18310451207482232323 : True := trivial
theorem PySem.W.Fast.tw11314562782757510388 : True := trivial
theorem PySem.W.Fast.tw10056618469252539200 : True := trivial
theorem PySem.W.Fast.tw13803181863357825391 : True := trivial
set_option maxHeartbeats 0 in
theorem PySem.Challenge.cw_blindrepair_k55_whole_lists_of_misreadin_holds : PySem.Challenge.rw_blindrepair_k55_whole_lists_of_misreadin.Holds := by
  w_on; o_law; k_head; (case hw => w_witness2)
  k_fill
  refine V8.walk (l := PySem.Challenge.rw_blindrepair_k55_whole_lists_of_misreadin) rfl rfl (fun w h Y => PySem.W.kIn_of Y) ?F
  case F =>
    intro w mg fa h KX G hmg
    refine' V8.all_mk KX G hmg ?aC ?aJ ?aG ?aS ?aU ?aA ?aT ?aO ?aR ?uS ?vS ?uE ?vE ?uW ?vW ?uD ?vD ?a0 ?l0 ?c0 ?k0 ?a1 ?l1 ?c1 ?k1 ?a2 ?l2 ?c2 ?k2 ?a3 ?l3 ?c3 ?k3 ?a4 ?l4 ?c4 ?k4 ?a5 ?l5 ?c5 ?k5 ?a6 ?l6 ?c6 ?k6 ?a7 ?l7 ?c7 ?k7 ?a8 ?l8 ?c8 ?k8 ?a9 ?l9 ?c9 ?k9 ?a10 ?l10 ?c10 ?k10 ?a11 ?l11 ?c11 ?k11 ?a12 ?l12 ?c12 ?k12 ?a13 ?l13 ?c13 ?k13 ?a14 ?l14 ?c14 ?k14 ?a15 ?l15 ?c15 ?k15 ?a16 ?l16 ?c16 ?k16 ?a17 ?l17 ?c17 ?k17 ?a18 ?l18 ?c18 ?k18 ?a19 ?l19 ?c19 ?k19 ?a20 ?l20 ?c20 ?k20 ?a21 ?l21 ?c21 ?k21 ?a22 ?l22 ?c22 ?k22 ?a23 ?l23 ?c23 ?k23 ?a24 ?l24 ?c24 ?k24 ?a25 ?l25 ?c25 ?k25 ?a26 ?l26 ?c26 ?k26 ?a27 ?l27 ?c27 ?k27 ?a28 ?l28 ?c28 ?k28 ?a29 ?l29 ?c29 ?k29 ?a30 ?l30 ?c30 ?k30 ?a31 ?l31 ?c31 ?k31 ?a32 ?l32 ?c32 ?k32 ?a33 ?l33 ?c33 ?k33 ?a34 ?l34 ?c34 ?k34 ?a35 ?l35 ?c35 ?k35 ?a36 ?l36 ?c36 ?k36 ?a37 ?l37 ?c37 ?k37 ?a38 ?l38 ?c38 ?k38 ?a39 ?l39 ?c39 ?k39 ?a40 ?l40 ?c40 ?k40 ?a41 ?l41 ?c41 ?k41 ?a42 ?l42 ?c42 ?k42 ?a43 ?l43 ?c43 ?k43 ?a44 ?l44 ?c44 ?k44 ?a45 ?l45 ?c45 ?k45 ?a46 ?l46 ?c46 ?k46 ?a47 ?l47 ?c47 ?k47 ?a48 ?l48 ?c48 ?k48 ?a49 ?l49 ?c49 ?k49 ?a50 ?l50 ?c50 ?k50 ?a51 ?l51 ?c51 ?k51 ?a52 ?l52 ?c52 ?k52 ?a53 ?l53 ?c53 ?k53 ?a54 ?i54 ?l54 ?c54 ?k54 ?n54 ?a55 ?i55 ?l55 ?c55 ?k55 ?n55 ?a56 ?i56 ?l56 ?c56 ?k56 ?n56 ?a57 ?i57 ?l57 ?c57 ?k57 ?n57 ?a58 ?i58 ?l58 ?c58 ?k58 ?a59 ?i59 ?l59 ?c59 ?k59 ?n59 ?a60 ?i60 ?l60 ?c60 ?k60 ?a61 ?i61 ?l61 ?c61 ?k61 ?n61 ?a62 ?i62 ?l62 ?c62 ?k62 ?a63 ?i63 ?l63 ?c63 ?k63 ?a64 ?i64 ?l64 ?c64 ?k64 ?a65 ?i65 ?l65 ?c65 ?k65 ?a66 ?i66 ?l66 ?c66 ?k66 ?n66 ?a67 ?i67 ?l67 ?c67 ?k67 ?a68 ?i68 ?l68 ?c68 ?k68 ?n68 ?a69 ?i69 ?l69 ?c69 ?k69 ?tI ?sC ?sR ?l70 ?c70 ?k70 ?rd ?ga ?pg ?hd ?po ?sa ?mk ?kc ?nL ?nI ?nC ?tA ?tD ?ne ?tB ?tC ?rp ?h1 ?h2 ?os_int ?ow_int ?ow_str ?ow_dict ?pgJ ?hdJ ?poJ ?saJ ?nJ ?jA ?jD ?pgS ?hdS ?poS ?saS ?mkS ?kcS ?pgU ?hdU ?poU ?saU ?mkU ?kcU ?pgA ?hdA ?poA ?saA ?mkA ?kcA ?pgT ?hdT ?poT ?saT ?mkT ?kcT ?pgG ?hdG ?poG ?saG ?mkG ?kcG ?pgO ?hdO ?poO ?saO ?mkO ?kcO ?pgR ?hdR ?poR ?saR ?mkR ?kcR ?tAA ?tDA ?neA ?tAT ?tDT ?neT ?tAU ?tDU ?neU ?tAO ?tDO ?neO ?tAR ?tDR ?neR ?nS1 ?nU1 ?nU2 ?nU3 ?nU4 ?nA1 ?nA2 ?nT1 ?nT2 ?nT3 ?nG1 ?nG2 ?nG3 ?nO1 ?nO2 ?nR1 ?nR2 ?ok_int ?ok_str ?ok_dict ?kdJ ?kMM ?kMJ ?kMs ?kls ?kOO ?kRR ?kUU ?kUS ?kJJ ?kA_list ?kA_tuple ?kA_dict ?kT_list ?kT_tuple ?kT_dict ?kll ?ktl ?ktt ?g1 ?g2 ?g3 ?g4 ?g5 ?g6 ?g7 ?z_list ?z_int ?z_len ?z_abs ?z_range ?z_dict ?z_str ?z_sorted ?z_tuple ?z_isinstance ?z_iter ?z_enumerate ?z_all ?z_bool ?z_any ?z_zip ?z_set ?z_repr
    (case aC => k_is)
    (case aJ => k_is)
    (case aG => k_is)
    (case aS => k_is)
    (case aU => k_is)
    (case aA => k_is)
    (case aT => k_is)
    (case aO => k_is)
    (case aR => k_is)
    (case uS => k_is)
    (case vS => k_is)
    (case uE => k_is)
    (case vE => k_is)
    (case uW => k_is)
    (case vW => k_is)
    (case uD => k_is)
    (case vD => k_is)
    (case a0 => k_is)
    (case l0 => k_is)
    (case c0 => k_is)
    (case k0 => k_is)
    (case a1 => k_is)
    (case l1 => k_is)
    (case c1 => k_is)
    (case k1 => k_is)
    (case a2 => k_is)
    (case l2 => k_is)
    (case c2 => k_is)
    (case k2 => k_is)
    (case a3 => k_is)
    (case l3 => k_is)
    (case c3 => k_is)
    (case k3 => k_is)
    (case a4 => k_is)
    (case l4 => k_is)
    (case c4 => k_is)
    (case k4 => k_is)
    (case a5 => k_is)
    (case l5 => k_is)
    (case c5 => k_is)
    (case k5 => k_is)
    (case a6 => k_is)
    (case l6 => k_is)
    (case c6 => k_is)
    (case k6 => k_is)
    (case a7 => k_is)
    (case l7 => k_is)
    (case c7 => k_is)
    (case k7 => k_is)
    (case a8 => k_is)
    (case l8 => k_is)
    (case c8 => k_is)
    (case k8 => k_is)
    (case a9 => k_is)
    (case l9 => k_is)
    (case c9 => k_is)
    (case k9 => k_is)
    (case a10 => k_is)
    (case l10 => k_is)
    (case c10 => k_is)
    (case k10 => k_is)
    (case a11 => k_is)
    (case l11 => k_is)
    (case c11 => k_is)
    (case k11 => k_is)
    (case a12 => k_is)
    (case l12 => k_is)
    (case c12 => k_is)
    (case k12 => k_is)
    (case a13 => k_is)
    (case l13 => k_is)
    (case c13 => k_is)
    (case k13 => k_is)
    (case a14 => k_is)
    (case l14 => k_is)
    (case c14 => k_is)
    (case k14 => k_is)
    (case a15 => k_is)
    (case l15 => k_is)
    (case c15 => k_is)
    (case k15 => k_is)
    (case a16 => k_is)
    (case l16 => k_is)
    (case c16 => k_is)
    (case k16 => k_is)
    (case a17 => k_is)
    (case l17 => k_is)
    (case c17 => k_is)
    (case k17 => k_is)
    (case a18 => k_is)
    (case l18 => k_is)
    (case c18 => k_is)
    (case k18 => k_is)
    (case a19 => k_is)
    (case l19 => k_is)
    (case c19 => k_is)
    (case k19 => k_is)
    (case a20 => k_is)
    (case l20 => k_is)
    (case c20 => k_is)
    (case k20 => k_is)
    (case a21 => k_is)
    (case l21 => k_is)
    (case c21 => k_is)
    (case k21 => k_is)
    (case a22 => k_is)
    (case l22 => k_is)
    (case c22 => k_is)
    (case k22 => k_is)
    (case a23 => k_is)
    (case l23 => k_is)
    (case c23 => k_is)
    (case k23 => k_is)
    (case a24 => k_is)
    (case l24 => k_is)
    (case c24 => k_is)
    (case k24 => k_is)
    (case a25 => k_is)
    (case l25 => k_is)
    (case c25 => k_is)
    (case k25 => k_is)
    (case a26 => k_is)
    (case l26 => k_is)
    (case c26 => k_is)
    (case k26 => k_is)
    (case a27 => k_is)
    (case l27 => k_is)
    (case c27 => k_is)
    (case k27 => k_is)
    (case a28 => k_is)
    (case l28 => k_is)
    (case c28 => k_is)
    (case k28 => k_is)
    (case a29 => k_is)
    (case l29 => k_is)
    (case c29 => k_is)
    (case k29 => k_is)
    (case a30 => k_is)
    (case l30 => k_is)
    (case c30 => k_is)
    (case k30 => k_is)
    (case a31 => k_is)
    (case l31 => k_is)
    (case c31 => k_is)
    (case k31 => k_is)
    (case a32 => k_is)
    (case l32 => k_is)
    (case c32 => k_is)
    (case k32 => k_is)
    (case a33 => k_is)
    (case l33 => k_is)
    (case c33 => k_is)
    (case k33 => k_is)
    (case a34 => k_is)
    (case l34 => k_is)
    (case c34 => k_is)
    (case k34 => k_is)
    (case a35 => k_is)
    (case l35 => k_is)
    (case c35 => k_is)
    (case k35 => k_is)
    (case a36 => k_is)
    (case l36 => k_is)
    (case c36 => k_is)
    (case k36 => k_is)
    (case a37 => k_is)
    (case l37 => k_is)
    (case c37 => k_is)
    (case k37 => k_is)
    (case a38 => k_is)
    (case l38 => k_is)
    (case c38 => k_is)
    (case k38 => k_is)
    (case a39 => k_is)
    (case l39 => k_is)
    (case c39 => k_is)
    (case k39 => k_is)
    (case a40 => k_is)
    (case l40 => k_is)
    (case c40 => k_is)
    (case k40 => k_is)
    (case a41 => k_is)
    (case l41 => k_is)
    (case c41 => k_is)
    (case k41 => k_is)
    (case a42 => k_is)
    (case l42 => k_is)
    (case c42 => k_is)
    (case k42 => k_is)
    (case a43 => k_is)
    (case l43 => k_is)
    (case c43 => k_is)
    (case k43 => k_is)
    (case a44 => k_is)
    (case l44 => k_is)
    (case c44 => k_is)
    (case k44 => k_is)
    (case a45 => k_is)
    (case l45 => k_is)
    (case c45 => k_is)
    (case k45 => k_is)
    (case a46 => k_is)
    (case l46 => k_is)
    (case c46 => k_is)
    (case k46 => k_is)
    (case a47 => k_is)
    (case l47 => k_is)
    (case c47 => k_is)
    (case k47 => k_is)
    (case a48 => k_is)
    (case l48 => k_is)
    (case c48 => k_is)
    (case k48 => k_is)
    (case a49 => k_is)
    (case l49 => k_is)
    (case c49 => k_is)
    (case k49 => k_is)
    (case a50 => k_is)
    (case l50 => k_is)
    (case c50 => k_is)
    (case k50 => k_is)
    (case a51 => k_is)
    (case l51 => k_is)
    (case c51 => k_is)
    (case k51 => k_is)
    (case a52 => k_is)
    (case l52 => k_is)
    (case c52 => k_is)
    (case k52 => k_is)
    (case a53 => k_is)
    (case l53 => k_is)
    (case c53 => k_is)
    (case k53 => k_is)
    (case a54 => k_is)
    (case i54 => k_is)
    (case l54 => k_is)
    (case c54 => k_is)
    (case k54 => k_is)
    (case n54 => k_is)
    (case a55 => k_is)
    (case i55 => k_is)
    (case l55 => k_is)
    (case c55 => k_is)
    (case k55 => k_is)
    (case n55 => k_is)
    (case a56 => k_is)
    (case i56 => k_is)
    (case l56 => k_is)
    (case c56 => k_is)
    (case k56 => k_is)
    (case n56 => k_is)
    (case a57 => k_is)
    (case i57 => k_is)
    (case l57 => k_is)
    (case c57 => k_is)
    (case k57 => k_is)
    (case n57 => k_is)
    (case a58 => k_is)
    (case i58 => k_is)
    (case l58 => k_is)
    (case c58 => k_is)
    (case k58 => k_is)
    (case a59 => k_is)
    (case i59 => k_is)
    (case l59 => k_is)
    (case c59 => k_is)
    (case k59 => k_is)
    (case n59 => k_is)
    (case a60 => k_is)
    (case i60 => k_is)
    (case l60 => k_is)
    (case c60 => k_is)
    (case k60 => k_is)
    (case a61 => k_is)
    (case i61 => k_is)
    (case l61 => k_is)
    (case c61 => k_is)
    (case k61 => k_is)
    (case n61 => k_is)
    (case a62 => k_is)
    (case i62 => k_is)
    (case l62 => k_is)
    (case c62 => k_is)
    (case k62 => k_is)
    (case a63 => k_is)
    (case i63 => k_is)
    (case l63 => k_is)
    (case c63 => k_is)
    (case k63 => k_is)
    (case a64 => k_is)
    (case i64 => k_is)
    (case l64 => k_is)
    (case c64 => k_is)
    (case k64 => k_is)
    (case a65 => k_is)
    (case i65 => k_is)
    (case l65 => k_is)
    (case c65 => k_is)
    (case k65 => k_is)
    (case a66 => k_is)
    (case i66 => k_is)
    (case l66 => k_is)
    (case c66 => k_is)
    (case k66 => k_is)
    (case n66 => k_is)
    (case a67 => k_is)
    (case i67 => k_is)
    (case l67 => k_is)
    (case c67 => k_is)
    (case k67 => k_is)
    (case a68 => k_is)
    (case i68 => k_is)
    (case l68 => k_is)
    (case c68 => k_is)
    (case k68 => k_is)
    (case n68 => k_is)
    (case a69 => k_is)
    (case i69 => k_is)
    (case l69 => k_is)
    (case c69 => k_is)
    (case k69 => k_is)
    (case tI => k_is)
    (case sC => k_is)
    (case sR => k_is)
    (case l70 => k_is)
    (case c70 => k_is)
    (case k70 => k_is)
    (case rd => k_is)
    (case ga => k_is)
    (case pg => k_is)
    (case hd => k_is)
    (case po => k_is)
    (case sa => k_is)
    (case mk => k_is)
    (case kc => k_is)
    (case nL => k_is)
    (case nI => k_is)
    (case nC => k_is)
    (case tA => k_is)
    (case tD => k_is)
    (case ne => k_is)
    (case tB => k_is)
    (case tC => k_is)
    (case rp => k_is)
    (case h1 => k_is)
    (case h2 => k_is)
    (case os_int => k_is)
    (case ow_int => k_is)
    (case ow_str => k_is)
    (case ow_dict => k_is)
    (case pgJ => k_is)
    (case hdJ => k_is)
    (case poJ => k_is)
    (case saJ => k_is)
    (case nJ => k_is)
    (case jA => k_is)
    (case jD => k_is)
    (case pgS => k_is)
    (case hdS => k_is)
    (case poS => k_is)
    (case saS => k_is)
    (case mkS => k_is)
    (case kcS => k_is)
    (case pgU => k_is)
    (case hdU => k_is)
    (case poU => k_is)
    (case saU => k_is)
    (case mkU => k_is)
    (case kcU => k_is)
    (case pgA => k_is)
    (case hdA => k_is)
    (case poA => k_is)
    (case saA => k_is)
    (case mkA => k_is)
    (case kcA => k_is)
    (case pgT => k_is)
    (case hdT => k_is)
    (case poT => k_is)
    (case saT => k_is)
    (case mkT => k_is)
    (case kcT => k_is)
    (case pgG => k_is)
    (case hdG => k_is)
    (case poG => k_is)
    (case saG => k_is)
    (case mkG => k_is)
    (case kcG => k_is)
    (case pgO => k_is)
    (case hdO => k_is)
    (case poO => k_is)
    (case saO => k_is)
    (case mkO => k_is)
    (case kcO => k_is)
    (case pgR => k_is)
    (case hdR => k_is)
    (case poR => k_is)
    (case saR => k_is)
    (case mkR => k_is)
    (case kcR => k_is)
    (case tAA => k_is)
    (case tDA => k_is)
    (case neA => k_is)
    (case tAT => k_is)
    (case tDT => k_is)
    (case neT => k_is)
    (case tAU => k_is)
    (case tDU => k_is)
    (case neU => k_is)
    (case tAO => k_is)
    (case tDO => k_is)
    (case neO => k_is)
    (case tAR => k_is)
    (case tDR => k_is)
    (case neR => k_is)
    (case nS1 => k_is)
    (case nU1 => k_is)
    (case nU2 => k_is)
    (case nU3 => k_is)
    (case nU4 => k_is)
    (case nA1 => k_is)
    (case nA2 => k_is)
    (case nT1 => k_is)
    (case nT2 => k_is)
    (case nT3 => k_is)
    (case nG1 => k_is)
    (case nG2 => k_is)
    (case nG3 => k_is)
    (case nO1 => k_is)
    (case nO2 => k_is)
    (case nR1 => k_is)
    (case nR2 => k_is)
    (case ok_int => first | kit_is | exact L2.kit_ty (by decide +kernel))
    (case ok_str => first | kit_is | exact L2.kit_ty (by decide +kernel))
    (case ok_dict => first | kit_is | exact L2.kit_ty (by decide +kernel))
    (case kdJ => first | kit_is | exact L2.kit_ty (by decide +kernel))
    (case kMM => first | kit_is | exact L2.kit_ty (by decide +kernel))
    (case kMJ => first | kit_is | exact L2.kit_ty (by decide +kernel))
    (case kMs => first | kit_is | exact L2.kit_ty (by decide +kernel))
    (case kls => first | kit_is | exact L2.kit_ty (by decide +kernel))
    (case kOO => first | kit_is | exact L2.kit_ty (by decide +kernel))
    (case kRR => first | kit_is | exact L2.kit_ty (by decide +kernel))
    (case kUU => first | kit_is | exact L2.kit_ty (by decide +kernel))
    (case kUS => first | kit_is | exact L2.kit_ty (by decide +kernel))
    (case kJJ => first | kit_is | exact L2.kit_ty (by decide +kernel))
    (case kA_list => first | kit_is | exact L2.kit_ty (by decide +kernel))
    (case kA_tuple => first | kit_is | exact L2.kit_ty (by decide +kernel))
    (case kA_dict => first | kit_is | exact L2.kit_ty (by decide +kernel))
    (case kT_list => first | kit_is | exact L2.kit_ty (by decide +kernel))
    (case kT_tuple => first | kit_is | exact L2.kit_ty (by decide +kernel))
    (case kT_dict => first | kit_is | exact L2.kit_ty (by decide +kernel))
    (case kll => first | kit_is | exact L2.kit_ty (by decide +kernel))
    (case ktl => first | kit_is | exact L2.kit_ty (by decide +kernel))
    (case ktt => first | kit_is | exact L2.kit_ty (by decide +kernel))
    (case g1 => k_is)
    (case g2 => k_is)
    (case g3 => k_is)
    (case g4 => k_is)
    (case g5 => k_is)
    (case g6 => k_is)
    (case g7 => k_is)
    (case z_list => k_is)
    (case z_int => k_is)
    (case z_len => k_is)
    (case z_abs => k_is)
    (case z_range => k_is)
    (case z_dict => k_is)
    (case z_str => k_is)
    (case z_sorted => k_is)
    (case z_tuple => k_is)
    (case z_isinstance => k_is)
    (case z_iter => k_is)
    (case z_enumerate => k_is)
    (case z_all => k_is)
    (case z_bool => k_is)
    (case z_any => k_is)
    (case z_zip => k_is)
    (case z_set => k_is)
    (case z_repr => k_is)
