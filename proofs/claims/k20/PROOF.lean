import PyProof.Rows.All
import Wide.All
import OpenK.AllK
import Wide.FinOn
import HandS.ForMost
import HandS.OwnEq
import HandS.Wide
import HandS.DictComp
import HandS.IsInst
import HandS.Codes
import HandS.Flow
import PyProof.ListStr
import PyProof.InstNe
import KE.KCallOwn
import KE.KOwnIter
import KE.KFmtOwn
import HandS.Style
import HandS.IterNext
import HandS.StrMore
import HandS.MakeKw
import HandS.IterVal
import HandS.More
import PyProof.DictUpdate
import HandS.RaiseMore
import HandS.Walk
import HandS.FStr
import HandS.ClsMeth
import HandS.MakeKwOnly
import HandS.ExcInit
import KE.GoesMore
import KE.KOpsOwn
import HandS.Star
import HandS.TryOnly
import HandS.ExcValue
import HandS.ExcIs
import HandS.Lambda
import KE.KExcIs
import HandS.Zip
import KE.GoesZip
import PyProof.Rows.StrMul
import KE.KEqDict
import PyProof.P3Eq
import KE.GoesEnum
import PyProof.CallFns
import PyProof.InstEq
import PyProof.ReprRoads
import HandS.WordsExc
import HandS.RaiseFrom
import PySem.Challenge.RW_blindrepair_k20_merging_refused
import HandS.Defaults
import KE.KxText
import PyProof.Rows.StrReprJoin
import PyProof.DictTable
import PyProof.DictRoadsH
import KE.KeyNested
import PyProof.DictKind
import PyProof.DictFindH
import HandS.Dict
import HandS.Small
import HandS.Iter
import HandS.TupLen
import PyProof.StrLawsAffix
import PyProof.Rows.SortStr
import PyProof.Rows.StrMeet
import PyProof.Rows.Range3
import OpenK.KOps
import HandS.Strs
import HandS.Text
import KE.KRevSl
import HandS.SortInts
import PyProof.Rows.SortKeyStr
import HandS.EndTab
import PyProof.Rows.RegStrFacts
import PyProof.NeKinds
import HandS.EndOwn
import KE.RegKIsAll
set_option Elab.async false
set_option linter.all false
set_option maxRecDepth 100000
set_option maxHeartbeats 4000000
/-! Rules of our own: the methods with two underscores of a text's own class, called by Python's signs; list(text). -/
namespace L2
open PySem PySem.Spec PyProof.Rows
section
variable {X : Cx} {n : Nat} {CX : CXT} {C f : Addr} {fd : FuncData} {ps : List Str} {sp : Sp} {E : XK}
/-- a def that is called from within a built-in -/
theorem run_own {A : Around} {pins : List (Addr × Obj)} {σ : St} {H : Hp} {s : Shared} {Q : VK} {us : List Value} {vs : List V} (sb : Sub X n A) (F : FnOk X.prog X.w X.K X.mg X.base CX n f fd ps sp) (hb : Binds X.K fd ps []) (hx : Passes CX X E)
    (I : Inv X pins σ H s) (r : Vals vs us) (h : sp vs H Q E) : wpAny (model X.prog X.w) A (call (.ref f) us) (EP X pins σ Q) X.xe s := by
  have e0 : Env0 X.prog X.w X.K X.mg X.base A X.stack s H := by
    have e := I.env0
    exact ⟨by rw [sb.fr]; exact e.frames, e.mod, e.bs, e.bsz, e.funs, e.frf, e.hok, e.bare⟩
  have hl := F.len _ _ _ _ h
  have hl2 : us.length = ps.length := by rw [← r.length]; exact hl
  refine wpAny_call (codeAny_mono (F.run A X.stack s H ⟨us, []⟩ us vs Q E sb.room e0 (by
    have := hb s us I.kIn (by simpa using hl2)
    simpa using this) r h) fun r s' hq => ?_)
  cases r with
  | error e => exact hx pins σ H s e s' I hq
  | ok fl =>
    cases fl with
    | ret w => exact I.after hq
    | next => exact False.elim hq
    | brk => exact False.elim hq
    | cont => exact False.elim hq
/-- the instance that H tells, for the library's rules -/
theorem inst_at {pins : List (Addr × Obj)} {σ : St} {H : Hp} {s : Shared} {a dx : Addr} {fs : List (Str × V)} (I : Inv X pins σ H s) (ha : H a = some (.ins C dx fs)) : ∃ od, PySem.W.InstAt s.heap a (PySem.W.instObj C dx) C od := by
  obtain ⟨mA, J, _⟩ := ins_get I.hok ha
  obtain ⟨od, J, _⟩ := J.look
  exact ⟨od, J⟩
/-- where one stands in a built-in, once or twice deeper -/
theorem Sub.here (hr : Room n X.A) : Sub X n X.A := ⟨hr, rfl⟩
/-- the facts of a method that a sign calls -/
structure Own (K : PySem.W.Frag) (C : Addr) (m : Str) (f : Addr) : Prop where
  find : PySem.W.findIn K (.ref C) m = some (some (.ref f))
  fn : PySem.W.isFn K (.ref f) = true
/-- list(text) -/
theorem call_listS (hc : X.calm = true) : CallR X (.type "list") (fun xs H Q => ∃ z, xs = [.str z] ∧ z.length ≤ sizeLine ∧ ∀ l, H l = none → Q (.ref l) (upd H l (.lst (z.cps.toList.map fun c => V.str ⟨#[c]⟩)))) := by
  intro pins s σ H xs us Q I r h
  obtain ⟨z, rfl, hz, q⟩ := h
  obtain ⟨u, rfl, t, rfl⟩ := vals1 r
  refine call_list_str (I.ok.hd hc) z t (fun h' tk acc c' kp e it => ?_) hz
  have rv : ∀ (xs : List Nat) (acc : List Value), acc.length = xs.length → (∀ (j : Nat) (v : Value), acc[j]? = some v → ∃ (c : Nat) (u : Tok), xs[j]? = some c ∧ v = Value.str ⟨#[c]⟩ u) → Vals (xs.map fun c => V.str ⟨#[c]⟩) acc := by
    intro xs
    induction xs with
    | nil =>
      intro acc hl _
      cases acc with
      | nil => exact .nil
      | cons a r => cases hl
    | cons x xs ih =>
      intro acc hl hi
      cases acc with
      | nil => cases hl
      | cons a r =>
        obtain ⟨c, u, e1, e2⟩ := hi 0 a rfl
        have e1' : x = c := by simpa using e1
        subst e1'
        exact .cons ⟨u, e2⟩ (ih r (by simpa using hl) fun j v hj => by
          obtain ⟨c, u, e1, e2⟩ := hi (j + 1) v (by simpa using hj)
          exact ⟨c, u, by simpa using e1, e2⟩)
  have R : Vals (z.cps.toList.map fun c => V.str ⟨#[c]⟩) acc.toList := rv _ _ (by rw [Array.length_toList, it.1, Array.length_toList]) fun j v hj => by
    obtain ⟨c, u, e1, e2⟩ := it.2 j v (by rw [← Array.getElem?_toList]; exact hj)
    exact ⟨c, u, by rw [Array.getElem?_toList]; exact e1, e2⟩
  refine ⟨.ref s.heap.objs.size, _, I.laid (t' := tk) kp (Nat.le_refl _) (show ObjOk X.prog X.w _ h' _ (.lst _) from ⟨?_, acc.toList, c', R, by rw [Array.toArray_toList]; exact e⟩), rfl, q _ (I.hok.fresh (Nat.le_refl _))⟩
  rw [List.length_map, Array.length_toList]
  exact hz
/-- o[k] by an own __getitem__ -/
theorem pe_ixOwn {a b : Expr} {ta tb : TE} {pos : Pos} (F : FnOk X.prog X.w X.K X.mg X.base CX n f fd ps sp) (hb : Binds X.K fd ps []) (hx : Passes CX X E) (o : Own X.K C "__getitem__" f) (hf : PySem.W.fnIn X.K f = true) (hr : Room (n + 1) X.A) (hA : PE X a ta) (hB : PE X b tb)
    (hsl : ∀ v u, subscripted b true v u = runValue (.builtin "lifetime.subscript" ⟨[v, u], []⟩) := by intro _ _; rfl) :
    PE X (.Subscript a b pos) (tOp (fun x y H Q => ∃ a dx fs, x = .ref a ∧ H a = some (.ins C dx fs) ∧ sp [.ref a, y] H Q E) ta tb) := by
  refine ⟨fun pins s σ H Q I h => ?_⟩
  refine Subscript_ (binT hA hB I h fun v u s2 x y H2 I2 rx ry q => ?_)
  obtain ⟨a, dx, fs, rfl, ha, hs⟩ := q
  cases rx
  obtain ⟨od, J⟩ := inst_at I2 ha
  obtain ⟨m, hF⟩ := I2.fr
  exact PySem.W.sub_K hF I2.ok.mod.kin J o.find hf o.fn (run_own (Sub.here hr).in1 F hb hx I2 (show Vals [V.ref a, y] [Value.ref a, u] from .cons rfl (.cons ry .nil)) hs) (hsl _ _)
end
end L2
set_option Elab.async false
set_option linter.all false
set_option maxRecDepth 100000
set_option maxHeartbeats 4000000
/-! == and != by an own __eq__ that gives True or False. -/
namespace PySem.W
open PySem PySem.Calls PyProof.Rows Builtin
end PySem.W
namespace L2
open PySem PySem.Spec PyProof.Rows
section
variable {X : Cx} {n : Nat} {CX : CXT} {C f : Addr} {fd : FuncData} {ps : List Str} {sp : Sp} {E : XK}
def rEqOwn (K : PySem.W.Frag) (C : Addr) (sp : Sp) (E : XK) (g : Bool → Bool) : R2 := fun x y H Q => ∃ a dx fs tb, x = .ref a ∧ H a = some (.ins C dx fs) ∧ TyX K H y tb ∧ PySem.W.notFirst K C tb = true ∧ sp [.ref a, y] H (fun v H' => ∃ b, v = .bl b ∧ Q (.bl (g b)) H') E
theorem op_eqOwn (F : FnOk X.prog X.w X.K X.mg X.base CX n f fd ps sp) (hb : Binds X.K fd ps []) (hx : Passes CX X E) (o : Own X.K C "__eq__" f) (hr : Room n X.A) : OpR X (compareOp .Eq) (rEqOwn X.K C sp E id) := by
  intro pins s σ H x y v u Q I rx ry h
  obtain ⟨a, dx, fs, tb, rfl, ha, ty, hn, hs⟩ := h
  cases rx
  obtain ⟨od, J⟩ := inst_at I ha
  obtain ⟨m, hF⟩ := I.fr
  obtain ⟨P, Z, p, _⟩ := kit_of I ry ty
  refine PySem.W.cmp_K (op := .Eq) hr.units0 hF I.ok.mod.kin J (Z.ty _ _ I.kIn p) hn o.find o.fn (thn (run_own (Sub.here hr) F hb hx I (show Vals [V.ref a, y] [Value.ref a, u] from .cons rfl (.cons ry .nil)) hs) fun v s' q => ?_)
  obtain ⟨y, H', I', ry, b, rfl, q⟩ := q
  cases ry
  exact ⟨.bl b, H', I', rfl, q⟩
end
end L2
set_option Elab.async false
set_option linter.all false
set_option maxRecDepth 100000
set_option maxHeartbeats 4000000
/-! for x in o, by an own __iter__ that gives iter(a tuple). -/
namespace L2
open PySem PySem.Spec PyProof.Rows ItX
abbrev itTObj (l : Addr) : Obj := { cls := .type "tuple_iterator", data := .fields #[.ref l, .int 0 0] }
/-- at it a fresh iterator of the tuple at l -/
def ItT (l it : Addr) : HO := .ext fun h => h.get? it = some (itTObj l)
theorem itT_ok {P : Program} {w : World} {H : Hp} {h : Heap} {l it : Addr} (e : h.get? it = some (itTObj l)) : ObjOk P w H h it (ItT l it) := ⟨e, ⟨_, e⟩, fun h1 h2 q k => k _ q⟩
theorem call_iterTup {prog : Program} {w : World} {A : Around} {E : Value → Shared → Prop} {s : Shared} {l : Addr} {items : Array Value} {Q : Value → Shared → Prop} (hl : s.heap.IsTuple l items) (h : Q (.ref s.heap.objs.size) { s with heap := s.heap.push (itTObj l) }) : wpAny (model prog w) A (call (.builtin "iter") [.ref l]) Q E s := by
  refine Calls.call_function_entry (by decide +kernel) (by decide +kernel) PySem.W.kdk_entry_iter (PySem.W.kdk_args_iter _) ?_
  unfold Builtin.«iter»
  refine wpAny_bind (m := someArgs "iter" 1 2 _) (wpAny_of_eq (a := [Value.ref l]) (by first | rfl | kernel_rfl!) ?_)
  show wpAny _ _ (pyIter (.ref l) >>= _) _ _ _
  refine wpAny_bind (wpAny_pyIter_tuple hl ?_)
  exact wpAny_pure ⟨_, rfl, h⟩
section
variable {X : Cx}
theorem call_iterT : CallR X (.builtin "iter") (fun xs H Q => ∃ (l : Addr) (zs : List V), xs = [.ref l] ∧ SqT X.K H l zs ∧ ∀ it, H it = none → X.s_0.heap.objs.size ≤ it → Q (.ref it) (upd H it (ItT l it))) := by
  intro pins s σ H xs us Q I r h
  obtain ⟨l, zs, rfl, hq, q⟩ := h
  obtain rfl := Vals.ref1 r
  obtain ⟨its, rv, pl, hz⟩ := I.tuple hq
  refine call_iterTup (show s.heap.IsTuple l its.toArray from pl) ?_
  exact ⟨.ref s.heap.objs.size, _, I.laid (t' := s.toks) (fun b u e => Heap.get?_push_of_some _ e) (Nat.le_refl _) (itT_ok (Heap.get?_push_size _ rfl)), rfl, q _ (I.hok.fresh (Nat.le_refl _)) I.sz⟩
variable {n : Nat} {CX : CXT} {C f : Addr} {fd : FuncData} {ps : List Str} {sp : Sp} {E : XK}
/-- a def whose promise may speak of how many objects stand at its entry -/
structure FnN (P : Program) (w : World) (K : PySem.W.Frag) (mg : Str → Option Value) (base : Heap) (CX : CXT) (k : Nat) (f : Addr) (fd : FuncData) (ps : List Str) (sn : Nat → Sp) : Prop where
  many : ∀ m vs H Q E, sn m vs H Q E → vs.length = ps.length
  goes : ∀ (A : Around) (outer : List Env) (s : Shared) (H : Hp) (args : Args) (us : List Value) (vs : List V) (Q : VK) (E : XK), Room k A → Env0 P w K mg base A outer s H → BindsTo s fd args (ps.zip us) → Vals vs us →
    sn s.heap.objs.size vs H Q E → codeAny (model P w) A (.call (.ref f) args) (CR CX outer P w H s Q E) s
theorem fnN_mk {CX : CXT} {P : Program} {w : World} {K : PySem.W.Frag} {mg : Str → Option Value} {base : Heap} {k : Nat} {f : Addr} {x qual : Str} {st : Stmt} {fd : FuncData} {N ps : List Str} {sn : Nat → Sp}
    (F : Fun K x qual st f fd) (S : FnScope N ps (defScope st)) (many : ∀ m vs H Q E, sn m vs H Q E → vs.length = ps.length)
    (body : ∀ (cdv : Value) (A : Around) (outer : List Env) (s : Shared) (H : Hp) (vs : List V) (Q : VK) (E : XK), Room k (A.deeper (envOfC qual (defScope st) s.heap.objs.size f cdv)) → sn s.heap.objs.size vs H Q E →
      ∃ t, PSs (cxOf CX P w K mg base N qual (defScope st) f cdv A outer s H E) (defBody st) t ∧ t { nx := fun _ H' => Q .non H', rt := Q } (start N vs) H) : FnN P w K mg base CX (k + 1) f fd ps sn := by
  obtain ⟨oc, od, kV, doc, pm, an, cdv, ct, osl, rfl, lk, hcd⟩ := F.ex
  refine ⟨many, fun A₁ out s₁ H₁ ar us₁ vs₁ Q₁ E₁ room ev bd rel prom => ?_⟩
  have len₁ := many _ _ _ _ _ prom
  have kin₁ : K.In s₁.heap := ev.mod.kin.keeps (fun a o z => (ev.bs a o z).left)
  have kinds : ∀ y ∈ ps.zip us₁, (defScope st).names.lookup y.1 = some .local ∨ ((defScope st).names.lookup y.1 = some .cell ∧ ((cellsFrom (s₁.heap.objs.size + 1) (defScope st).names []).lookup y.1).isSome = true) := by
    rintro ⟨nm, vl⟩ mem
    rcases S.par nm (List.of_mem_zip mem).1 with z | z
    · exact Or.inl z
    · exact Or.inr ⟨z, PySem.W.cellsFrom_some _ _ _ (Or.inl z)⟩
  refine codeAny_call_function room.depth (kin₁ _ _ lk) rfl S.co S.gen rfl (PySem.W.codeRec_of kin₁ hcd) (bd _ _ _ _ ?_)
  refine wpAny_newFunctionEnv_cells S.kind kinds (fun e₁ is₁ s₂ made => ?_)
  subst is₁
  refine ⟨Heap.NoLimit.keeps (ev.mod.nolimit.keeps fun a o z => (ev.bs a o z).left) made.toInCall.keep, codeAny_func ?_⟩
  obtain ⟨t₁, term, reads⟩ := body cdv A₁ out s₁ H₁ vs₁ Q₁ E₁ (room.deeper _) prom
  have inv₁ := inv_start (CX := CX) (P := P) (w := w) (mg := mg) (base := base) (E := E₁) S room.hd ev len₁ rel made
  refine wpAny_mono (term.run [] s₂ (start N vs₁) H₁ _ inv₁ reads) (fun flow s₃ done => ?_) (fun _ _ z => z)
  cases flow with
  | ret u₁ =>
    obtain ⟨v₁, _, H₂, J, rv, q⟩ := done
    exact ⟨v₁, H₂, J.os, J.bare, J.base, J.hok, rv, q⟩
  | next =>
    obtain ⟨_, H₂, J, q⟩ := done
    exact ⟨V.non, H₂, J.os, J.bare, J.base, J.hok, rfl, q⟩
  | brk => exact (done.elim fun _ z => z.elim fun _ z => z.2).elim
  | cont => exact (done.elim fun _ z => z.elim fun _ z => z.2).elim
variable {sn : Nat → Sp}
theorem run_N {A : Around} {pins : List (Addr × Obj)} {σ : St} {H : Hp} {s : Shared} {Q : VK} {us : List Value} {vs : List V} (sb : Sub X n A) (F : FnN X.prog X.w X.K X.mg X.base CX n f fd ps sn) (hb : Binds X.K fd ps []) (hx : Passes CX X E)
    (I : Inv X pins σ H s) (r : Vals vs us) (h : sn s.heap.objs.size vs H Q E) : wpAny (model X.prog X.w) A (call (.ref f) us) (EP X pins σ Q) X.xe s := by
  have e0 : Env0 X.prog X.w X.K X.mg X.base A X.stack s H := by
    have e := I.env0
    exact ⟨by rw [sb.fr]; exact e.frames, e.mod, e.bs, e.bsz, e.funs, e.frf, e.hok, e.bare⟩
  have hl := F.many _ _ _ _ _ h
  have hl2 : us.length = ps.length := by rw [← r.length]; exact hl
  refine wpAny_call (codeAny_mono (F.goes A X.stack s H ⟨us, []⟩ us vs Q E sb.room e0 (by
    have := hb s us I.kIn (by simpa using hl2)
    simpa using this) r h) fun r s' hq => ?_)
  cases r with
  | error e => exact hx pins σ H s e s' I hq
  | ok fl =>
    cases fl with
    | ret w => exact I.after hq
    | next => exact False.elim hq
    | brk => exact False.elim hq
    | cont => exact False.elim hq
def iOwn (K : PySem.W.Frag) (C : Addr) (m : Nat) (sn : Nat → Sp) (E : XK) (tl : TE) : TI := fun σ H R => tl σ H fun x H1 => ∃ a dx fs, x = .ref a ∧ H1 a = some (.ins C dx fs) ∧
  ∀ k, m ≤ k → sn k [.ref a] H1 (fun v H' => ∃ it t, v = .ref it ∧ k ≤ it ∧ H' it = some (ItT t it) ∧ R (Itt K t) (dropH H' it)) E
theorem pi_own {tg l : Expr} {tl : TE} (F : FnN X.prog X.w X.K X.mg X.base CX n f fd ps sn) (hb : Binds X.K fd ps []) (hx : Passes CX X E) (o : Own X.K C "__iter__" f) (hr : Room n X.A) (hl : PE X l tl) : PI X tg l (iOwn X.K C X.s_0.heap.objs.size sn E tl) := by
  refine ⟨fun pins s σ H R I h => ?_⟩
  refine thn (hl.run pins s σ H _ I h) fun v s1 ⟨x, H1, I1, r1, q1⟩ => ?_
  obtain ⟨a, dx, fs, rfl, ha, hs⟩ := q1
  cases r1
  obtain ⟨od, J⟩ := inst_at I1 ha
  obtain ⟨m, hF⟩ := I1.fr
  refine PySem.W.owit_iter hF I1.ok.mod.kin J o.find o.fn (thn (run_N (Sub.here hr) F hb hx I1 (show Vals [V.ref a] [Value.ref a] from .cons rfl .nil) (hs s1.heap.objs.size I1.sz)) fun v s' q => ?_)
  obtain ⟨y, H', I', ry, ⟨it, t, rfl, hn, hi, q⟩⟩ := q
  cases ry
  have hy := Nat.le_trans I1.sz hn
  have hit : s'.heap.get? it = some (itTObj t) := (I'.hok it _ hi).1
  unfold PySem.W.OwitIt
  refine wpAny_specialOf (T := "tuple_iterator") (v := .ref it) ⟨_, hit, rfl⟩ PySem.F.slot_tuple_iterator_next.lookup ?_
  refine ⟨it, [it], _, _, dropH H' it, rfl, inv_drop I' hi, turn_tuple t _, ⟨_, hit, rfl, rfl⟩, fun b hb => ?_, q⟩
  have e : b = it := by simpa using hb
  subst e
  exact inv_fp I' hi hy
end
end L2
set_option Elab.async false
set_option linter.all false
set_option maxRecDepth 100000
set_option maxHeartbeats 4000000
/-! {**a, **b}: two dicts of ints and texts, one behind the other, into a new one. -/
namespace PySem
open PyProof.Rows
section
variable {prog : Program} {w : World} {A : Around} {E : Value → Shared → Prop} {s : Shared} {K : Type} [DecidableEq K] {knd : KeyKind prog w K}
theorem put_pairs {a : Addr} {old : List (K × Value)} {c : K} {u v : Value} {R : Unit → Shared → Prop} (isC : knd.is c u = true) (D : s.heap.DictOf knd a old)
    (next : ∀ hp, hp.DictOf knd a (stored old c v) → Heap.SameBut a s.heap hp → R () { s with heap := hp }) (few : old.length ≤ sizeLine) :
    wpAny (model prog w) A (dictPut a (knd.hash c) u v) R E s := by
  obtain ⟨ob, es, ep, at_, exact_, dat, keyed, prs, uniq⟩ := D
  have szs : es.size ≤ sizeLine := by
    have l1 := prs.length
    have l2 : es.toList.length = es.size := by simp
    omega
  unfold dictPut
  refine wpAny_bind (wpAny_dictFind_of isC at_ dat keyed ?_)
  have same : (es.findIdx? fun e => knd.is c e.key) = old.findIdx? fun kv => decide (kv.1 = c) := by
    have z := prs.findIdx c
    obtain ⟨lst⟩ := es
    simpa using z
  cases found : es.findIdx? fun e => knd.is c e.key with
  | some j =>
    have there : (old.any fun kv => decide (kv.1 = c)) = true := any_of_findIdx_some (same ▸ found)
    refine wpAny_updateDict at_ dat (next _ ⟨_, _, ep, Heap.get?_update_self _ at_ (Obj.isFreed_of_dict (Obj.data_mapDict dat _)), exact_.mapDict _, Obj.data_mapDict dat _, keyed.modify _ _, ?_, ?_⟩ (Heap.SameBut.update ..))
    · have inList : (es.toList.findIdx? fun e => knd.is c e.key) = some j := by
        rw [← found]
        obtain ⟨lst⟩ := es
        simp
      have z := prs.modify uniq inList v
      rw [stored, if_pos there]
      obtain ⟨lst⟩ := es
      simpa using z
    · rw [stored, if_pos there, keys_map_store]
      exact uniq
  | none =>
    have notIn : c ∉ old.map (·.1) := not_mem_of_findIdx_none (same ▸ found)
    have gone : ¬ (old.any fun kv => decide (kv.1 = c)) = true := fun z => by
      obtain ⟨kv, mem, eq⟩ := List.any_eq_true.mp z
      exact notIn (List.mem_map.mpr ⟨kv, mem, of_decide_eq_true eq⟩)
    refine wpAny_updateDictKeys (hz := szs) at_ dat (next _ ⟨_, _, ep + 1, Heap.get?_update_self _ at_ (Obj.isFreed_of_dict (Obj.data_mapDictKeys dat _)), exact_.mapDictKeys _, Obj.data_mapDictKeys dat _, keyed.push isC _, ?_, ?_⟩ (Heap.SameBut.update ..))
    · have z := prs.append isC (knd.hash c) v
      rw [stored, if_neg gone]
      obtain ⟨lst⟩ := es
      simpa using z
    · rw [stored, if_neg gone, List.map_append]
      refine List.nodup_append.mpr ⟨uniq, by simp, fun x hx y hy => ?_⟩
      have ey : y = c := by simpa using hy
      intro exy
      exact notIn (by rw [← ey, ← exy]; exact hx)
end
section
variable {prog : Program} {w : World} {A : Around} {E : Value → Shared → Prop} {s : Shared}
open L2
theorem dict_sub : isSubtype (.type "dict") (.type "dict") = pure true := by rw [isSubtype_type]; kernel_rfl
theorem mergeMapping_mix {d o : Addr} {kvs more : List (Key × Value)} {Q : Unit → Shared → Prop} (hdo : d ≠ o) (hoS : (o == sysModules) = false)
    (hd : s.heap.DictOf (mixKind prog w) d kvs) (ho : s.heap.DictOf (mixKind prog w) o more)
    (hQ : ∀ h', h'.DictOf (mixKind prog w) d (merged kvs more) → Heap.SameBut d s.heap h' → Q () { s with heap := h' }) (hsz : kvs.length + more.length ≤ sizeLine) :
    wpAny (model prog w) A (mergeMapping d (.ref o) false) Q E s := by
  obtain ⟨oo, eso, epo, hoo, hco, hdo', hko, hpo, hno⟩ := id ho
  obtain ⟨od, esd, epd, hod, hcd, hdd, _⟩ := id hd
  have hlen : more.length = eso.size := by
    have z := hpo.length
    simpa using z.symm
  have loop : wpAny (model prog w) A (do
      let l ← dictEntries o
      let epoch ← dictEpoch o
      forIn (List.range l.size) PUnit.unit fun i (_ : PUnit) => (do
        let l' ← dictEntries o
        match l'[i]? with
          | some e => do
            holding [e.key, e.val] (dictPut d e.hash e.key e.val)
            let ep' ← dictEpoch o
            if (ep' != epoch) = true then do
                (unsupported "dict.changed-during-merge" : Sem PUnit)
                pure (ForInStep.yield PUnit.unit)
              else pure (ForInStep.yield PUnit.unit)
          | _ => do
            (unsupported "dict.changed-during-merge" : Sem PUnit)
            pure (ForInStep.yield PUnit.unit) : Sem (ForInStep PUnit))
      pure ()) Q E s := by
    refine wpAny_bind (wpAny_dictEntries hoo hdo' ?_)
    refine wpAny_bind (wpAny_dictEpoch hoo hdo' ?_)
    refine wpAny_bind ?_
    refine wpAny_forIn_list _ (fun left _ t => ∃ hp j, t = { s with heap := hp } ∧ left = (List.range eso.size).drop j ∧ j ≤ eso.size ∧ hp.DictOf (mixKind prog w) d (merged kvs (more.take j)) ∧ hp.get? o = some oo ∧ Heap.SameBut d s.heap hp) _ ?_ ?_ _ _
      ⟨s.heap, 0, rfl, by simp, Nat.zero_le _, by simpa [merged] using hd, hoo, Heap.SameBut.refl _ _⟩
    · rintro y left b t ⟨hp, j, rfl, hr, hj, hdj, hoj, hsb⟩
      have hlt : j < eso.size := by
        rcases Nat.lt_or_ge j eso.size with z | z
        · exact z
        · rw [List.drop_of_length_le (by rw [List.length_range]; exact z)] at hr
          cases hr
      have hd1 : (List.range eso.size).drop j = j :: (List.range eso.size).drop (j + 1) := by
        rw [List.drop_eq_getElem_cons (by rw [List.length_range]; exact hlt), List.getElem_range]
      rw [hd1] at hr
      obtain ⟨rfl, hleft⟩ : y = j ∧ left = (List.range eso.size).drop (j + 1) := by
        injection hr with z1 z2
        exact ⟨z1, z2⟩
      refine wpAny_bind (wpAny_dictEntries hoj hdo' ?_)
      rw [Array.getElem?_eq_getElem hlt]
      have hym : y < more.length := by rw [hlen]; exact hlt
      obtain ⟨isK, isV⟩ := hpo.get? (e := eso[y]) (by simp [hlt]) (List.getElem?_eq_getElem hym)
      obtain ⟨c, isC, isH⟩ := hko eso[y] (Array.getElem_mem hlt)
      have ec : c = more[y].1 := (mixKind prog w).inj _ _ _ isC isK
      show wpAny _ _ (holding [eso[y].key, eso[y].val] (dictPut d eso[y].hash eso[y].key eso[y].val) >>= _) _ _ _
      rw [isH, isV]
      have few : (merged kvs (more.take y)).length ≤ sizeLine := by
        have z1 := merged_length_le kvs (more.take y)
        have z2 : (more.take y).length ≤ more.length := by rw [List.length_take]; omega
        omega
      refine wpAny_bind (wpAny_holding (put_pairs isC hdj (fun hp2 hd2 hs2 => ?_) few))
      have ho2 : hp2.get? o = some oo := (hs2.2 o (Ne.symm hdo)).trans hoj
      refine wpAny_bind (wpAny_dictEpoch ho2 hdo' ?_)
      rw [if_neg (by simp)]
      refine wpAny_pure ⟨hp2, y + 1, rfl, hleft, hlt, ?_, ho2, hsb.trans hs2⟩
      rw [merged_take_succ kvs more y more[y] (List.getElem?_eq_getElem hym), ← ec]
      exact hd2
    · rintro b t ⟨hp, j, rfl, hr, hj, hdj, hoj, hsb⟩
      have hje : j = eso.size := by
        rcases Nat.lt_or_ge j eso.size with z | z
        · have e := congrArg List.length hr
          rw [List.length_drop, List.length_range] at e
          simp at e
          omega
        · exact Nat.le_antisymm hj z
      refine wpAny_pure (hQ hp ?_ hsb)
      rw [hje, ← hlen, List.take_length] at hdj
      exact hdj
  unfold mergeMapping
  refine wpAny_bind (wpAny_isInstance (T := "dict") (b := true) ho.typeIs dict_sub ?_)
  simp only [if_true]
  refine wpAny_bind (wpAny_specialOf (T := "dict") (v := .ref o) ho.typeIs PySem.F.slot_dict_iter.lookup (wpAny_bind (wpAny_pure ?_)))
  rw [show (some (Value.builtin "dict.__iter__") == some (Value.builtin "dict.__iter__")) = true from beq_self_eq_true _]
  dsimp only
  rw [if_neg (by rw [hoS]; exact Bool.false_ne_true)]
  refine wpAny_bind (wpAny_dictEntries hod hdd ?_)
  split
  · refine wpAny_bind (wpAny_dictEntries hoo hdo' ?_)
    refine wpAny_bind ?_
    rw [← Array.forIn_toList]
    refine wpAny_forIn_list _ (fun (left : List DictEntry) _ t => t = s ∧ ∀ e ∈ left, ∃ c : Key, keyIs c e.key = true) _ ?_ ?_ _ _ ⟨rfl, fun e he => ?_⟩
    · rintro e left b t ⟨rfl, all⟩
      obtain ⟨c, hc⟩ := all e List.mem_cons_self
      have more' : ∀ e ∈ left, ∃ c : Key, keyIs c e.key = true := fun e he => all e (List.mem_cons_of_mem _ he)
      rcases keyIs_shape hc with ⟨i, u, _, ek⟩ | ⟨z, u, _, ek⟩
      · rw [ek]
        exact wpAny_pure ⟨rfl, more'⟩
      · rw [ek]
        exact wpAny_pure ⟨rfl, more'⟩
    · rintro b t ⟨rfl, _⟩
      exact loop
    · obtain ⟨c, hc, _⟩ := hko e (by simpa using he)
      exact ⟨c, hc⟩
  · exact loop
end
end PySem
set_option Elab.async false
set_option linter.all false
set_option maxRecDepth 100000
set_option maxHeartbeats 4000000
namespace L2
open PySem PySem.Spec PyProof.Rows
/-- {**a, **b}: a new dict stands empty at p, the first one's pairs come into it, then the second one's -/
def tMerge2 (t1 t2 : TE) : TE := fun σ H Q => ∀ p, H p = none → t1 σ (upd H p (.dK [])) fun x H1 => ∃ a kvs, x = .ref a ∧ a ≠ p ∧ H1 p = some (.dK []) ∧ Rd H1 a (.dK kvs) ∧ kvs.length ≤ 1000 ∧
  t2 σ (upd H1 p (.dK (mergeK [] kvs))) fun y H2 => ∃ b acc more, y = .ref b ∧ b ≠ p ∧ H2 p = some (.dK acc) ∧ acc.length ≤ 1000 ∧ Rd H2 b (.dK more) ∧ more.length ≤ 1000 ∧ Q (.ref p) (upd H2 p (.dK (mergeK acc more)))
section
variable {X : Cx}
theorem merge_in {pins : List (Addr × Obj)} {σ : St} {H : Hp} {s : Shared} {p a : Addr} {acc kvs : List (Key × V)} {R : Unit → Shared → Prop} {E : Value → Shared → Prop} {A : Around} (I : Inv X pins σ H s) (ne : a ≠ p) (hp : H p = some (.dK acc)) (ha : Rd H a (.dK kvs))
    (l1 : acc.length ≤ 1000) (l2 : kvs.length ≤ 1000) (k : ∀ s', Inv X pins σ (upd H p (.dK (mergeK acc kvs))) s' → R () s') : wpAny (model X.prog X.w) A (mergeMapping p (.ref a) false) R E s := by
  obtain ⟨z, hd, vs, r, dd⟩ := dk_of I.hok hp
  obtain ⟨z2, hd2, ws, r2, dd2⟩ := dk_rd I.hok ha
  have e1 : vs.length = acc.length := (Paired.length r).symm
  have e2 : ws.length = kvs.length := (Paired.length r2).symm
  refine mergeMapping_mix (Ne.symm ne) hd2 dd dd2 (fun h' dd' sb => k _ ?_) (by rw [sizeLine_eq]; omega)
  have hz : (mergeK acc kvs).length ≤ sizeLine := by
    have h1 := length_mergeK kvs acc
    rw [sizeLine_eq]; omega
  have he : ∃ q, h'.get? p = some q := let ⟨q, _, _, hq, _⟩ := dd'; ⟨q, hq⟩
  exact d_write I (by rw [hp]; exact True.intro) sb he (dk_new hz hd (r2.merge r) dd')
theorem pe_merge2 {e1 e2 : Expr} {t1 t2 : TE} {pos : Pos} (h1 : PE X e1 t1) (h2 : PE X e2 t2) : PE X (.Dict [none, none] [e1, e2] pos) (tMerge2 t1 t2) := by
  refine ⟨fun pins s σ H Q I q => ?_⟩
  have hn := I.hok.fresh (Nat.le_refl s.heap.objs.size)
  have I1 := I.laid (a := s.heap.objs.size) (o := .dK []) (h' := s.heap.push { cls := .type "dict", data := .dict #[] }) (t' := s.toks) (fun _ _ q => Heap.get?_push_of_some _ q) (Nat.le_refl _) (dk_empty s.heap I.big)
  rw [arm_eval_Dict]
  refine wpAny_bind (wpAny_standAt ?_)
  show wpAny _ _ (dictDisplay [(none, do let x ← eval e1 X.env; standAt pos; pure x), (none, do let x ← eval e2 X.env; standAt pos; pure x)]) _ _ _
  unfold dictDisplay
  simp only [List.forIn_cons, List.forIn_nil, List.isEmpty_nil, if_true]
  refine wpAny_bind (wpAny_bind (wpAny_bind (wpAny_pure ?_)))
  dsimp only
  refine wpAny_bind (wpAny_alloc ?_)
  refine wpAny_bind (wpAny_holding (wpAny_bind (thn (h1.run pins _ σ _ _ I1 (q _ hn)) fun u s1 ⟨x, H1, I2, r1, a, kvs, ex, ne, e0, ra, l1, q1⟩ => ?_)))
  subst ex
  cases r1
  refine wpAny_bind (wpAny_standAt (wpAny_pure ?_))
  refine wpAny_bind (wpAny_onRaise (wpAny_tryCatch (wpAny_onRaise (wpAny_holding (merge_in I2 ne e0 ra (by simp) l1 fun s2 I3 => ?_)))))
  refine wpAny_pure ?_
  dsimp only
  simp only [List.isEmpty_nil, if_true]
  refine wpAny_bind (wpAny_bind (wpAny_pure ?_))
  dsimp only
  refine wpAny_bind (wpAny_pure ?_)
  refine wpAny_bind (wpAny_holding (wpAny_bind (thn (h2.run pins _ σ _ _ I3 q1) fun u s3 ⟨y, H2, I4, r2, b, acc, more, ey, ne2, e1', l2, rb, l3, q2⟩ => ?_)))
  subst ey
  cases r2
  refine wpAny_bind (wpAny_standAt (wpAny_pure ?_))
  refine wpAny_bind (wpAny_onRaise (wpAny_tryCatch (wpAny_onRaise (wpAny_holding (merge_in I4 ne2 e1' rb l2 l3 fun s4 I5 => ?_)))))
  refine wpAny_pure ?_
  dsimp only
  refine wpAny_pure ?_
  simp only [List.isEmpty_nil, if_true]
  refine wpAny_bind (wpAny_pure ?_)
  dsimp only
  exact wpAny_pure ⟨.ref _, _, I5, rfl, q2⟩
end
end L2
set_option Elab.async false
set_option linter.all false
set_option maxRecDepth 100000
set_option maxHeartbeats 4000000
namespace L2
open PySem PySem.Spec PyProof.Rows
/-- a def of the text, by its name, without defaults -/
structure Df (P : Program) (w : World) (K : PySem.W.Frag) (mg : Str → Option Value) (base : Heap) (k : Nat) (x : Str) (sp : Sp) : Prop where
  ex : ∃ (f : Addr) (fd : FuncData) (ps : List Str), FnOk P w K mg base CX0 k f fd ps sp ∧ mg x = some (.ref f) ∧ PySem.W.keepIn K (.ref f) = true ∧ Binds K fd ps []
/-- a method of the text's own, by its address -/
structure Mf (P : Program) (w : World) (K : PySem.W.Frag) (mg : Str → Option Value) (base : Heap) (k : Nat) (C : Addr) (m : Str) (sp : Sp) : Prop where
  ex : ∃ (f : Addr) (fd : FuncData) (ps : List Str), FnOk P w K mg base CX0 k f fd ps sp ∧ Meth K C m f ∧ Own K C m f ∧ PySem.W.fnIn K f = true ∧ Binds K fd ps []
section
variable {X : Cx} {k j : Nat} {C : Addr} {x m : Str} {sp : Sp} {p pos apos : Pos} {e o : Expr} {es : List Expr} {ta tb : TE} {t : TA}
theorem pe_c (c : Df X.prog X.w X.K X.mg X.base k x sp) (hr : Room j X.A) (hk : k ≤ j) (hg : Gl X x) (ha : PA X (e :: es) t)
    (hdb : (x == ("__debug__" : Str)) = false := by decide) (he : starEach (e :: es) X.env = (false, eval e X.env) :: starEach es X.env := by rfl) (hpl : (backTo pos (starEach es X.env)).any (·.1) = false := by rfl) :
    PE X (.Call (.Name x p) (e :: es) [] pos) (tCall sp [] E0 t) := by
  obtain ⟨f, fd, ps, F, hm, kp, b⟩ := c.ex
  exact pe_call F (hr.mono hk) hg hm kp b .nil pass0 ha hdb he hpl
theorem pe_ixO {a b : Expr} (c : Mf X.prog X.w X.K X.mg X.base k C "__getitem__" sp) (hr : Room j X.A) (hk : k + 1 ≤ j) (hA : PE X a ta) (hB : PE X b tb)
    (hsl : ∀ v u, subscripted b true v u = runValue (.builtin "lifetime.subscript" ⟨[v, u], []⟩) := by intro _ _; rfl) :
    PE X (.Subscript a b pos) (tOp (fun x y H Q => ∃ a dx fs, x = .ref a ∧ H a = some (.ins C dx fs) ∧ sp [.ref a, y] H Q E0) ta tb) := by
  obtain ⟨f, fd, ps, F, _, o, fi, b⟩ := c.ex
  exact pe_ixOwn F b pass0 o fi (hr.mono hk) hA hB hsl
theorem op_eqO (c : Mf X.prog X.w X.K X.mg X.base k C "__eq__" sp) (hr : Room j X.A) (hk : k ≤ j) : OpR X (compareOp .Eq) (rEqOwn X.K C sp E0 id) := by
  obtain ⟨f, fd, ps, F, _, o, _, b⟩ := c.ex
  exact op_eqOwn F b pass0 o (hr.mono hk)
end
end L2
set_option Elab.async false
set_option linter.all false
set_option maxRecDepth 100000
set_option maxHeartbeats 4000000
/-! The rules whose readings name X.K, with K said: for what stands in a comprehension's block. -/
namespace L2
open PySem PySem.Spec PyProof.Rows
section
variable {X : Cx} {K : PySem.W.Frag} {o e a b : Expr} {es : List Expr} {to ta tb : TE} {t : TA} {name f : Str} {apos cpos pos : Pos} {T id : String} {r : V → List V → Hp → VK → Prop}
theorem pe_bm0K (hK : X.K = K) (pa : PlainAttrs T) (slot : Slot T name id) (hty : typeOf (.builtin id) = pure (.type "method_descriptor")) (hm : MtR X id r) (ho : PE X o to) (hbase : attributeBase o name X.env (eval o X.env) = eval o X.env := by rfl) (hline : (apos.endLine == cpos.line) = true := by rfl) : PE X (.Call (.Attribute o name apos) [] [] cpos) (tBM0 K T r to) := by
  subst hK
  exact pe_bm0 pa slot hty hm ho hbase hline
theorem pe_bmK (hK : X.K = K) (pa : PlainAttrs T) (slot : Slot T name id) (hty : typeOf (.builtin id) = pure (.type "method_descriptor")) (hm : MtR X id r) (ho : PE X o to) (ha : PA X (e :: es) t) (hbase : attributeBase o name X.env (eval o X.env) = eval o X.env := by rfl) (hfew : ((backTo cpos (starEach (e :: es) X.env)).all (fun x => !x.1) && (backToKw cpos (keywordEach [] X.env)).all (fun x => x.1.isSome) && decide ((e :: es).length + ([] : List Keyword).length + (if ([] : List Keyword).isEmpty then 0 else 1) < 30)) = true := by rfl) (hline : (apos.endLine == cpos.line) = true := by rfl) (hs : starEach (e :: es) X.env = (false, eval e X.env) :: starEach es X.env := by rfl) (hplain : (backTo cpos (starEach es X.env)).any (·.1) = false := by rfl) :
    PE X (.Call (.Attribute o name apos) (e :: es) [] cpos) (tBM K T r to t) := by
  subst hK
  exact pe_bm pa slot hty hm ho ha hbase hfew hline hs hplain
theorem pe_fldK (hK : X.K = K) (he : PE X e ta) (hb : attributeBase e f X.env (eval e X.env) = eval e X.env) : PE X (.Attribute e f pos) (tFld K ta f) := by
  subst hK
  exact pe_fld he hb
def rLenSeq (K : PySem.W.Frag) : List V → Hp → VK → Prop := fun xs H Q => ∃ p ys, xs = [.ref p] ∧ (SqL K H p ys ∨ SqT K H p ys) ∧ Q (.int ys.length) H
theorem call_len_seqK (hK : X.K = K) : CallR X (.builtin "len") (rLenSeq K) := by
  subst hK
  exact call_len_seq
theorem ix_listK (hK : X.K = K) : IxR X (rIxL K) := by
  subst hK
  exact ix_list
theorem ix_tupK (hK : X.K = K) : IxR X (rIxT K) := by
  subst hK
  exact ix_tup
theorem sl_listK (hK : X.K = K) : SlR X (rSlL K) := by
  subst hK
  exact sl_list
theorem op_neDK (hK : X.K = K) (hu : X.A.units + 64 < cLine) : OpR X (compareOp .NotEq) (rNeD K) := by
  subst hK
  exact op_neD hu
theorem op_eqDK (hK : X.K = K) (hu : X.A.units + 64 < cLine) : OpR X (compareOp .Eq) (rEqD K) := by
  subst hK
  exact op_eqD hu
def rListOf (K : PySem.W.Frag) : List V → Hp → VK → Prop := fun xs H Q => ∃ p ys, xs = [.ref p] ∧ (SqL K H p ys ∨ SqT K H p ys) ∧ ∀ l, H l = none → Q (.ref l) (upd H l (.lst ys))
theorem call_list_ofK (hK : X.K = K) : CallR X (.type "list") (rListOf K) := by
  subst hK
  exact call_list_of
def rJoin (K : PySem.W.Frag) : V → List V → Hp → VK → Prop := fun x xs H Q => ∃ a p, ∃ ys : List Str, x = .str a ∧ xs = [.ref p] ∧ (SqL K H p (ys.map V.str) ∨ SqT K H p (ys.map V.str)) ∧ (ys.map (·.length)).sum + ys.length * a.length ≤ 16777216 ∧ Q (.str (Txt.join a ys)) H
theorem pe_joinK (hK : X.K = K) (ho : PE X o to) (he : PE X e ta) (hs : starEach [e] X.env = [(false, eval e X.env)] := by rfl) (hbase : attributeBase o "join" X.env (eval o X.env) = eval o X.env := by rfl) (hline : (apos.endLine == pos.line) = true := by rfl) : PE X (.Call (.Attribute o "join" apos) [e] [] pos) (tM1 (rJoin K) to ta) := by
  subst hK
  exact pe_join ho he hs hbase hline
theorem call_strS : CallR X (.type "str") (fun xs H Q => ∃ a, xs = [.str a] ∧ Q (.str a) H) := SkE.call_str_str
def rTupleOf (K : PySem.W.Frag) : List V → Hp → VK → Prop := fun xs H Q => ∃ p ys, xs = [.ref p] ∧ ((SqL K H p ys ∧ ∀ l, H l = none → Q (.ref l) (upd H l (.tup ys))) ∨ (SqT K H p ys ∧ Q (.ref p) H))
theorem call_tuple_ofK (hK : X.K = K) : CallR X (.type "tuple") (rTupleOf K) := by
  subst hK
  exact call_tuple_of
end
end L2
set_option Elab.async false
set_option linter.all false
set_option maxRecDepth 100000
set_option maxHeartbeats 4000000
namespace L2
open PySem PySem.Spec PyProof.Rows
/-- a name of the module holds a value -/
def GV (mg : Str → Option Value) (x : Str) (v : V) : Prop := ∃ u, mg x = some u ∧ RelV v u
theorem pe_gv {X : Cx} {x : Str} {v : V} {pos : Pos} (h : GV X.mg x v) (hg : Gl X x) (hd : (x == ("__debug__" : Str)) = false := by decide) : PE X (.Name x pos) (tC v) := by
  obtain ⟨u, h1, h2⟩ := h
  exact pe_glob hg h1 h2 hd
theorem pj_nil {X : Cx} : PJ X [] [] := .nil
theorem pj_cons {X : Cx} {e : Expr} {t : TE} {es : List Expr} {ts : List TE} (h : PE X e t) (r : PJ X es ts) : PJ X (e :: es) (t :: ts) := .cons h r
/-- a dict comprehension over what a Walk tells -/
theorem dc_it {J : It} {m : Nat} {G : Hp → Prop} {Y : Nat → Hp → V → Hp → Prop} (w : Walk J m G Y) {g : TG} {tt : TT} {tk tv : TE} {own : List Nat} {σ : St} {H1 : Hp} {D : Addr} {Qd : Hp → Prop} (Pv : Nat → Hp → Prop) (start : Pv 0 (upd H1 D (.dK []))) (keeps : ∀ i H, i ≤ m → Pv i H → G H)
    (turn : ∀ i x H H', i < m → Pv i H → Y i H x H' → g x (wipe σ own) H' fun σ2 H2 => wipe σ2 own = wipe σ own ∧ tt σ2 H2 fun b H3 =>
      if b = true then tk σ2 H3 fun y H4 => tv σ2 H4 fun z H5 => ∃ kvs k, y = kV k ∧ H5 D = some (.dK kvs) ∧ kvs.length < sizeLine ∧ Pv (i + 1) (upd H5 D (.dK (putK kvs k z))) else Pv (i + 1) H3) (done : ∀ H, Pv m H → Qd H) :
    ∃ W : Nat → Nat → Hp → Prop, (∃ j, W 0 j (upd H1 D (.dK []))) ∧ ∀ i j H, W i j H →
      (J.stop i H ∧ Qd H) ∨ (J.go i H ∧ ∃ Nx : Hp → Prop, (∀ H', Nx H' → ∃ j', j' < j ∧ W (i + 1) j' H') ∧ ∀ x H', J.yld i H x H' → g x (wipe σ own) H' fun σ2 H2 => wipe σ2 own = wipe σ own ∧ tt σ2 H2 fun b H3 =>
        if b = true then tk σ2 H3 fun y H4 => tv σ2 H4 fun z H5 => ∃ kvs k, y = kV k ∧ H5 D = some (.dK kvs) ∧ kvs.length < sizeLine ∧ Nx (upd H5 D (.dK (putK kvs k z))) else Nx H3) := by
  refine ⟨fun i j H => j = m - i ∧ i ≤ m ∧ Pv i H, ⟨m, by simp, Nat.zero_le _, start⟩, ?_⟩
  rintro i j H ⟨rfl, hi, pv⟩
  have kp := keeps i H hi pv
  rcases Nat.lt_or_ge i m with less | more
  · exact .inr ⟨w.goes i H less kp, Pv (i + 1), fun H' p' => ⟨m - (i + 1), by omega, rfl, less, p'⟩, fun x H' y => turn i x H H' less pv (w.yields i H x H' less kp y)⟩
  · obtain rfl : i = m := Nat.le_antisymm hi more
    exact .inl ⟨w.stops H kp, done H pv⟩
section
variable {X : Cx}
/-- y = {k: v for ..}: the name is stored within the comprehension's frame -/
theorem ps_setDc {j : Nat} {y : Str} {yp : Pos} {kx vx tg iter : Expr} {ifs : List Expr} {scope : Scope} {own : List (Str × Nat)} {cp sp : Pos} {wi : TI} {g : TG} {tt : TT} {tk tv : TE} (calm : X.calm = true) (nodup : X.N.Nodup) (atJ : X.N[j]? = some y) (isLoc : X.env.scope.names.lookup y = some .local)
    (swaps : swapsWith (.DictComp kx vx [⟨tg, iter, ifs, 0⟩] scope cp) (some (.Name y yp)) sp.line X.env = pure true) (walks : PI X tg iter wi) (blk : BlkOk X.N X.env.scope scope own)
    (target : ∀ (s : Shared) (H : Hp) (C : Addr) (cl : List (Str × Addr)) (fp : List Addr), PG (X.blk s H scope (compEnvC scope cl C X.env) fp) tg g) (tests : ∀ (s : Shared) (H : Hp) (C : Addr) (cl : List (Str × Addr)) (fp : List Addr), PTs (X.blk s H scope (compEnvC scope cl C X.env) fp) ifs tt)
    (keys : ∀ (s : Shared) (H : Hp) (C : Addr) (cl : List (Str × Addr)) (fp : List Addr), PE (X.blk s H scope (compEnvC scope cl C X.env) fp) kx tk)
    (vals : ∀ (s : Shared) (H : Hp) (C : Addr) (cl : List (Str × Addr)) (fp : List Addr), PE (X.blk s H scope (compEnvC scope cl C X.env) fp) vx tv) (plain : ∀ x, foldedSetIterable iter X.env x = pure x := by intro _; rfl) :
    PS X (.Assign [.Name y yp] (.DictComp kx vx [⟨tg, iter, ifs, 0⟩] scope cp) sp) (tAsg (tDc wi g tt tk tv (own.map (·.2))) (gName j)) := by
  refine ⟨fun pins s σ H D I want => ?_⟩
  rw [exec_Assign_Name_used _ _ _ _ swaps]
  refine wpAny_bind (wpAny_standAt (wpAny_bind ?_))
  show wpAny _ X.A (do let _ ← comprehension (.DictComp kx vx [⟨tg, iter, ifs, 0⟩] scope cp) scope X.env (firstIterPos [⟨tg, iter, ifs, 0⟩] cp) newDict false (eval iter X.env) (some (assign (.Name y yp) X.env))) _ _ s
  have want' : tDc wi g tt tk tv (own.map (·.2)) σ H (fun x H1 => gName j x σ H1 D.nx) := want
  refine wpAny_bind (thn (dc_core (Qf := fun _ s' => SP X pins D .next s') calm nodup I walks blk target tests keys vals plain want' fun made frame s' m H' J q hn young => ?_) fun _ s' z => wpAny_pure (wpAny_pure z))
  show wpAny _ _ (assign (.Name y yp) X.env (.ref made)) _ _ _
  refine wpAny_assign_Name (store_ok2 (v := V.ref made) J nodup atJ (.inl isLoc) rfl (fun s2 J2 ⟨a, but, isA⟩ => ?_) (.inr isLoc))
  obtain ⟨y0, y1, y2, y3, y4, y5⟩ := young
  have apart : frame ≠ a := by
    rcases isA with z | z
    · rw [z]
      exact y1
    · intro e
      exact y4 y a z e.symm
  refine ⟨m, hn.sameBut but apart, fun h3 but3 => ?_⟩
  exact ⟨_, H', J2.turned (t' := s2.toks) (fun b o hb e => (but3.2 b hb).trans e) y0 y1 y3 y4 y5, q⟩
theorem sw_trueD {kx vx : Expr} {gs : List Comprehension} {scope : Scope} {pos py : Pos} {y : Str} {l : Nat} {env : Env} (isFun : env.scope.kind = .function) (isLoc : env.scope.names.lookup y = some .local) (line : (py.line == pos.line) = true)
    (apart : (scope.names.any fun (n, k) => n == y && (k == .local || k == .cell)) = false) : swapsWith (.DictComp kx vx gs scope pos) (some (.Name y py)) l env = pure true := by
  have k1 : env.kindOf y = some .local := isLoc
  have k2 : env.blockKind = .function := by
    unfold Env.blockKind
    rw [isFun]
    rfl
  unfold swapsWith
  simp only [k2, k1, apart, Expr.pos, line]
  rfl
end
/-- not x, by truth, K said -/
theorem pe_notTK {X : Cx} {K : PySem.W.Frag} {a : Expr} {ta : TE} {pos : Pos} (hK : X.K = K) (ha : PE X a ta) : PE X (.UnaryOp .Not a pos) (tNotT K ta) := by
  subst hK
  exact pe_notT ha
end L2
set_option Elab.async false
set_option linter.all false
set_option maxRecDepth 100000
set_option maxHeartbeats 4000000
/-! Dicts of texts compared both ways; a staticmethod called by the class's name. -/
namespace L2
open PySem PySem.Spec PyProof.Rows
/-- f'..' of two parts or more, by a name -/
def tJo (ts : List TE) : TE := fun σ H Q => tJs ts Str.empty σ H fun out H1 => Q (.str out) H1
theorem pe_joinedT {X : Cx} {v1 v2 : Expr} {rest : List Expr} {ts : List TE} {pos : Pos} (h : PJ X (v1 :: v2 :: rest) ts) : PE X (.JoinedStr (v1 :: v2 :: rest) pos) (tJo ts) := pe_joined h
end L2
set_option Elab.async false
set_option linter.all false
set_option maxRecDepth 100000
set_option maxHeartbeats 4000000
/-! An own error's `__init__` that calls the base error's by the base's name, where the base has none of its own. -/
namespace L2
open PySem PySem.Spec PyProof.Rows
section
variable {X : Cx} {e : Expr} {es : List Expr} {ta : TA} {x : Str} {CR : Addr} {mc : Value} {p1 p2 pos : Pos} {pl : Sem Bool}
theorem pe_baseinit (hg : Gl X x) (hm : X.mg x = some (.ref CR)) (r : ClX.CRead X.K CR mc) (vV : PySem.W.findCls X.K (.ref CR) mc "__init__" = some (.val (.builtin "ValueError.__init__"))) (ha : PA X (e :: es) ta)
    (hdb : (x == ("__debug__" : Str)) = false := by decide)
    (hc : eval (.Call (.Attribute (.Name x p1) "__init__" p2) (e :: es) [] pos) X.env = (do
      let ov ← eval (.Name x p1) X.env
      standAt p2.atName
      let (f, first) ← holding [ov] (getMethod ov "__init__" pl)
      callWith pos f first (backTo pos (starEach (e :: es) X.env)) (backToKw pos (keywordEach [] X.env))) := by rfl)
    (he : starEach (e :: es) X.env = (false, eval e X.env) :: starEach es X.env := by rfl) (hpl : (backTo pos (starEach es X.env)).any (·.1) = false := by rfl) :
    PE X (.Call (.Attribute (.Name x p1) "__init__" p2) (e :: es) [] pos) (tVeI X.K ta) := by
  refine ⟨fun pins s σ H Q I h => ?_⟩
  refine PySem.W.methodCall_KW (pl := pl) (ld_glob I hg hm ?_ hdb) hc
  refine PySem.W.method_cls I.kIn r.ga ?_
  refine PySem.W.cls_value I.kIn r.rd vV (by decide +kernel) ?_
  show wpAny _ _ (callWith pos (Value.builtin "ValueError.__init__") [] (backTo pos (starEach (e :: es) X.env)) []) _ _ _
  refine PyProof.Rows.callWith_method1 (thn (ha.run pos pins _ σ H _ (I.tok _) h) fun us s1 ⟨vs, H1, I1, r1, a, C, ws, ev, hl, T, ea, q⟩ => ?_) he hpl
  subst ev
  cases r1 with
  | @cons _ u0 _ ur ra rw' =>
    obtain rfl : u0 = Value.ref a := ra
    have hlen : ur.length ≤ sizeLine := by
      rw [← Paired.length rw', sizeLine_eq]
      omega
    exact oinit_ok T I1 ea hlen fun s' J => ⟨.non, H1, J, rfl, q⟩
end
end L2
set_option Elab.async false
set_option linter.all false
set_option maxRecDepth 100000
set_option maxHeartbeats 4000000
/-! a | b, a >> b .. by an own method, both of the same class; a <= b by an own one (its answer a bool). -/
namespace L2
open PySem PySem.Spec PyProof.Rows
section
variable {X : Cx} {n : Nat} {CX : CXT} {C f : Addr} {fd : FuncData} {ps : List Str} {sp : Sp} {E : XK}
theorem notNI {v : V} {u : Value} (r : RelV v u) {Q : Value → Shared → Prop} {s : Shared} (q : Q u s) : PySem.W.CmpBack Q u s := by
  cases v <;> first
    | (obtain ⟨t, rfl⟩ := r; exact q)
    | (cases r; exact q)
def rBinOwn (K : PySem.W.Frag) (C : Addr) (sp : Sp) (E : XK) : R2 := fun x y H Q => ∃ a dx fs b dy gs, x = .ref a ∧ H a = some (.ins C dx fs) ∧ y = .ref b ∧ H b = some (.ins C dy gs) ∧ sp [.ref a, y] H Q E
theorem op_binOwn {op : Operator} (F : FnOk X.prog X.w X.K X.mg X.base CX n f fd ps sp) (hb : Binds X.K fd ps []) (hx : Passes CX X E) (hs : PySem.W.findIn X.K (.ref C) (PySem.dunder op.info.2) = some (some (.ref f))) (hf : PySem.W.isFn X.K (.ref f) = true) (hc : PySem.W.selfFirst X.K C = true) (hr : Room n X.A) :
    OpR X (binaryOp op) (rBinOwn X.K C sp E) := by
  intro pins s σ H x y v u Q I rx ry h
  obtain ⟨a, dx, fs, b, dy, gs, rfl, ha, rfl, hbb, hsp⟩ := h
  cases rx
  cases ry
  obtain ⟨od, J⟩ := inst_at I ha
  obtain ⟨od2, J2⟩ := inst_at I hbb
  obtain ⟨m, hF⟩ := I.fr
  refine PySem.W.binop_K hF I.ok.mod.kin J J2.type hc hs hf (thn (run_own (Sub.here hr) F hb hx I (show Vals [V.ref a, V.ref b] [Value.ref a, Value.ref b] from .cons rfl (.cons rfl .nil)) hsp) fun r s' q => ?_)
  obtain ⟨z, H', I', rz, q⟩ := q
  exact notNI rz ⟨z, H', I', rz, q⟩
end
end L2
set_option Elab.async false
set_option linter.all false
set_option maxRecDepth 100000
set_option maxHeartbeats 4000000
/-! enumerate(text). -/
namespace L2
open PySem PySem.Spec PyProof.Rows
/-- the signs of a text, each in a new pair behind its number -/
def ItSe (z : Str) : It :=
  ⟨fun i _ => i < z.cps.size, fun i H v H' => ∃ T c, v = .ref T ∧ H T = none ∧ H' = upd H T (.tup [.int (i : Nat), .str ⟨#[c]⟩]) ∧ z.cps[i]? = some c, fun i _ => i = z.cps.size⟩
theorem turn_enumS {P : Program} {w : World} {K : PySem.W.Frag} {elts : List Expr} {kk : Nat} {tpos : Pos} (z : Str) (t : Tok) (e it : Addr) :
    Turn P w K (.Tuple elts kk tpos) (ItSe z) [e, it] e (fun i h => (∃ old, IsEnum h e it ((i : Nat) : Int) old) ∧ h.IsStrIter it (strIterType z) z t i ∧ e ≠ it) where
  mem := by simp
  obj := fun i h st b hb => by
    obtain ⟨⟨old, he⟩, ⟨o, ho, hc, hd⟩, _⟩ := st
    have e' : b = e ∨ b = it := by simpa using hb
    rcases e' with z | z
    · rw [z]; exact ⟨_, he, fun v q => nomatch q⟩
    · rw [z]; exact ⟨o, ho, fun v q => by rw [hd] at q; cases q⟩
  keep := fun i h h' st k => by
    obtain ⟨⟨old, he⟩, ⟨o, ho, r⟩, hne⟩ := st
    exact ⟨⟨old, k e (by simp) _ he⟩, ⟨o, k it (by simp) o ho, r⟩, hne⟩
  item := by
    intro X hP hw hK hc i pins s σ H E I hf st hg
    subst hP hw hK
    obtain ⟨⟨old, he⟩, hit, hne⟩ := st
    have hel : e < s.heap.objs.size := Heap.lt_size he
    have hil : it < s.heap.objs.size := by obtain ⟨_, q, _⟩ := hit; exact Heap.lt_size q
    refine wpAny_pyNext_enum_itemD (Draws.text (A := X.A.in1) (I.ok.hd hc) it z t) he hit hg hne (by simpa using hne) fun x h' tk hx ho hit' hT hsz hk => ?_
    obtain ⟨c, u, hcx, rfl⟩ := hx
    refine ⟨_, rfl, wpAny_letOwnedTupleGo_enum (s := { s with heap := h', toks := tk + 1 }) ho fun h'' he' sb => ?_⟩
    have hT2 : h''.get? s.heap.objs.size = some { cls := .type "tuple", data := .seq #[.int i tk, .str ⟨#[c]⟩ u] } := (sb.2 _ (Nat.ne_of_gt hel)).trans hT
    have new : ObjOk X.prog X.w (upd H s.heap.objs.size (.tup [.int (i : Nat), .str ⟨#[c]⟩])) h'' s.heap.objs.size (.tup [.int (i : Nat), .str ⟨#[c]⟩]) :=
      ⟨by show 2 ≤ sizeLine; decide, [.int i tk, .str ⟨#[c]⟩ u], .cons ⟨_, rfl⟩ (.cons ⟨_, rfl⟩ .nil), ⟨_, hT2, rfl, _, rfl⟩⟩
    have I1 : Inv X pins σ (upd H s.heap.objs.size (.tup [.int (i : Nat), .str ⟨#[c]⟩])) { s with heap := h'', toks := tk + 1 } :=
      I.turnedNew (ch := [e, it]) (fun b ob hb q => (sb.2 b (fun z => hb (by simp [z]))).trans (hk b ob (fun z => hb (by simp [z])) (fun z => hb (by simp [z])) q)) hf (Nat.le_refl _) new
    refine ⟨.ref s.heap.objs.size, _, I1, rfl, ⟨_, c, rfl, I.hok.fresh (Nat.le_refl _), rfl, hcx⟩, ⟨⟨.str ⟨#[c]⟩ u, ?_⟩, ?_, hne⟩, fun b hb => ?_⟩
    · have e1 : ((i + 1 : Nat) : Int) = (i : Int) + 1 := by omega
      rw [e1]; exact he'
    · obtain ⟨o, q, r⟩ := hit'
      exact ⟨o, (sb.2 it (Ne.symm hne)).trans q, r⟩
    · have hb' : b < s.heap.objs.size := by
        have e' : b = e ∨ b = it := by simpa using hb
        rcases e' with z | z
        · rw [z]; exact hel
        · rw [z]; exact hil
      rw [upd_ne (Nat.ne_of_lt hb')]
      exact (hf b hb).1
  done := by
    intro X hP hw hK hc i pins s σ H E I hf st hg
    subst hP hw hK
    obtain ⟨⟨old, he⟩, hit, hne⟩ := st
    have hi : i = z.cps.size := hg
    obtain ⟨f0, f1, f2, f3, f4, f5⟩ := hf it (by simp)
    subst hi
    exact wpAny_pyNext_enum_endD (Draws.text (A := X.A.in1) (I.ok.hd hc) it z t) he hit fun h' eb => ⟨rfl, I.turned (t' := s.toks) (fun b o hb q => eb b o hb q) f0 f1 f3 f4 f5⟩
  self := fun A i s Q E st h => let ⟨⟨_, he⟩, _⟩ := st; wpAny_pyIter_enum he h
def iEnumS (ta : TA) : TI := fun σ H R => ta σ H fun vs H1 => ∃ z, vs = [.str z] ∧ R (ItSe z) H1
theorem pi_enumS {X : Cx} {e : Expr} {ta : TA} {p pos tpos : Pos} {elts : List Expr} {kk : Nat} (hg : Gl X "enumerate") (hm : X.mg "enumerate" = none) (ha : PA X [e] ta) (hs : starEach [e] X.env = [(false, eval e X.env)] := by rfl) :
    PI X (.Tuple elts kk tpos) (.Call (.Name "enumerate" p) [e] [] pos) (iEnumS ta) := by
  refine ⟨fun pins s σ H R I h => ?_⟩
  refine Call_ (ld_blt I hg hm boot_enumerate (PyProof.Rows.callWith_type1 (thn (ha.run pos pins s σ H _ I h) fun us s1 ⟨vs, H1, I1, r1, q1⟩ => ?_) hs rfl))
  obtain ⟨z, ex, q⟩ := q1
  subst ex
  cases r1 with
  | cons r rr =>
    cases rr
    obtain ⟨t, rfl⟩ := r
    refine call_enumerate_str fun h' he hit hsz hk => wpAny_pyIter_enum he ?_
    have I2 : Inv X pins σ H1 { s1 with heap := h' } := I1.kept (t' := s1.toks) hk
    refine ⟨s1.heap.objs.size + 1, [s1.heap.objs.size + 1, s1.heap.objs.size], _, _, H1, rfl, I2, turn_enumS z t (s1.heap.objs.size + 1) s1.heap.objs.size, ⟨⟨.none, he⟩, hit, Nat.succ_ne_self _⟩, fun b hb => ?_, q⟩
    have e' : b = s1.heap.objs.size + 1 ∨ b = s1.heap.objs.size := by simpa using hb
    have hle : s1.heap.objs.size ≤ b := by
      rcases e' with z | z
      · rw [z]; exact Nat.le_add_right _ _
      · rw [z]; exact Nat.le_refl _
    exact I1.fpOk hle (I1.hok.fresh hle)
theorem walk_enumS {z : Str} : Walk (ItSe z) z.cps.size (fun _ => True) (fun i H v H' => ∃ T c, v = .ref T ∧ H T = none ∧ H' = upd H T (.tup [.int (i : Nat), .str ⟨#[c]⟩]) ∧ z.cps[i]? = some c) :=
  ⟨fun _ _ hi _ => hi, fun _ _ => rfl, fun _ _ _ _ _ _ y => y⟩
end L2
set_option Elab.async false
set_option linter.all false
set_option maxRecDepth 100000
set_option maxHeartbeats 4000000
/-! Signs of an own class by its own methods, by an address; a ** k. -/
namespace L2
open PySem PySem.Spec PyProof.Rows
/-- an own method that a sign of two calls -/
structure Bo (P : Program) (w : World) (K : PySem.W.Frag) (mg : Str → Option Value) (base : Heap) (k : Nat) (C : Addr) (m : Str) (sp : Sp) : Prop where
  ex : ∃ (f : Addr) (fd : FuncData) (ps : List Str), FnOk P w K mg base CX0 k f fd ps sp ∧ Binds K fd ps [] ∧ PySem.W.findIn K (.ref C) m = some (some (.ref f)) ∧ PySem.W.isFn K (.ref f) = true ∧ PySem.W.selfFirst K C = true
/-- what the sign of the power asks of int -/
structure IntP (K : PySem.W.Frag) (C : Addr) : Prop where
  rp : PySem.W.findIn K (.ref C) "__rpow__" = some none
  h1 : ∃ fo, PySem.W.findIn K (.type "int") "__pow__" = some fo
  h2 : ∃ ro, PySem.W.findIn K (.type "int") "__rpow__" = some ro
  sub : PySem.W.subIn K (.type "int") (.ref C) = some false
section
variable {X : Cx} {k j : Nat} {C : Addr} {sp : Sp}
theorem op_bin {op : Operator} {m : Str} (c : Bo X.prog X.w X.K X.mg X.base k C m sp) (hr : Room j X.A) (hk : k ≤ j) (hm : PySem.dunder op.info.2 = m := by rfl) : OpR X (binaryOp op) (rBinOwn X.K C sp E0) := by
  obtain ⟨f, fd, ps, F, b, h1, h2, h3⟩ := c.ex
  subst hm
  exact op_binOwn F b pass0 h1 h2 h3 (hr.mono hk)
theorem pe_mt {pl : Sem Bool} {m : Str} {o e : Expr} {es : List Expr} {apos pos : Pos} {ta : TE} {t : TA} (c : Cls X.K C) (D : Mf X.prog X.w X.K X.mg X.base k C m sp) (hr : Room j X.A) (hk : k ≤ j) (he : PE X o ta) (ha : PA X (e :: es) t)
    (hst : starEach (e :: es) X.env = (false, eval e X.env) :: starEach es X.env := by rfl) (hpl : (backTo pos (starEach es X.env)).any (·.1) = false := by rfl)
    (ht : eval (.Call (.Attribute o m apos) (e :: es) [] pos) X.env = (do
      let ov ← eval o X.env
      standAt apos.atName
      let (f, first) ← holding [ov] (getMethod ov m pl)
      callWith pos f first (backTo pos (starEach (e :: es) X.env)) (backToKw pos (keywordEach [] X.env))) := by rfl) :
    PE X (.Call (.Attribute o m apos) (e :: es) [] pos) (tMeth C m sp [] E0 ta t) := by
  obtain ⟨f, fd, ps, F, hm, _, _, b⟩ := D.ex
  exact pe_meth (pl := pl) he c hm F (hr.mono hk) b .nil pass0 ha hst hpl ht
end
end L2
set_option Elab.async false
set_option linter.all false
set_option maxRecDepth 100000
set_option maxHeartbeats 4000000
/-! try: .. except E as n: k = n, where k is read later: the caught exception becomes a thing of the abstract heap. -/
namespace L2
open PySem PySem.Spec PyProof.Rows
/-- an exception that was caught and is kept: its class, its dict -/
def CaughtO (cls : Value) (d : Option Addr) (a : Addr) : HO := .ext fun h => ∃ (oe : Obj) (vs : Array Value), h.get? a = some oe ∧ Zc cls d oe ∧ oe.data = .fields vs
/-- a caught exception stands on the ground of X, and nothing of X has known it before -/
structure Down (X : Cx) (pins : List (Addr × Obj)) (σ : St) (H : Hp) (cls : Value) (d : Option Addr) (a : Addr) (B : Heap) (s : Shared) : Prop where
  inv : Inv X pins σ H s
  fly : HandSPX.FlyingZ B X.stack a (Zc cls d) s.heap
  unk : H a = none
  notL : a ≠ X.env.locals
  notF : a ∉ X.fs
  notS : ∀ o, X.s_0.heap.get? a = some o → a ∉ X.ex → False
  notP : ∀ p ∈ X.pn ++ pins, p.1 ≠ a
  gnd : ∃ s0 : Shared, Inv X pins σ H s0 ∧ (∀ c o, s0.heap.get? c = some o → c ∉ frs X.stack → B.get? c = some o) ∧ s0.heap.UpToSlots s.heap ∧ s.os = s0.os ∧ AllBare s.gens
section
variable {X : Cx} {pins : List (Addr × Obj)} {σ : St} {H : Hp} {cls : Value} {d : Option Addr} {a : Addr} {B : Heap} {s : Shared}
theorem Down.obj (W : Down X pins σ H cls d a B s) : ∃ (oe : Obj) (vs : Array Value), s.heap.get? a = some oe ∧ Zc cls d oe ∧ oe.data = .fields vs := W.fly.there
/-- from now on it is tracked -/
theorem Down.tracked (W : Down X pins σ H cls d a B s) : Inv X pins σ (upd H a (CaughtO cls d a)) s := by
  obtain ⟨oe, vs, q1, q2, q3⟩ := W.obj
  obtain ⟨i1, i2, i3, i4, i5, i6, i7, i8, i9, i10, i11⟩ := W.inv
  have off : ∀ c, c ≠ a → upd H a (CaughtO cls d a) c = H c := fun c h => upd_ne h
  have off' : ∀ c u, H c = some u → upd H a (CaughtO cls d a) c = some u := fun c u h => (off c (ne_of_none h W.unk)).trans h
  have tell : ObjOk X.prog X.w (upd H a (CaughtO cls d a)) s.heap a (CaughtO cls d a) := by
    refine ⟨⟨oe, vs, q1, q2, q3⟩, ⟨oe, q1⟩, fun g g' hg keep => ?_⟩
    obtain ⟨o, v, r1, r2⟩ := hg
    exact ⟨o, v, keep o r1, r2⟩
  refine ⟨i1, i2, i3, ⟨i4.keep, i4.slot, fun c o e n x => ?_, i4.there, fun c xs e => off' c _ (i4.tups c xs e), fun c o u e => off' c _ (i4.frzs c o u e), fun c ps e => ?_⟩, i5, i6, (off _ (Ne.symm W.notL)).trans i7, fun y c e => ?_, fun p hp => ?_, i10.laidN (fun _ _ z => z) W.unk tell, i11⟩
  · by_cases hc : c = a
    · rw [hc] at e x
      exact (W.notS o e x).elim
    · exact (off c hc).trans (i4.free c o e n x)
  · obtain ⟨more, z⟩ := i4.tbls c ps e
    exact ⟨more, off' c _ z⟩
  · have hc : c ≠ a := fun z => by
      obtain ⟨v, o, r1, r2⟩ := i6 y c e
      rw [z, q1] at r1
      rw [← Option.some.inj r1, q3] at r2
      cases r2
    exact (off c hc).trans (i8 y c e)
  · obtain ⟨p1, p2, p3⟩ := i9 p hp
    exact ⟨p1, (off _ (W.notP p hp)).trans p2, p3⟩
/-- an exception that X lets through lands -/
theorem down_of {M : Model} {x' : Value → Shared → Prop} {pn : List (Addr × Obj)} {W : WX} {u : Value} {E : Value → Shared → Prop} {Q : Shared → Prop} (ok : X.Ok) (hst : X.stack = X.env :: X.outer) (hfl : X.env.frame = some X.env.locals) (xx : XE (X.tr (X.pn ++ pn) x') W u s)
    (hQ : ∀ (a : Addr) (B : Heap) (cls : Value) (d : Option Addr) (σ : St) (H : Hp) (s' : Shared), u = .ref a → W cls d σ H → Down X pn σ H cls d a B s' → Q s') : wpAny M X.A (noteFrame u X.env) (fun _ s1 => wpAny M X.A (setFlight u none) (fun _ s2 => Q s2) E s1) E s := by
  obtain ⟨a, B, sI, more, σ1, H1, cls, d, rfl, IT, gr, ups, sky, none1, eos, bar, wish⟩ := xx
  have I1 : Inv X pn σ1 H1 sI := Inv.ofTry IT ok
  have frameEq : X.A.frames = some (X.env :: X.outer) := ok.frames.trans (by rw [hst])
  have sky1 : Sky B (X.env :: X.outer) a (Zc cls d) X.env.locals s.heap := hst ▸ sky
  refine Sky.land (Q := fun _ => Q) Zc.steady frameEq hfl sky1 fun hL fly up2 => ?_
  obtain ⟨oe, vs, r1, _, r3⟩ := HandSPX.FlyingZ.there fly
  have out : a ∉ frs X.stack := fun hm => by
    rw [hst] at hm
    obtain ⟨_, o, eo, no⟩ := fly.2.2.1.mem hm
    rw [r1] at eo
    exact no vs (by rw [← Option.some.inj eo]; exact r3)
  have never : ∀ o, sI.heap.get? a = some o → False := fun o e => by
    have q := gr a o e out
    rw [fly.2.1] at q
    cases q
  refine hQ a B cls d σ1 H1 { s with heap := hL } rfl wish ⟨I1.landed gr fly.1 (ups.trans up2) eos bar, by rw [hst]; exact fly, none1, fun z => ?_, fun z => ?_, fun o e x => ?_, fun p hp z => ?_, sI, I1, gr, ups.trans up2, eos, bar⟩
  · exact out (by rw [hst]; exact List.mem_filterMap.mpr ⟨X.env, List.mem_cons_self, by rw [hfl, z]⟩)
  · obtain ⟨e, he, q⟩ := List.mem_filterMap.mp z
    exact out (by rw [hst]; exact List.mem_filterMap.mpr ⟨e, List.mem_cons_of_mem _ he, q⟩)
  · obtain ⟨o2, q⟩ := I1.base.there a o e x
    exact never o2 q
  · exact never _ (z ▸ (I1.pin p hp).1)
/-- .. and once more, when the suite begins -/
theorem Down.again {M : Model} {A : Around} {Q : Shared → Prop} {E : Value → Shared → Prop} (W : Down X pins σ H cls d a B s) (h : ∀ s', Down X pins σ H cls d a B s' → Q s') : wpAny M A (setFlight (.ref a) none) (fun _ => Q) E s := by
  obtain ⟨s0, J, gr, ups, eos, bar⟩ := W.gnd
  exact HandSPX.lands_againZ (Q := fun _ => Q) W.fly fun hL fly up2 => h { s with heap := hL } ⟨J.landed gr fly.1 (ups.trans up2) eos bar, fly, W.unk, W.notL, W.notF, W.notS, W.notP, s0, J, gr, ups.trans up2, eos, bar⟩
/-- its class is what the clause names -/
theorem Down.meets {A : Around} {E : Value → Shared → Prop} {c : Value} {Q : Bool → Shared → Prop} (W : Down X pins σ H cls d a B s) (hm : PySem.W.exmOne X.K cls c = some true) (h : Q true s) : wpAny (model X.prog X.w) A (excMatches (.ref a) c) Q E s := by
  obtain ⟨oe, vs, q1, q2, _⟩ := W.obj
  refine (PySem.W.exm_one (M := model X.prog X.w) W.inv.kIn (cls := cls) ?_ hm).here h
  intro A1 Q1 E1 s1 keep q
  exact wpAny_typeOf_ref (keep _ _ q1) (q2.1 ▸ q)
/-- the suite's context, the exception tracked -/
theorem Down.suite (W : Down X pins σ H cls d a B s) (ok : X.Ok) : Inv (X.suite a (X.pn ++ pins)) [] σ (upd H a (CaughtO cls d a)) s := by
  have I := W.tracked
  exact ⟨ok.suite _ _, I.os, I.bare, I.base, I.loc, I.cell, I.free, I.freeC, fun p hp => I.pin p (List.append_nil (X.pn ++ pins) ▸ hp), I.hok, I.len⟩
theorem unsuite_inv {σ' : St} {H' : Hp} {s' : Shared} (ok : X.Ok) (I : Inv (X.suite a (X.pn ++ pins)) [] σ' H' s') : Inv X pins σ' H' s' :=
  ⟨ok, I.os, I.bare, I.base, I.loc, I.cell, I.free, I.freeC, fun p hp => I.pin p ((List.append_nil (X.pn ++ pins)).symm ▸ hp), I.hok, I.len⟩
end
/-- what the clause wishes of an exception of the body, which is one of c: slot i is n's -/
def wKeep (K : PySem.W.Frag) (k : Nat) (c : Value) (i : Nat) (ts : Addr → TS) (D : Ends) : WX := fun cls d σ H =>
  PySem.W.exmOne K cls c = some true ∧ (σ.length = k → ∀ a, H a = none → ts a { nx := fun σ' H' => D.nx (σ'.set i none) H', rt := D.rt, bk := fun _ _ => False, ct := fun _ _ => False } (σ.set i (some (.ref a))) (upd H a (CaughtO cls d a)))
section
variable {X : Cx} {x n : Str} {c : Value} {i : Nat} {body suite : List Stmt} {b₀ : Stmt} {np pos pos' : Pos} {tb : WX → TS} {ts : Addr → TS}
theorem ps_try_keep (hst : X.stack = X.env :: X.outer) (hfl : X.env.frame = some X.env.locals) (nd : X.N.Nodup) (hi : X.N[i]? = some n) (hn : X.env.kindOf n = some .local) (nm : Names X x c)
    (hb : ∀ (W : WX) (pn : List (Addr × Obj)) (xe : Value → Shared → Prop), Takes (X.tr pn xe) W → PassesOwn (model X.prog X.w) X.A X.env xe → PSs (X.tr pn xe) body (tb W)) (hs : ∀ (a : Addr) (pn : List (Addr × Obj)), PSs (X.suite a pn) (b₀ :: suite) (ts a)) :
    PS X (.Try body [.ExceptHandler (some (.Name x np)) (some n) (b₀ :: suite) pos'] [] [] pos) (fun D σ H => tb (wKeep X.K X.N.length c i ts D) D σ H) := by
  constructor
  intro pins s σ H D I0 reading
  have ok := I0.ok
  apply wpAny_Try_except
  -- what a landed exception meets
  have clause : ∀ (a : Addr) (B : Heap) (cls : Value) (d : Option Addr) (σ1 : St) (H1 : Hp) (s1 : Shared), wKeep X.K X.N.length c i ts D cls d σ1 H1 → Down X pins σ1 H1 cls d a B s1 → wpAny (model X.prog X.w) X.A (handleBy (.ref a) X.env [.ExceptHandler (some (.Name x np)) (some n) (b₀ :: suite) pos']) (SP X pins D) X.xe s1 := by
    rintro a B cls d σ1 H1 s1 ⟨hm, go⟩ W
    apply wpAny_handleBy_cons
    · apply codeAny_handlers_test
      have named : ∀ {Q1 : Value → Shared → Prop} {E1 : Value → Shared → Prop}, Q1 c s1 → wpAny (model X.prog X.w) (X.suite a (X.pn ++ pins)).A (eval (.Name x np) X.env) Q1 E1 s1 := fun {Q1 E1} q => by
        have I := W.suite ok
        rcases nm with ⟨g, db, m | ⟨m, v, w⟩⟩
        · exact ld_glob (X := X.suite a (X.pn ++ pins)) I g m q db
        · exact ld_blt (X := X.suite a (X.pn ++ pins)) I g m v q w db
      refine named (W.meets hm ?_)
      apply codeAny_handlers_suite_as
      refine W.again fun s2 W2 => ?_
      refine store_ok (X := X.suite a (X.pn ++ pins)) (v := .ref a) (W2.suite ok) nd hi (.inl hn) rfl (fun s3 I3 => ?_) (.inr hn)
      refine wpAny_mono ((hs a (X.pn ++ pins)).run [] s3 _ _ _ I3 (go W.inv.len a W.unk)) (fun f s4 sp => ?_) fun _ _ z => False.elim z
      -- the clause's name goes
      have away : ∀ {σ5 : St} {H5 : Hp} {Q5 : Shared → Prop}, Inv (X.suite a (X.pn ++ pins)) [] σ5 H5 s4 → (∀ s6, Inv X pins (σ5.set i none) H5 s6 → Q5 s6) → wpAny (model X.prog X.w) X.A (do bindName X.env n .none; unbindBehindTheSuite X.env n pos') (fun _ => Q5) X.xe s4 :=
        fun I5 h5 => gone_ok (unsuite_inv ok I5) nd hi hn h5
      match f, sp with
      | .next, ⟨σ5, H5, I5, q5⟩ => exact away I5 fun s6 I6 => ⟨_, _, I6, q5⟩
      | .ret u, ⟨v, σ5, H5, I5, r5, q5⟩ => exact away I5 fun s6 I6 => ⟨_, _, _, I6, r5, q5⟩
      | .brk, ⟨_, _, _, z⟩ => exact z.elim
      | .cont, ⟨_, _, _, z⟩ => exact z.elim
    · intro z
      cases z
  refine wpAny_mono ((hb (wKeep X.K X.N.length c i ts D) (X.pn ++ pins) _ (fun u s' xx => down_of ok hst hfl xx fun a B cls d σ1 H1 s1 e wish W => e ▸ clause a B cls d σ1 H1 s1 wish W) PassesOwn.looking).run [] s σ H D (I0.toTry _) reading) (fun f s1 sp => ?_) fun _ _ z => z
  match f, sp with
  | .next, ⟨σ1, H1, I1, q1⟩ => exact wpAny_execs_nil ⟨σ1, H1, Inv.ofTry I1 ok, q1⟩
  | .ret u, ⟨v, σ1, H1, I1, r1, q1⟩ => exact ⟨v, σ1, H1, Inv.ofTry I1 ok, r1, q1⟩
  | .brk, ⟨σ1, H1, I1, q1⟩ => exact ⟨σ1, H1, Inv.ofTry I1 ok, q1⟩
  | .cont, ⟨σ1, H1, I1, q1⟩ => exact ⟨σ1, H1, Inv.ofTry I1 ok, q1⟩
end
end L2
set_option Elab.async false
set_option linter.all false
set_option maxRecDepth 100000
set_option maxHeartbeats 4000000
/-! A kept exception: isinstance, its fields. -/
namespace L2
open PySem PySem.Spec PyProof.Rows
/-- at a a kept exception of the own class D, with these fields -/
structure KeptX (K : PySem.W.Frag) (H : Hp) (a D : Addr) (fs : List (Str × V)) : Prop where
  ex : ∃ d, H a = some (CaughtO (.ref D) (some d) a) ∧ H d = some (.xd fs)
  cl : ExcC K D
section
variable {X : Cx} {pins : List (Addr × Obj)} {σ : St} {H : Hp} {s : Shared} {a D : Addr} {fs : List (Str × V)}
theorem kept_inst (I : Inv X pins σ H s) (k : KeptX X.K H a D fs) : ∃ (oe : Obj) (od : Obj), PySem.W.InstAt s.heap a oe D (some od) ∧ ∀ f, ∃ o, PySem.W.lookIn f od = some o ∧ RelO (fs.lookup f) o := by
  obtain ⟨d, h1, h2⟩ := k.ex
  obtain ⟨⟨oe, vs, q1, ⟨q2, q3⟩, q4⟩, _, _⟩ := I.hok a _ h1
  obtain ⟨m, ns, rel⟩ := I.hok d _ h2
  obtain ⟨od, ho, hl⟩ := lookIn_ns ns
  refine ⟨oe, od, ⟨q1, q2, ?_, ?_⟩, fun f => ⟨m f, hl f, rel f⟩⟩
  · unfold PySem.W.notCls
    rw [q4]
  · rw [q3]
    exact ho
/-- isinstance(e, c) -/
def rIsK (K : PySem.W.Frag) : List V → Hp → VK → Prop := fun xs H Q => ∃ (a D : Addr) (fs : List (Str × V)) (c : V) (cv : Value) (b : Bool), xs = [.ref a, c] ∧ KeptX K H a D fs ∧ (∀ u, RelV c u → u = cv) ∧ PySem.W.kitOne K (.ref D) cv = some b ∧ Q (.bl b) H
theorem call_isK : CallR X (.builtin "isinstance") (rIsK X.K) := by
  intro pins s σ H xs us Q I r h
  obtain ⟨a, D, fs, c, cv, b, rfl, k, hc, e, q⟩ := h
  match us, r with
  | [u1, u2], .cons r1 (.cons r2 .nil) =>
    obtain rfl : u1 = Value.ref a := r1
    rw [hc _ r2]
    obtain ⟨oe, od, J, _⟩ := kept_inst I k
    have C := k.cl
    obtain ⟨cd, e1, _⟩ := PySem.W.any_some C.hd
    exact PySem.W.kia_one (PySem.W.kitx_exc (by rw [e1]; rfl) C.hg C.hk C.hs C.ha C.hn C.ht C.hm) I.kIn J e (fun z => nomatch z) fun tk => ⟨.bl b, H, I.tok _, rfl, q⟩
/-- e.f -/
def tKeptF (K : PySem.W.Frag) (f : Str) (te : TE) : TE := fun σ H Q => te σ H fun x H1 => ∃ (a D : Addr) (fs : List (Str × V)) (v : V), x = .ref a ∧ KeptX K H1 a D fs ∧ PySem.W.findIn K (.ref D) f = some none ∧ fs.lookup f = some v ∧ Q v H1
theorem pe_keptF {e : Expr} {f : Str} {te : TE} {pos : Pos} (he : PE X e te) (hb : attributeBase e f X.env (eval e X.env) = eval e X.env := by rfl) : PE X (.Attribute e f pos) (tKeptF X.K f te) := by
  refine ⟨fun pins s σ H Q I h => attr_of hb (thn (he.run pins s σ H _ I h) fun u s1 hh => ?_)⟩
  obtain ⟨x, H1, I1, rx, a, D, fs, v, rfl, k, no, hl, q⟩ := hh
  obtain rfl : u = Value.ref a := rx
  obtain ⟨oe, od, J, look⟩ := kept_inst I1 k
  obtain ⟨o, l1, l2⟩ := look f
  obtain ⟨w', ew, rw'⟩ := RelO.some_of (v := v) (o := o) (hl ▸ l2)
  exact HandSPX.exc_get I1.kIn J k.cl.hg k.cl.hk k.cl.hs (PySem.W.findObj_own k.cl.hd no rfl (by rw [l1, ew])) (handed_of rw') ⟨v, H1, I1.tok _, rw', q⟩
end
end L2
set_option Elab.async false
set_option linter.all false
set_option maxRecDepth 100000
set_option maxHeartbeats 4000000
/-! A classmethod called by the class's name, with keywords. -/
namespace L2
open PySem PySem.Spec PyProof.Rows ClX
end L2
set_option Elab.async false
set_option linter.all false
set_option maxRecDepth 100000
set_option maxHeartbeats 4000000
/-! Lambdas as values: made, kept in lists, called later by a def that gets them. -/
namespace LamX
open PySem PySem.Spec PyProof.Rows L2
/-- the object at f is known -/
def FnO (f : Addr) (o : Obj) : HO := .ext fun h => h.get? f = some o
/-- the object that a lambda of X makes -/
abbrev lamObj (X : Cx) (params : Arguments) (body : Expr) (scope : Scope) (pm ctv : Value) (c' : Addr) : Obj :=
  PySem.W.kla_obj "<lambda>" (X.env.qual ++ "<lambda>") params body scope (cloFrom X.env.cells scope.names []) pm c' ctv
/-- at f stands a lambda of X -/
def LamO (X : Cx) (H : Hp) (f : Addr) (params : Arguments) (body : Expr) (scope : Scope) : Prop :=
  ∃ (c' : Addr) (pm ctv : Value), H f = some (FnO f (lamObj X params body scope pm ctv c')) ∧ H c' = some (CodeO c' (X.env.qual ++ "<lambda>"))
theorem fnO_ne {f : Addr} {o : Obj} (ps : Array Value) : FnO f o ≠ .tbl ps := fun z => by
  unfold FnO at z
  cases z
theorem LamO.ext {X : Cx} {H H' : Hp} {f : Addr} {params : Arguments} {body : Expr} {scope : Scope} (l : LamO X H f params body scope) (e : ExtN H H') : LamO X H' f params body scope := by
  obtain ⟨c', pm, ctv, h1, h2⟩ := l
  exact ⟨c', pm, ctv, e _ _ h1 fnO_ne, e _ _ h2 codeO_ne⟩
theorem fnO_ok {P : Program} {w : World} {H : Hp} {h : Heap} {f : Addr} {o : Obj} (e : h.get? f = some o) : ObjOk P w H h f (FnO f o) :=
  ⟨e, ⟨o, e⟩, fun _ _ p k => k _ p⟩
section
variable {X : Cx} {pins : List (Addr × Obj)} {σ : L2.St} {H : Hp} {s : Shared}
/-- a lambda is made, and its object is known from now on -/
theorem lam_made {T : List (Addr × Str)} {c P : Addr} {params : Arguments} {body : Expr} {scope : Scope} {pos : Pos} {E : Value → Shared → Prop} {Q : Value → Shared → Prop} (I : Inv X pins σ H s) (TB : TabB X.base X.mg c P) (hcode : X.env.code = .ref c)
    (hm : (P, X.env.qual ++ "<lambda>") ∈ T) (hu : ∀ p ∈ T, p.1 = P → p.2 = X.env.qual ++ "<lambda>") (hT : Tabs T H) (hdef : defaultsOf params X.env = ([], []))
    (hfree : ∀ y ∈ scope.names, y.2 = .free → ∃ c, X.env.cells.lookup y.1 = some c)
    (k : ∀ (f : Addr) (H1 : Hp) (s' : Shared), Inv X pins σ H1 s' → ExtN H H1 → Tabs T H1 → H f = none → LamO X H1 f params body scope → Q (.ref f) s') :
    wpAny (model X.prog X.w) X.A (eval (.Lambda params body scope pos) X.env) Q E s := by
  have here := hT _ hm
  obtain ⟨ps, hP, trip, among⟩ := here
  have oP : s.heap.get? P = some { cls := .none, data := .fields ps } := I.hok P _ hP
  have gl := I.mod.glob.keeps I.bk
  have cd := TB.code.keeps I.bk
  have bP := TB.bm.keeps I.bk
  refine PySem.W.kla_eval hdef ?_
  cases hc : codeAmong pos ps.toList with
  | some cv =>
    obtain ⟨c1, rfl, known⟩ := among pos cv hc
    refine PySem.W.kla_makeFunctionHit (mg := X.mg) (c := c) (P := P) (ps := ps) (closure_ok hfree) I.ok.glob gl hcode cd oP trip hc bP fun ctv h1 tk hx hsz => ?_
    have J : Inv X pins σ H { s with heap := h1, toks := tk } := I.kept fun b o e => hx b o e
    have new : H h1.objs.size = none := I.hok.fresh hsz
    have J2 := J.laid (a := h1.objs.size) (t' := tk) (h' := h1.push (lamObj X params body scope ((X.mg "__name__").getD .none) ctv c1)) (o := FnO h1.objs.size (lamObj X params body scope ((X.mg "__name__").getD .none) ctv c1))
      (fun b u e => Heap.get?_push_of_some _ e) (Nat.le_refl _) (fnO_ok (Heap.get?_push_size _ rfl))
    have eN : ExtN H (upd H h1.objs.size (FnO h1.objs.size (lamObj X params body scope ((X.mg "__name__").getD .none) ctv c1))) := fun b o e _ => by
      rw [upd_ne (ne_of_none e new)]
      exact e
    exact k _ _ _ J2 eN (hT.ext fun b o e => by rw [upd_ne (ne_of_none e new)]; exact e) new ⟨c1, _, _, upd_same, eN _ _ known codeO_ne⟩
  | none =>
    refine PySem.W.kla_makeFunction (mg := X.mg) (c := c) (P := P) (ps := ps) (closure_ok hfree) I.ok.glob gl hcode cd oP trip hc TB.gP bP fun c1 ctv h1 tk hx hge hlt hrec htb => ?_
    obtain ⟨c2, oc, vs, t, e2, hoc, hd, hv⟩ := hrec
    cases e2
    have nC : H c1 = none := I.hok.fresh hge
    have J := inv_table (t' := tk) (more := #[rawInt pos.line, rawInt pos.col, .ref c1]) (h' := h1) I hP hx htb hge ⟨oc, vs, t, hoc, hd, hv⟩
    have hsz : s.heap.objs.size ≤ h1.objs.size := Nat.le_trans hge (Nat.le_of_lt hlt)
    have new0 : H h1.objs.size = none := I.hok.fresh hsz
    have new : upd (upd H P (.tbl (ps ++ #[rawInt pos.line, rawInt pos.col, .ref c1]))) c1 (CodeO c1 (X.env.qual ++ "<lambda>")) h1.objs.size = none := J.hok.fresh (Nat.le_refl _)
    have J2 := J.laid (a := h1.objs.size) (t' := tk) (h' := h1.push (lamObj X params body scope ((X.mg "__name__").getD .none) ctv c1)) (o := FnO h1.objs.size (lamObj X params body scope ((X.mg "__name__").getD .none) ctv c1))
      (fun b u e => Heap.get?_push_of_some _ e) (Nat.le_refl _) (fnO_ok (Heap.get?_push_size _ rfl))
    have eA : ExtN H (upd (upd H P (.tbl (ps ++ #[rawInt pos.line, rawInt pos.col, .ref c1]))) c1 (CodeO c1 (X.env.qual ++ "<lambda>"))) := fun b o e n => by
      have h1 : b ≠ P := fun z => by
        rw [z, hP] at e
        exact n ps (Option.some.inj e).symm
      rw [upd_ne (ne_of_none e nC), upd_ne h1]
      exact e
    have known : upd (upd H P (.tbl (ps ++ #[rawInt pos.line, rawInt pos.col, .ref c1]))) c1 (CodeO c1 (X.env.qual ++ "<lambda>")) c1 = some (CodeO c1 (X.env.qual ++ "<lambda>")) := upd_same
    have tA : Tabs T (upd (upd H P (.tbl (ps ++ #[rawInt pos.line, rawInt pos.col, .ref c1]))) c1 (CodeO c1 (X.env.qual ++ "<lambda>"))) := fun p hp => by
      by_cases hb : p.1 = P
      · rw [hu p hp hb, hb]
        refine ⟨ps ++ #[rawInt pos.line, rawInt pos.col, .ref c1], by rw [upd_ne (ne_of_none hP nC), upd_same], ?_, fun p2 cv hcv => ?_⟩
        · rw [Array.toList_append]
          exact PySem.TriplesOk_snoc _ _ _ _ trip
        · rw [Array.toList_append] at hcv
          rcases among_app _ trip hcv with z | z
          · obtain ⟨c0, e1, e3⟩ := among p2 cv z
            exact ⟨c0, e1, eA _ _ e3 codeO_ne⟩
          · exact ⟨c1, z, known⟩
      · obtain ⟨qs, a1, a2, a3⟩ := hT p hp
        refine ⟨qs, by rw [upd_ne (ne_of_none a1 nC), upd_ne hb]; exact a1, a2, fun p2 cv hcv => ?_⟩
        obtain ⟨c0, e1, e3⟩ := a3 p2 cv hcv
        exact ⟨c0, e1, eA _ _ e3 codeO_ne⟩
    generalize upd (upd H P (.tbl (ps ++ #[rawInt pos.line, rawInt pos.col, .ref c1]))) c1 (CodeO c1 (X.env.qual ++ "<lambda>")) = HA at J J2 new eA known tA
    have st : ∀ b o, HA b = some o → upd HA h1.objs.size (FnO h1.objs.size (lamObj X params body scope ((X.mg "__name__").getD .none) ctv c1)) b = some o := fun b o e => by
      rw [upd_ne (ne_of_none e new)]
      exact e
    exact k _ _ _ J2 (eA.trans (ExtN.of st)) (tA.ext st) new0 ⟨c1, _, _, upd_same, st _ _ known⟩
end
end LamX
set_option Elab.async false
set_option linter.all false
set_option maxRecDepth 100000
set_option maxHeartbeats 4000000
/-! A def that calls what it got, where what it got is a lambda kept before. -/
namespace LamX
open PySem PySem.Spec PyProof.Rows L2
/-- a def x(a) that calls a: f stands for what it got, Kn is what is known of f -/
def GivesK (X : Cx) (Ng : List Str) (x : Str) (sg : Scope) (g : Addr) (cdg : Value) (bg : List Stmt) (a : Str) (TT : (XK → Hp → VK → Prop) → Hp → VK → Prop) : Prop :=
  ∀ (f : Addr) (Kn : Hp → Prop) (s : Shared) (H : Hp) (Q : VK) (tl : XK → Hp → VK → Prop), (∀ H H' : Hp, Kn H → (∀ b o, H b = some o → H' b = some o) → Kn H') →
    (∀ (W : WX) (pn : List (Addr × Obj)) (xe : Value → Shared → Prop) (E : XK) (p1 p2 : Pos), Takes ((cxOf C8.CX0 X.prog X.w X.K X.mg X.base Ng x sg g cdg X.A X.stack s H C8.E0).tr pn xe) W → (∀ cls d σ' H', E cls d H' → W cls d σ' H') →
      PE ((cxOf C8.CX0 X.prog X.w X.K X.mg X.base Ng x sg g cdg X.A X.stack s H C8.E0).tr pn xe) (.Call (.Name a p1) [] [] p2) (fun σZ HZ Q => σZ[0]? = some (some (.ref f)) ∧ Kn HZ ∧ tl E HZ Q)) →
    Kn H → TT tl H Q →
    ∃ t, PSs (cxOf C8.CX0 X.prog X.w X.K X.mg X.base Ng x sg g cdg X.A X.stack s H C8.E0).nox bg t ∧ t { nx := fun _ H' => Q .non H', rt := Q } (L2.start Ng [.ref f]) H
end LamX
set_option Elab.async false
set_option linter.all false
set_option maxRecDepth 100000
set_option maxHeartbeats 4000000
/-! zip(text, text). -/
namespace L2
open PySem PySem.Spec PyProof.Rows
/-- the signs of two texts of one length, in new pairs -/
def ItSz (x y : Str) (n : Nat) : It :=
  ⟨fun i _ => i < n, fun i H v H' => ∃ T c d, v = .ref T ∧ H T = none ∧ H' = upd H T (.tup [.str ⟨#[c]⟩, .str ⟨#[d]⟩]) ∧ x.cps[i]? = some c ∧ y.cps[i]? = some d, fun i _ => i = n⟩
theorem turn_zipS {P : Program} {w : World} {K : PySem.W.Frag} {elts : List Expr} {kk : Nat} {tpos : Pos} {n : Nat} (x y : Str) (t t2 : Tok) {z TI TO i1 i2 : Addr} (S : ZipSep2 z TI TO i1 i2 [i1] [i2]) (ex : x.cps.size = n) (ey : y.cps.size = n) :
    Turn P w K (.Tuple elts kk tpos) (ItSz x y n) [z, TI, TO, i1, i2] z (fun i h => IsZip h z TI TO .none ∧ IsTupOf2 h TI (.ref i1) (.ref i2) ∧ (∃ a b, IsTupOf2 h TO a b) ∧ h.IsStrIter i1 (strIterType x) x t i ∧ h.IsStrIter i2 (strIterType y) y t2 i) where
  mem := by simp
  obj := fun i h st c hc => by
    obtain ⟨hz, hTI, ⟨a, b, hTO⟩, ⟨o1, e1, _, d1⟩, ⟨o2, e2, _, d2⟩⟩ := st
    have e' : c = z ∨ c = TI ∨ c = TO ∨ c = i1 ∨ c = i2 := by simpa using hc
    rcases e' with q | q | q | q | q
    · rw [q]; exact ⟨_, hz, fun v q => nomatch q⟩
    · rw [q]; exact ⟨_, hTI, fun v q => nomatch q⟩
    · rw [q]; exact ⟨_, hTO, fun v q => nomatch q⟩
    · rw [q]; exact ⟨o1, e1, fun v q => by rw [d1] at q; cases q⟩
    · rw [q]; exact ⟨o2, e2, fun v q => by rw [d2] at q; cases q⟩
  keep := fun i h h' st k => by
    obtain ⟨hz, hTI, ⟨a, b, hTO⟩, ⟨o1, q1, r1⟩, ⟨o2, q2, r2⟩⟩ := st
    exact ⟨k z (by simp) _ hz, k TI (by simp) _ hTI, ⟨a, b, k TO (by simp) _ hTO⟩, ⟨o1, k i1 (by simp) _ q1, r1⟩, ⟨o2, k i2 (by simp) _ q2, r2⟩⟩
  item := by
    intro X hP hw hK hc i pins s σ H E I hf st hg
    subst hP hw hK
    obtain ⟨hz, hTI, ⟨a0, b0, hTO⟩, h1, h2⟩ := st
    have hzl : z < s.heap.objs.size := Heap.lt_size hz
    have hl1 : i < x.cps.size := by rw [ex]; exact hg
    have hl2 : i < y.cps.size := by rw [ey]; exact hg
    refine wpAny_pyNext_zipD2_item S (Draws.text (A := X.A.in1) (I.ok.hd hc) i1 x t) (Draws.text (A := X.A.in1) (I.ok.hd hc) i2 y t2) hz hTI hTO h1 h2 hl1 hl2 fun x1 x2 h' tk hx1 hx2 z' TO' h1' h2' hT hsz hk => ?_
    obtain ⟨c, u, hcx, rfl⟩ := hx1
    obtain ⟨d, u2, hdx, rfl⟩ := hx2
    refine ⟨_, rfl, wpAny_letOwnedTupleGo_zip (s := { s with heap := h', toks := tk }) z' fun h'' z'' sb => ?_⟩
    have hT2 : h''.get? s.heap.objs.size = some { cls := .type "tuple", data := .seq #[.str ⟨#[c]⟩ u, .str ⟨#[d]⟩ u2] } := (sb.2 _ (Nat.ne_of_gt hzl)).trans hT
    have new : ObjOk X.prog X.w (upd H s.heap.objs.size (.tup [.str ⟨#[c]⟩, .str ⟨#[d]⟩])) h'' s.heap.objs.size (.tup [.str ⟨#[c]⟩, .str ⟨#[d]⟩]) :=
      ⟨by show 2 ≤ sizeLine; decide, [.str ⟨#[c]⟩ u, .str ⟨#[d]⟩ u2], .cons ⟨_, rfl⟩ (.cons ⟨_, rfl⟩ .nil), ⟨_, hT2, rfl, _, rfl⟩⟩
    have I1 : Inv X pins σ (upd H s.heap.objs.size (.tup [.str ⟨#[c]⟩, .str ⟨#[d]⟩])) { s with heap := h'', toks := tk } :=
      I.turnedNew (t' := tk) (ch := [z, TI, TO, i1, i2]) (fun c o hb q => (sb.2 c (fun q' => hb (by simp [q']))).trans (hk c o (fun q' => hb (by simp [q'])) (fun q' => hb (by simp [q'])) (fun q' => hb (by simp [q'])) (fun q' => hb (by simp [q'])) q)) hf (Nat.le_refl _) new
    refine ⟨.ref s.heap.objs.size, _, I1, rfl, ⟨_, c, d, rfl, I.hok.fresh (Nat.le_refl _), rfl, hcx, hdx⟩, ⟨z'', ?_, ⟨.str ⟨#[c]⟩ u, .str ⟨#[d]⟩ u2, ?_⟩, ?_, ?_⟩, fun c hcm => ?_⟩
    · exact (sb.2 _ S.TIz).trans (hk _ _ S.TIz S.TITO S.TIi1 S.TIi2 hTI)
    · exact (sb.2 _ S.TOz).trans TO'
    · obtain ⟨o, q, r⟩ := h1'
      exact ⟨o, (sb.2 _ (Ne.symm S.zi1)).trans q, r⟩
    · obtain ⟨o, q, r⟩ := h2'
      exact ⟨o, (sb.2 _ (Ne.symm S.zi2)).trans q, r⟩
    · have hlt : c < s.heap.objs.size := by
        have e' : c = z ∨ c = TI ∨ c = TO ∨ c = i1 ∨ c = i2 := by simpa using hcm
        rcases e' with q | q | q | q | q
        · rw [q]; exact hzl
        · rw [q]; exact Heap.lt_size hTI
        · rw [q]; exact Heap.lt_size hTO
        · rw [q]; obtain ⟨_, e1, _⟩ := h1; exact Heap.lt_size e1
        · rw [q]; obtain ⟨_, e2, _⟩ := h2; exact Heap.lt_size e2
      rw [upd_ne (Nat.ne_of_lt hlt)]
      exact (hf c hcm).1
  done := by
    intro X hP hw hK hc i pins s σ H E I hf st hg
    subst hP hw hK
    obtain ⟨hz, hTI, ⟨a0, b0, hTO⟩, h1, h2⟩ := st
    have hi : i = n := hg
    exact wpAny_pyNext_zipD2_end S (Draws.text (A := X.A.in1) (I.ok.hd hc) i1 x t) (Draws.text (A := X.A.in1) (I.ok.hd hc) i2 y t2) hz hTI hTO h1 h2 (by omega) (by omega) (.inl (by omega)) fun h' tk hk => ⟨rfl, I.turnedL (t' := tk) (ch := [z, TI, TO, i1, i2]) (fun c o hb q =>
      hk c o (fun q' => hb (by simp [q'])) (fun q' => hb (by simp [q'])) (fun q' => hb (by simp [q'])) (fun q' => hb (by simp [q'])) q) hf⟩
  self := fun A i s Q E st h => wpAny_pyIter_zip st.1 h
theorem zsep (n : Nat) : ZipSep2 (n + 4) (n + 2) (n + 3) n (n + 1) [n] [n + 1] where
  TIz := by show (n + 2 : Nat) ≠ n + 4; omega
  TOz := by show (n + 3 : Nat) ≠ n + 4; omega
  TITO := by show (n + 2 : Nat) ≠ n + 3; omega
  TIi1 := by show (n + 2 : Nat) ≠ n; omega
  mem1 := List.mem_singleton.mpr rfl
  zf1 := fun h => by have : (n + 4 : Nat) = n := List.mem_singleton.mp h; omega
  Tf1 := fun h => by have : (n + 3 : Nat) = n := List.mem_singleton.mp h; omega
  TIi2 := by show (n + 2 : Nat) ≠ n + 1; omega
  mem2 := List.mem_singleton.mpr rfl
  zf2 := fun h => by have : (n + 4 : Nat) = n + 1 := List.mem_singleton.mp h; omega
  Tf2 := fun h => by have : (n + 3 : Nat) = n + 1 := List.mem_singleton.mp h; omega
  sep1_2 := fun h => by have : (n : Nat) = n + 1 := List.mem_singleton.mp h; omega
  sep2_1 := fun h => by have : (n + 1 : Nat) = n := List.mem_singleton.mp h; omega
def iZipS (ta : TA) : TI := fun σ H R => ta σ H fun vs H1 => ∃ x y n, vs = [.str x, .str y] ∧ x.cps.size = n ∧ y.cps.size = n ∧ R (ItSz x y n) H1
theorem pi_zipS {X : Cx} {e e2 : Expr} {ta : TA} {p pos tpos : Pos} {elts : List Expr} {kk : Nat} (hg : Gl X "zip") (hm : X.mg "zip" = none) (ha : PA X [e, e2] ta)
    (hs : starEach [e, e2] X.env = (false, eval e X.env) :: starEach [e2] X.env := by rfl) (hpl : (backTo pos (starEach [e2] X.env)).any (·.1) = false := by rfl) :
    PI X (.Tuple elts kk tpos) (.Call (.Name "zip" p) [e, e2] [] pos) (iZipS ta) := by
  refine ⟨fun pins s σ H R I h => ?_⟩
  refine Call_ (ld_blt I hg hm PyProof.Rows.boot_zip (PyProof.Rows.callWith_type1 (thn (ha.run pos pins s σ H _ I h) fun us s1 ⟨vs, H1, I1, r1, q1⟩ => ?_) hs hpl))
  obtain ⟨x, y, n, rfl, ex, ey, q⟩ := q1
  cases r1 with
  | cons r rr =>
    cases rr with
    | cons r' rr =>
      cases rr
      obtain ⟨t, rfl⟩ := r
      obtain ⟨t2, rfl⟩ := r'
      have fresh5 : ∀ c, c ∈ [s1.heap.objs.size + 4, s1.heap.objs.size + 2, s1.heap.objs.size + 3, s1.heap.objs.size, s1.heap.objs.size + 1] → FpOk X pins H1 c := fun c hcm => by
        have e' : c = s1.heap.objs.size + 4 ∨ c = s1.heap.objs.size + 2 ∨ c = s1.heap.objs.size + 3 ∨ c = s1.heap.objs.size ∨ c = s1.heap.objs.size + 1 := by simpa using hcm
        have hle : s1.heap.objs.size ≤ c := by
          rcases e' with z | z | z | z | z
          · rw [z]; exact Nat.le_add_right _ _
          · rw [z]; exact Nat.le_add_right _ _
          · rw [z]; exact Nat.le_add_right _ _
          · rw [z]; exact Nat.le_refl _
          · rw [z]; exact Nat.le_add_right _ _
        exact I1.fpOk hle (I1.hok.fresh hle)
      refine zip_begins2 (begins_text x t) (begins_text y t2) trivial trivial fun h' hz hTI hTO h1 h2 hsz hk => wpAny_pyIter_zip hz ?_
      have I2 : Inv X pins σ H1 { s1 with heap := h' } := I1.kept (t' := s1.toks) hk
      refine ⟨s1.heap.objs.size + 4, [s1.heap.objs.size + 4, s1.heap.objs.size + 2, s1.heap.objs.size + 3, s1.heap.objs.size, s1.heap.objs.size + 1], _, _, H1, rfl, I2, turn_zipS x y t t2 (zsep _) ex ey, ⟨hz, hTI, ⟨_, _, hTO⟩, ⟨_, h1, rfl, rfl⟩, ⟨_, h2, rfl, rfl⟩⟩, fresh5, q⟩
theorem walk_zipS {x y : Str} {n : Nat} : Walk (ItSz x y n) n (fun _ => True) (fun i H v H' => ∃ T c d, v = .ref T ∧ H T = none ∧ H' = upd H T (.tup [.str ⟨#[c]⟩, .str ⟨#[d]⟩]) ∧ x.cps[i]? = some c ∧ y.cps[i]? = some d) :=
  ⟨fun _ _ hi _ => hi, fun _ _ => rfl, fun _ _ _ _ _ _ y => y⟩
end L2
set_option Elab.async false
set_option linter.all false
set_option maxRecDepth 100000
set_option maxHeartbeats 4000000
/-! text * k. -/
namespace L2
open PySem PySem.Spec PyProof.Rows
end L2
set_option Elab.async false
set_option linter.all false
set_option maxRecDepth 100000
set_option maxHeartbeats 4000000
/-! Equal dicts, whose values are data of any depth; iter(a dict) and loops by it. -/
namespace L2
open PySem PySem.Spec PyProof.Rows ItX
end L2
set_option Elab.async false
set_option linter.all false
set_option maxRecDepth 100000
set_option maxHeartbeats 4000000
/-! enumerate(a tuple). -/
namespace PySem
end PySem
namespace L2
open PySem PySem.Spec PyProof.Rows
end L2
set_option Elab.async false
set_option linter.all false
set_option maxRecDepth 100000
set_option maxHeartbeats 4000000
/-! repr of a text or an integer. -/
namespace L2
open PySem PySem.Spec PyProof.Rows
end L2
set_option Elab.async false
set_option linter.all false
set_option maxRecDepth 100000
set_option maxHeartbeats 4000000
/-! Signs of an own class: with a value of any other kind on the right; x >= y, where y's own <= answers; x |= y, where there is no __ior__. -/
namespace PySem.W
open PySem PySem.Spec PySem.Calls PyProof.Rows
end PySem.W
set_option Elab.async false
set_option linter.all false
set_option maxRecDepth 100000
set_option maxHeartbeats 4000000
/-! x op= y of one own class, which has no method for it in place. -/
namespace PySem.W
open PySem PySem.Spec PySem.Calls PyProof.Rows
end PySem.W
set_option Elab.async false
set_option linter.all false
set_option maxRecDepth 100000
set_option maxHeartbeats 4000000
/-! The rules for these signs. -/
namespace L2
open PySem PySem.Spec PyProof.Rows
end L2
set_option Elab.async false
set_option linter.all false
set_option maxRecDepth 100000
set_option maxHeartbeats 4000000
/-! repr of a bool. -/
namespace L2
open PySem PySem.Spec PyProof.Rows
end L2
set_option Elab.async false
set_option linter.all false
set_option maxRecDepth 100000
set_option maxHeartbeats 4000000
/-! Where no repr is under way: what defs promise there; repr of lists and tuples. -/
namespace L2
open PySem PySem.Spec PyProof.Rows
mutual
/-- x is laid in H as the datum d -/
inductive PyV (H : Hp) : V → PyData → Prop
  | non : PyV H .non .none
  | bl (b : Bool) : PyV H (.bl b) (.bool b)
  | int (i : Int) : PyV H (.int i) (.int i)
  | str (z : Str) : PyV H (.str z) (.str z)
  | tup {a : Addr} {xs : List V} {ds : List PyData} : H a = some (.tup xs) → PyVs H xs ds → PyV H (.ref a) (.tuple ds)
  | lst {a : Addr} {xs : List V} {ds : List PyData} : H a = some (.lst xs) → PyVs H xs ds → PyV H (.ref a) (.list ds)
inductive PyVs (H : Hp) : List V → List PyData → Prop
  | nil : PyVs H [] []
  | cons {x : V} {d : PyData} {xs : List V} {ds : List PyData} : PyV H x d → PyVs H xs ds → PyVs H (x :: xs) (d :: ds)
end
mutual
theorem PyV.same {H H2 : Hp} (s : ∀ b o, H b = some o → H2 b = some o) : ∀ {x : V} {d : PyData}, PyV H x d → PyV H2 x d
  | _, _, .non => .non
  | _, _, .bl b => .bl b
  | _, _, .int i => .int i
  | _, _, .str z => .str z
  | _, _, .tup h r => .tup (s _ _ h) (PyVs.same s r)
  | _, _, .lst h r => .lst (s _ _ h) (PyVs.same s r)
theorem PyVs.same {H H2 : Hp} (s : ∀ b o, H b = some o → H2 b = some o) : ∀ {xs : List V} {ds : List PyData}, PyVs H xs ds → PyVs H2 xs ds
  | _, _, .nil => .nil
  | _, _, .cons h r => .cons (PyV.same s h) (PyVs.same s r)
end
mutual
theorem PyV.keep {H H2 : Hp} (s : ∀ b o, H b = some o → ((∃ xs, o = .tup xs) ∨ ∃ xs, o = .lst xs) → H2 b = some o) : ∀ {x : V} {d : PyData}, PyV H x d → PyV H2 x d
  | _, _, .non => .non
  | _, _, .bl b => .bl b
  | _, _, .int i => .int i
  | _, _, .str z => .str z
  | _, _, .tup h r => .tup (s _ _ h (.inl ⟨_, rfl⟩)) (PyVs.keep s r)
  | _, _, .lst h r => .lst (s _ _ h (.inr ⟨_, rfl⟩)) (PyVs.keep s r)
theorem PyVs.keep {H H2 : Hp} (s : ∀ b o, H b = some o → ((∃ xs, o = .tup xs) ∨ ∃ xs, o = .lst xs) → H2 b = some o) : ∀ {xs : List V} {ds : List PyData}, PyVs H xs ds → PyVs H2 xs ds
  | _, _, .nil => .nil
  | _, _, .cons h r => .cons (PyV.keep s h) (PyVs.keep s r)
end
theorem PyV.but {H H2 : Hp} {a : Addr} {x : V} {d : PyData} {f : Heap → Prop} (p : PyV H x d) (s : ∀ b o, H b = some o → b ≠ a → H2 b = some o) (ha : H a = some (.ext f)) : PyV H2 x d :=
  p.keep fun b o e k => s b o e fun z => by
    rw [z, ha] at e
    cases e
    rcases k with ⟨xs, k⟩ | ⟨xs, k⟩ <;> cases k
mutual
theorem PyV.noDict {H : Hp} : ∀ {x : V} {d : PyData}, PyV H x d → d.hasDict = false
  | _, _, .non => by simp only [PyData.hasDict]
  | _, _, .bl b => by simp only [PyData.hasDict]
  | _, _, .int i => by simp only [PyData.hasDict]
  | _, _, .str z => by simp only [PyData.hasDict]
  | _, _, .tup h r => by simp only [PyData.hasDict]; exact PyVs.noDict r
  | _, _, .lst h r => by simp only [PyData.hasDict]; exact PyVs.noDict r
theorem PyVs.noDict {H : Hp} : ∀ {xs : List V} {ds : List PyData}, PyVs H xs ds → PyData.hasDictAll ds = false
  | _, _, .nil => by simp only [PyData.hasDictAll]
  | _, _, .cons h r => by simp only [PyData.hasDictAll, PyV.noDict h, PyVs.noDict r, Bool.or_false]
end
mutual
theorem PyV.reads {P : Program} {w : World} {H : Hp} {h : Heap} (ok : HOk P w H h) : ∀ {x : V} {d : PyData} {u : Value}, PyV H x d → RelV x u → ∃ as, Reads h u d as
  | _, _, u, .non, r => by
    obtain rfl : u = Value.none := r
    exact ⟨_, .none⟩
  | _, _, u, .bl b, r => by
    obtain rfl : u = Value.bool b := r
    exact ⟨_, .bool b⟩
  | _, _, u, .int i, r => by
    obtain ⟨t, rfl⟩ : ∃ t, u = Value.int i t := r
    exact ⟨_, .int i t⟩
  | _, _, u, .str z, r => by
    obtain ⟨t, rfl⟩ : ∃ t, u = Value.str z t := r
    exact ⟨_, .str z t⟩
  | _, _, u, .tup (a := a) h1 h2, r => by
    obtain rfl : u = Value.ref a := r
    obtain ⟨_, its, rel, o, e1, e2, n, e3⟩ := ok a _ h1
    obtain ⟨as, q⟩ := PyVs.reads ok h2 rel
    exact ⟨_, .tuple e1 e2 e3 q⟩
  | _, _, u, .lst (a := a) h1 h2, r => by
    obtain rfl : u = Value.ref a := r
    obtain ⟨_, its, n, rel, e1⟩ := ok a _ h1
    obtain ⟨as, q⟩ := PyVs.reads ok h2 rel
    exact ⟨_, .list e1 rfl rfl q⟩
theorem PyVs.reads {P : Program} {w : World} {H : Hp} {h : Heap} (ok : HOk P w H h) : ∀ {xs : List V} {ds : List PyData} {us : List Value}, PyVs H xs ds → Vals xs us → ∃ as, ReadsAll h us ds as
  | _, _, _, .nil, r => by
    cases r
    exact ⟨_, .nil⟩
  | _, _, _, .cons h1 h2, r => by
    cases r with
    | cons r1 r2 =>
      obtain ⟨a1, q1⟩ := PyV.reads ok h1 r1
      obtain ⟨a2, q2⟩ := PyVs.reads ok h2 r2
      exact ⟨_, .cons q1 q2⟩
end
/-- a datum that can be told: its text is not too long -/
structure Tells (d : PyData) : Prop where
  sh : d.showable = true
  dp : d.depth ≤ 4
  sz : d.shown.length ≤ 8000000
theorem Tells.size {d : PyData} (t : Tells d) : d.shown.length ≤ sizeLine := by
  have := t.sz
  rw [sizeLine_eq]
  omega
theorem shown_str (z : Str) : (PyData.str z).shown = reprText z := by simp only [PyData.shown]
theorem shown_none : PyData.none.shown = "None" := by simp only [PyData.shown]
section
variable {X : Cx} {j : Nat}
/-- repr of a datum, as its text -/
theorem repr_any {pins : List (Addr × Obj)} {σ : St} {H : Hp} {s : Shared} {Q : VK} {x : V} {u : Value} {d : PyData} (quiet : X.A.guards = some []) (room : X.A.units + 64 < cLine) (I : Inv X pins σ H s) (r : RelV x u) (p : PyV H x d) (t : Tells d) (q : Q (.str d.shown) H) :
    wpAny (model X.prog X.w) X.A (pyReprObj u) (EP X pins σ Q) X.xe s := by
  have out : ∀ (h2 : Heap) (k tk : Nat), (∀ b o, s.heap.get? b = some o → h2.get? b = some o) → EP X pins σ Q (.str d.shown k) { s with heap := h2, toks := tk } := fun h2 k tk kp => ⟨.str d.shown, H, I.kept kp, ⟨k, rfl⟩, q⟩
  have dp := t.dp
  have un : X.A.units + d.depth < cLine := by omega
  obtain ⟨as, rd⟩ := p.reads I.hok r
  cases p with
  | non =>
    obtain rfl : u = Value.none := r
    rw [shown_none] at out
    exact pyReprObj_none (out _ _ _ fun _ _ e => e)
  | bl b =>
    obtain rfl : u = Value.bool b := r
    have e : (PyData.bool b).shown = if b = true then "True" else "False" := by cases b <;> simp [PyData.shown]
    rw [e] at out
    refine pyReprObj_bool ?_
    have o2 := out s.heap s.toks (s.toks + 1) fun _ _ e => e
    cases b <;> exact o2
  | int i =>
    obtain ⟨tt, rfl⟩ : ∃ t, u = Value.int i t := r
    have e : (PyData.int i).shown = toString i := by simp only [PyData.shown]
    have hz : i.natAbs.log2 < 1920 := by simpa [PyData.showable] using t.sh
    rw [e] at out
    exact pyReprObj_int hz (out _ _ _ fun _ _ e => e)
  | str z =>
    obtain ⟨tt, rfl⟩ : ∃ t, u = Value.str z t := r
    have sz := t.size
    rw [shown_str] at out sz
    exact pyReprObj_str (out _ _ _ fun _ _ e => e) sz
  | tup h1 h2 =>
    obtain rfl := r
    exact pyReprObj_of_reads rd t.sh (PyData.noDict_hsm (PyV.noDict (.tup h1 h2))) quiet un (fun _ _ e => e) out t.size
  | lst h1 h2 =>
    obtain rfl := r
    exact pyReprObj_of_reads rd t.sh (PyData.noDict_hsm (PyV.noDict (.lst h1 h2))) quiet un (fun _ _ e => e) out t.size
end
end L2
set_option Elab.async false
set_option linter.all false
set_option maxRecDepth 100000
set_option maxHeartbeats 4000000
/-! Where no repr is under way: calls of defs, own errors made, lambdas called. -/
namespace L2
open PySem PySem.Spec PyProof.Rows
/-- no repr is under way -/
abbrev Quiet (A : Around) : Prop := A.guards = some []
/-- what a def promises where no repr is under way -/
structure FnG (P : Program) (w : World) (K : PySem.W.Frag) (mg : Str → Option Value) (base : Heap) (C : CXT) (k : Nat) (f : Addr) (fd : FuncData) (ps : List Str) (sp : Sp) : Prop where
  count : ∀ (xs : List V) (H : Hp) (Q : VK) (E : XK), sp xs H Q E → xs.length = ps.length
  runs : ∀ (A : Around) (outer : List Env) (s : Shared) (H : Hp) (args : Args) (us : List Value) (xs : List V) (Q : VK) (E : XK), Quiet A → Room k A → Env0 P w K mg base A outer s H → BindsTo s fd args (ps.zip us) → Vals xs us → sp xs H Q E →
    codeAny (model P w) A (.call (.ref f) args) (CR C outer P w H s Q E) s
section
variable {P : Program} {w : World} {K : PySem.W.Frag} {mg : Str → Option Value} {base : Heap} {C : CXT} {k j : Nat} {f : Addr} {fd : FuncData} {ps : List Str} {sp : Sp}
theorem FnOk.quiet (F : FnOk P w K mg base C k f fd ps sp) : FnG P w K mg base C k f fd ps sp := ⟨fun xs H Q E h => F.len xs H Q E h, fun A outer s H args us xs Q E _ r e b v h => F.run A outer s H args us xs Q E r e b v h⟩
/-- a def by its body -/
theorem Fun.okG {x qual : Str} {st : Stmt} {N : List Str} (F : Fun K x qual st f fd) (S : FnScope N ps (defScope st)) (count : ∀ (xs : List V) (H : Hp) (Q : VK) (E : XK), sp xs H Q E → xs.length = ps.length)
    (body : ∀ (cdv : Value) (A : Around) (outer : List Env) (s : Shared) (H : Hp) (xs : List V) (Q : VK) (E : XK), Quiet A → Room k (A.deeper (envOfC qual (defScope st) s.heap.objs.size f cdv)) → sp xs H Q E →
      ∃ t, PSs (cxOf CX0 P w K mg base N qual (defScope st) f cdv A outer s H E).nox (defBody st) t ∧ t { nx := fun _ H2 => Q .non H2, rt := Q } (start N xs) H) : FnG P w K mg base CX0 (k + 1) f fd ps sp := by
  obtain ⟨oc, od, kV, doc, pm, an, cdv, ct, osl, e, look, ci⟩ := F.ex
  subst e
  refine ⟨count, fun A outer s H args us xs Q E g r e0 b v h => LamX.run_ofS look ci S r e0 b v (count _ _ _ _ h) fun r2 => ?_⟩
  obtain ⟨t, h1, h2⟩ := body cdv A outer s H xs Q E g r2 h
  exact ⟨t, h1.nox, h2⟩
theorem Fun.okXG {x qual : Str} {st : Stmt} {N : List Str} (F : Fun K x qual st f fd) (S : FnScope N ps (defScope st)) (count : ∀ (xs : List V) (H : Hp) (Q : VK) (E : XK), sp xs H Q E → xs.length = ps.length)
    (body : ∀ (cdv : Value) (A : Around) (outer : List Env) (s : Shared) (H : Hp) (xs : List V) (Q : VK) (E : XK), Quiet A → Room k (A.deeper (envOfC qual (defScope st) s.heap.objs.size f cdv)) → sp xs H Q E →
      ∃ t, PSs (cxOf (L2.CX P w) P w K mg base N qual (defScope st) f cdv A outer s H E) (defBody st) t ∧ t { nx := fun _ H2 => Q .non H2, rt := Q } (start N xs) H) : FnG P w K mg base (L2.CX P w) (k + 1) f fd ps sp := by
  obtain ⟨oc, od, kV, doc, pm, an, cdv, ct, osl, e, look, ci⟩ := F.ex
  subst e
  exact ⟨count, fun A outer s H args us xs Q E g r e0 b v h => LamX.run_ofS look ci S r e0 b v (count _ _ _ _ h) fun r2 => body cdv A outer s H xs Q E g r2 h⟩
end
section
variable {X : Cx} {C : CXT} {k j : Nat} {f : Addr} {fd : FuncData} {ps : List Str} {sp : Sp} {dvs : List V} {ds : List Value} {E : XK} {x : Str} {p pos pos2 : Pos} {e : Expr} {es : List Expr} {t ta : TA} {W : WX}
/-- the def runs -/
theorem runG {pins : List (Addr × Obj)} {σ : St} {H : Hp} {s : Shared} {Q : VK} {us : List Value} {xs : List V} (F : FnG X.prog X.w X.K X.mg X.base C k f fd ps sp) (g : Quiet X.A) (r : Room k X.A) (b : Binds X.K fd ps ds) (d : Vals dvs ds) (out : Passes C X E)
    (I : Inv X pins σ H s) (v : Vals xs us) (h : sp (xs ++ dvs) H Q E) : wpAny (model X.prog X.w) X.A (call (.ref f) us) (EP X pins σ Q) X.xe s := by
  have v2 := v.append d
  have n : (us ++ ds).length = ps.length := by
    rw [← v2.length]
    exact F.count _ _ _ _ h
  have ran := F.runs X.A X.stack s H ⟨us, []⟩ (us ++ ds) (xs ++ dvs) Q E g r I.env0 (b s us I.kIn n) v2 h
  refine wpAny_call (codeAny_mono ran fun a s2 z => ?_)
  match a, z with
  | .error er, z => exact out pins σ H s er s2 I z
  | .ok (.ret u), z => exact I.after z
  | .ok .next, z => exact z.elim
  | .ok .brk, z => exact z.elim
  | .ok .cont, z => exact z.elim
/-- a def of the text, by its name, where no repr is under way -/
structure DfG (P : Program) (w : World) (K : PySem.W.Frag) (mg : Str → Option Value) (base : Heap) (C : CXT) (k : Nat) (x : Str) (sp : Sp) : Prop where
  ex : ∃ (f : Addr) (fd : FuncData) (ps : List Str), FnG P w K mg base C k f fd ps sp ∧ mg x = some (.ref f) ∧ PySem.W.keepIn K (.ref f) = true ∧ Binds K fd ps []
theorem pe_cG (c : DfG X.prog X.w X.K X.mg X.base C k x sp) (g : Quiet X.A) (out : Passes C X E) (r : Room j X.A) (hk : k ≤ j) (hg : Gl X x) (ha : PA X (e :: es) t)
    (hdb : (x == ("__debug__" : Str)) = false := by decide) (he : starEach (e :: es) X.env = (false, eval e X.env) :: starEach es X.env := by rfl) (hpl : (backTo pos (starEach es X.env)).any (·.1) = false := by rfl) :
    PE X (.Call (.Name x p) (e :: es) [] pos) (tCall sp [] E t) := by
  obtain ⟨f, fd, ps, F, hm, kp, b⟩ := c.ex
  refine ⟨fun pins s σ H Q I h => ?_⟩
  refine wpAny_Call_Name_kw (ld_glob I hg hm ?_ hdb)
  refine PySem.W.callWith_K (h₀ := X.base) I.ok.mod.kin kp (thn (ha.run pos pins s σ H _ I h) fun us s1 z => ?_) he hpl
  obtain ⟨xs, H1, J, v, q⟩ := z
  exact ⟨J.kIn, runG F g (r.mono hk) b .nil out J v q⟩
/-- an expression that makes an error whose record has its six fields -/
def PMk6 (X : Cx) (e : Expr) (t : St → Hp → XK → Prop) : Prop :=
  ∀ (pins : List (Addr × Obj)) (s : Shared) (σ : St) (H : Hp) (Q : XK), Inv X pins σ H s → t σ H Q → wpAny (model X.prog X.w) X.A (eval e X.env) (fun u s2 => MkP X pins σ Q u s2 ∧ ∀ (a : Addr) (oe : Obj) (vs : Array Value), u = .ref a → s2.heap.get? a = some oe → oe.data = .fields vs → 4 < vs.size) X.xe s
theorem PMk6.pmk {X : Cx} {e : Expr} {t : St → Hp → XK → Prop} (h : PMk6 X e t) : PMk X e t := fun pins s σ H Q I q => thn (h pins s σ H Q I q) fun _ _ z => z.1
theorem under_quiet {A : Around} {Cl : Addr} {us : List Value} {kw : List (Str × Value)} (g : Quiet A) : Quiet (A.under (.builtin "type.__call__" ⟨.ref Cl :: us, kw⟩)) := by
  have e : A.guards = some [] := g
  show (A.under (.builtin "type.__call__" ⟨.ref Cl :: us, kw⟩)).guards = some []
  simp [Around.under, e, Code.guards, Code.isGuard, pushGuards, guardIds]
/-- an own error, made -/
theorem pmk_oexG {Cl fI : Addr} (T : OexC X.K Cl) (iC : PySem.W.findIn X.K (.ref Cl) "__init__" = some (some (.ref fI))) (tI : PySem.W.typeIn X.K (.ref fI) = some (.type "function"))
    (Fn : FnG X.prog X.w X.K X.mg X.base C k fI fd ps sp) (g : Quiet X.A) (r : Room (k + 1) X.A) (b : Binds X.K fd ps []) (none_out : Passes C X (fun _ _ _ => False)) (hg : Gl X x) (hm : X.mg x = some (.ref Cl)) (ha : PA X (e :: es) ta)
    (hdb : (x == ("__debug__" : Str)) = false := by decide) (he : starEach (e :: es) X.env = (false, eval e X.env) :: starEach es X.env := by rfl) (hpl : (backTo pos (starEach es X.env)).any (·.1) = false := by rfl) :
    PMk6 X (.Call (.Name x p) (e :: es) [] pos) (tMkO Cl sp [] ta) := by
  intro pins s σ H Q I h
  obtain ⟨nm, qn, NN, bs, bm, sn, sub, ab, col, dd, k0, k1, k2, k3, k5, isC, isB⟩ := T.cls
  refine wpAny_Call_Name_kw (ld_glob I hg hm ?_ hdb)
  refine PySem.W.callWith_K (h₀ := X.base) I.ok.mod.kin T.kC (thn (ha.run pos pins s σ H _ I h) fun us s1 z => ?_) he hpl
  obtain ⟨xs, H1, J, v, small, q⟩ := z
  refine ⟨J.kIn, ?_⟩
  obtain ⟨hp, gn, dr, tk, os⟩ := s1
  -- the tuple of the arguments, then the error
  have up : hp.objs.size ≤ hp.objs.size + 1 := Nat.le_succ _
  have new : H1 (hp.objs.size + 1) = none := J.hok.fresh up
  have q2 := q _ new
  generalize hG : (hp.push (PySem.W.kdv_tup us)).push (PySem.HandSPX.excO Cl hp.objs.size) = G
  have keep : ∀ c o, hp.get? c = some o → G.get? c = some o := fun c o z => by
    rw [← hG]
    exact Heap.get?_push_of_some _ (Heap.get?_push_of_some _ z)
  have here : G.get? (hp.objs.size + 1) = some (PySem.HandSPX.excO Cl hp.objs.size) := by
    rw [← hG]
    heap_get
  have J2 : Inv X pins σ (upd H1 (hp.objs.size + 1) (exo (hp.objs.size + 1) Cl none)) ⟨G, gn, dr, tk, os⟩ := J.laid (t' := tk) keep up (exo_ok here)
  have v2 : Vals (V.ref (hp.objs.size + 1) :: (xs ++ [])) (Value.ref (hp.objs.size + 1) :: (us ++ [])) := .cons rfl (v.append .nil)
  have n2 : (Value.ref (hp.objs.size + 1) :: us ++ []).length = ps.length := by
    have z := v2.length
    rw [Fn.count _ _ _ _ q2] at z
    exact z.symm
  have short : us.length ≤ sizeLine := by
    have z := v.length
    rw [← z, sizeLine_eq]
    omega
  have bb : BindsTo ⟨G, gn, dr, tk, os⟩ fd ⟨Value.ref (hp.objs.size + 1) :: us, []⟩ (ps.zip (Value.ref (hp.objs.size + 1) :: (us ++ []))) := by
    have z := b ⟨G, gn, dr, tk, os⟩ (Value.ref (hp.objs.size + 1) :: us) J2.kIn n2
    rw [List.cons_append] at z
    exact z
  have ran := Fn.runs _ X.stack _ _ ⟨Value.ref (hp.objs.size + 1) :: us, []⟩ (Value.ref (hp.objs.size + 1) :: (us ++ [])) _ _ (fun _ _ _ => False) (under_quiet g) (r.make Cl us []) (J2.env0.make Cl us []) bb v2 q2
  have isC2 := J.kIn _ _ isC
  subst hG
  refine wpAny_call (PySem.HandSPX.call_own PySem.F.excBase_ValueError (fun Y => PySem.HandSPX.refsVE_contains Y bm isB) isC2 (PySem.W.looks_findIn J.kIn iC) (fun self => PySem.W.bind_fn J.kIn self tI) short (codeAny_mono ran fun a s2 z => ?_))
  match a, z with
  | .error er, z => exact none_out pins σ _ _ er s2 J2 z
  | .ok .next, z => exact z.elim
  | .ok .brk, z => exact z.elim
  | .ok .cont, z => exact z.elim
  | .ok (.ret u), z =>
    obtain ⟨y, H2, os2, bare2, un2, hok2, rv, ey, d, fs, ea, ed, nd, q3⟩ := z
    subst ey
    obtain ⟨h2, g2, d2, t2, os3⟩ := s2
    have six : ∀ (y : Addr) (oe : Obj) (ws : Array Value), Value.ref (hp.objs.size + 1) = .ref y → h2.get? y = some oe → oe.data = .fields ws → 4 < ws.size := fun y oe ws e1 e2 e3 => by
      cases e1
      obtain ⟨t0, e4⟩ := exo_at hok2 ea
      rw [e4] at e2
      cases e2
      cases e3
      show (4 : Nat) < 6
      decide
    exact ⟨rv, mk_end (raises_own T.exC T.tyC) J up keep un2 hok2 os2 bare2 ea ed nd q3, six⟩
end
end L2
set_option Elab.async false
set_option linter.all false
set_option maxRecDepth 100000
set_option maxHeartbeats 4000000
/-! raise X(..) from Y(..), where nothing is being handled. -/
namespace L2
open PySem PySem.Spec PyProof.Rows
end L2
set_option Elab.async false
set_option linter.all false
set_option maxRecDepth 100000
set_option maxHeartbeats 4000000
/-! raise X(..) from Y(..): the rule. -/
namespace L2
open PySem PySem.Spec PyProof.Rows
section
variable {X : Cx} {pins : List (Addr × Obj)} {σ : St} {H : Hp} {s : Shared}
/-- without an object that is not tracked, nor a frame's nor a cell -/
theorem Inv.less {a : Addr} {o : Obj} {G : Heap} (I : Inv X ((a, o) :: pins) σ H s) (new : X.s_0.heap.get? a = none) (c : ∀ v, o.data ≠ .cell v) (away : ∀ p ∈ X.pn ++ pins, p.1 ≠ a) (gk : ∀ b, b ≠ a → G.get? b = s.heap.get? b) : Inv X pins σ H { s with heap := G } := by
  obtain ⟨ea, na, la, fa, _⟩ := I.pin (a, o) (List.mem_append_right _ (List.mem_cons_self ..))
  have old : ∀ {b : Addr} {u : Obj}, X.s_0.heap.get? b = some u → b ≠ a := fun {b u} e z => by
    rw [z, new] at e
    cases e
  have look : ∀ {b : Addr} {v : Option Value}, s.heap.IsCell b v → G.IsCell b v := fun {b v} ⟨u, hu, hd⟩ => by
    refine ⟨u, ?_, hd⟩
    rw [gk b fun z => ?_]
    · exact hu
    · rw [z, ea] at hu
      cases hu
      exact c _ hd
  refine ⟨I.ok, I.os, I.bare, ?_, ?_, fun x b e => ?_, I.free, I.freeC, fun p hp => ?_, ?_, I.len⟩
  · refine { keep := fun b u e n h1 h2 => ?_, slot := fun b u e n h1 h2 => ?_, free := I.base.free, there := fun b u e h => ?_, tups := I.base.tups, frzs := I.base.frzs, tbls := I.base.tbls }
    · show G.get? b = _
      rw [gk b (old e)]
      exact I.base.keep b u e n h1 h2
    · show ∃ sl, G.get? b = _
      rw [gk b (old e)]
      exact I.base.slot b u e n h1 h2
    · show ∃ q, G.get? b = some q
      rw [gk b (old e)]
      exact I.base.there b u e h
  · obtain ⟨m, ⟨u, es, ep, e, d, r⟩, q⟩ := I.loc
    refine ⟨m, ⟨u, es, ep, ?_, d, r⟩, fun i x v h1 h2 h3 => ?_⟩
    · show G.get? _ = _
      rw [gk _ (Ne.symm la)]
      exact e
    · obtain ⟨w, rv, lk⟩ := q i x v h1 h2 h3
      refine ⟨w, rv, ?_⟩
      rcases lk with lk | ⟨k1, b, k2, k3⟩
      · exact .inl lk
      · exact .inr ⟨k1, b, k2, look k3⟩
  · obtain ⟨v, hv⟩ := I.cell x b e
    exact ⟨v, look hv⟩
  · obtain ⟨e, r⟩ := I.pin p (by
      rcases List.mem_append.mp hp with h | h
      · exact List.mem_append_left _ h
      · exact List.mem_append_right _ (List.mem_cons_of_mem _ h))
    refine ⟨?_, r⟩
    show G.get? _ = _
    rw [gk _ (away p hp)]
    exact e
  · intro b u e
    have nb : b ≠ a := fun z => by
      rw [z, na] at e
      cases e
    refine (I.hok b u e).stay (fun d v hd q => ?_) (fun d q => q) fun d xs q => q
    rw [gk d ?_]
    · exact q
    · rcases hd with z | z
      · rw [z]
        exact nb
      · exact fun y => by
          rw [y, na] at z
          cases z
end
end L2
set_option Elab.async false
set_option linter.all false
set_option maxRecDepth 100000
set_option maxHeartbeats 4000000
/-! Values with dicts among them, told by repr. -/
namespace L2
open PySem PySem.Spec PyProof.Rows
/-- a key as a datum -/
def keyD : Key → PyData
  | .inl i => .int i
  | .inr s => .str s
def zipD (ks : List Key) (ds : List PyData) : List (PyData × PyData) := (ks.map keyD).zip ds
mutual
inductive PyW (H : Hp) : V → PyData → Prop
  | non : PyW H .non .none
  | bl (b : Bool) : PyW H (.bl b) (.bool b)
  | int (i : Int) : PyW H (.int i) (.int i)
  | str (z : Str) : PyW H (.str z) (.str z)
  | tup {a : Addr} {xs : List V} {ds : List PyData} : H a = some (.tup xs) → PyWs H xs ds → PyW H (.ref a) (.tuple ds)
  | lst {a : Addr} {xs : List V} {ds : List PyData} : H a = some (.lst xs) → PyWs H xs ds → PyW H (.ref a) (.list ds)
  | dic {a : Addr} {kvs : List (Key × V)} {ds : List PyData} : H a = some (.dK kvs) → PyWs H (kvs.map (·.2)) ds → PyW H (.ref a) (.dict (zipD (kvs.map (·.1)) ds))
inductive PyWs (H : Hp) : List V → List PyData → Prop
  | nil : PyWs H [] []
  | cons {x : V} {d : PyData} {xs : List V} {ds : List PyData} : PyW H x d → PyWs H xs ds → PyWs H (x :: xs) (d :: ds)
end
mutual
theorem PyW.keep {H H2 : Hp} (s : ∀ b o, H b = some o → ((∃ xs, o = .tup xs) ∨ (∃ xs, o = .lst xs) ∨ ∃ xs, o = .dK xs) → H2 b = some o) : ∀ {x : V} {d : PyData}, PyW H x d → PyW H2 x d
  | _, _, .non => .non
  | _, _, .bl b => .bl b
  | _, _, .int i => .int i
  | _, _, .str z => .str z
  | _, _, .tup h r => .tup (s _ _ h (.inl ⟨_, rfl⟩)) (PyWs.keep s r)
  | _, _, .lst h r => .lst (s _ _ h (.inr (.inl ⟨_, rfl⟩))) (PyWs.keep s r)
  | _, _, .dic h r => .dic (s _ _ h (.inr (.inr ⟨_, rfl⟩))) (PyWs.keep s r)
theorem PyWs.keep {H H2 : Hp} (s : ∀ b o, H b = some o → ((∃ xs, o = .tup xs) ∨ (∃ xs, o = .lst xs) ∨ ∃ xs, o = .dK xs) → H2 b = some o) : ∀ {xs : List V} {ds : List PyData}, PyWs H xs ds → PyWs H2 xs ds
  | _, _, .nil => .nil
  | _, _, .cons h r => .cons (PyW.keep s h) (PyWs.keep s r)
end
theorem PyW.same {H H2 : Hp} (s : ∀ b o, H b = some o → H2 b = some o) {x : V} {d : PyData} (p : PyW H x d) : PyW H2 x d := p.keep fun b o e _ => s b o e
theorem PyWs.same {H H2 : Hp} (s : ∀ b o, H b = some o → H2 b = some o) {xs : List V} {ds : List PyData} (p : PyWs H xs ds) : PyWs H2 xs ds := p.keep fun b o e _ => s b o e
theorem PyW.but {H H2 : Hp} {a : Addr} {x : V} {d : PyData} {f : Heap → Prop} (p : PyW H x d) (s : ∀ b o, H b = some o → b ≠ a → H2 b = some o) (ha : H a = some (.ext f)) : PyW H2 x d :=
  p.keep fun b o e k => s b o e fun z => by
    rw [z, ha] at e
    cases e
    rcases k with ⟨xs, k⟩ | ⟨xs, k⟩ | ⟨xs, k⟩ <;> cases k
theorem PyWs.length {H : Hp} : ∀ {xs : List V} {ds : List PyData}, PyWs H xs ds → xs.length = ds.length
  | _, _, .nil => rfl
  | _, _, .cons _ r => by rw [List.length_cons, List.length_cons, PyWs.length r]
theorem PyWs.append {H : Hp} : ∀ {xs ys : List V} {ds es : List PyData}, PyWs H xs ds → PyWs H ys es → PyWs H (xs ++ ys) (ds ++ es)
  | _, _, _, _, .nil, q => q
  | _, _, _, _, .cons h r, q => .cons h (PyWs.append r q)
theorem zipD_fst : ∀ (ks : List Key) (ds : List PyData), ks.length = ds.length → (zipD ks ds).map (·.1) = ks.map keyD
  | [], _, _ => rfl
  | k :: ks, [], h => by cases h
  | k :: ks, d :: ds, h => by
    show keyD k :: (zipD ks ds).map (·.1) = keyD k :: ks.map keyD
    rw [zipD_fst ks ds (by simpa using h)]
theorem zipD_snd : ∀ (ks : List Key) (ds : List PyData), ks.length = ds.length → (zipD ks ds).map (·.2) = ds
  | [], [], _ => rfl
  | [], d :: ds, h => by cases h
  | k :: ks, [], h => by cases h
  | k :: ks, d :: ds, h => by
    show d :: (zipD ks ds).map (·.2) = d :: ds
    rw [zipD_snd ks ds (by simpa using h)]
/-- the keys of a dict read -/
theorem keys_read {P : Program} {w : World} {h : Heap} : ∀ {es : List DictEntry} {kvs : List (Key × V)} {vs : List (Key × Value)}, KV kvs vs → Pairs (mixKind P w) es vs →
    ReadsAll h (es.map (·.key)) ((kvs.map (·.1)).map keyD) [] ∧ Vals (kvs.map (·.2)) (es.map (·.val))
  | _, _, _, .nil, .nil => ⟨.nil, .nil⟩
  | e :: es, kv :: kvs, q :: vs, .cons r1 r2, .cons p1 p2 p3 => by
    obtain ⟨h1, h2⟩ := keys_read r2 p3
    obtain ⟨k, v⟩ := kv
    obtain ⟨k', v'⟩ := q
    obtain ⟨rk, rv⟩ := r1
    obtain rfl : k = k' := rk
    have rv' : RelV v v' := rv
    have e2 : e.val = v' := p2
    refine ⟨?_, ?_⟩
    · have one : Reads h e.key (keyD k) [] := by
        rcases keyIs_shape p1 with ⟨i, t, rfl, ek⟩ | ⟨x, t, rfl, ek⟩
        · rw [ek]
          exact .int i t
        · rw [ek]
          exact .str x t
      exact ReadsAll.cons one h1
    · show Vals (v :: kvs.map (·.2)) (e.val :: es.map (·.val))
      rw [e2]
      exact .cons rv' h2
mutual
theorem PyW.reads {P : Program} {w : World} {H : Hp} {h : Heap} (ok : HOk P w H h) (ns : H sysModules = none) : ∀ {x : V} {d : PyData} {u : Value}, PyW H x d → RelV x u → ∃ as, Reads h u d as ∧ sysModules ∉ as
  | _, _, u, .non, r => by
    obtain rfl : u = Value.none := r
    exact ⟨_, .none, List.not_mem_nil⟩
  | _, _, u, .bl b, r => by
    obtain rfl : u = Value.bool b := r
    exact ⟨_, .bool b, List.not_mem_nil⟩
  | _, _, u, .int i, r => by
    obtain ⟨t, rfl⟩ : ∃ t, u = Value.int i t := r
    exact ⟨_, .int i t, List.not_mem_nil⟩
  | _, _, u, .str z, r => by
    obtain ⟨t, rfl⟩ : ∃ t, u = Value.str z t := r
    exact ⟨_, .str z t, List.not_mem_nil⟩
  | _, _, u, .tup (a := a) h1 h2, r => by
    obtain rfl : u = Value.ref a := r
    obtain ⟨_, its, rel, o, e1, e2, n, e3⟩ := ok a _ h1
    obtain ⟨as, q, m⟩ := PyWs.reads ok ns h2 rel
    exact ⟨_, .tuple e1 e2 e3 q, m⟩
  | _, _, u, .lst (a := a) h1 h2, r => by
    obtain rfl : u = Value.ref a := r
    obtain ⟨_, its, n, rel, e1⟩ := ok a _ h1
    obtain ⟨as, q, m⟩ := PyWs.reads ok ns h2 rel
    exact ⟨_, .list e1 rfl rfl q, fun z => (List.mem_cons.mp z).elim (fun e => ne_of_none h1 ns e.symm) m⟩
  | _, _, u, .dic (a := a) (kvs := kvs) (ds := ds) h1 h2, r => by
    obtain rfl : u = Value.ref a := r
    obtain ⟨_, hs, vs, rel, o, es, ep, e1, ex, e2, _, pr, _⟩ := ok a _ h1
    obtain ⟨rk, rv⟩ := keys_read (h := h) rel pr
    obtain ⟨bs, q, m⟩ := PyWs.reads ok ns h2 rv
    have hl : (kvs.map (·.1)).length = ds.length := by
      have := PyWs.length h2
      rw [List.length_map] at this ⊢
      exact this
    refine ⟨_, .dict e1 ex.1 e2 (as := []) (bs := bs) (by rw [zipD_fst _ _ hl]; exact rk) (by rw [zipD_snd _ _ hl]; exact q), fun z => ?_⟩
    exact (List.mem_cons.mp (show sysModules ∈ a :: bs from z)).elim (fun e => ne_of_none h1 ns e.symm) m
theorem PyWs.reads {P : Program} {w : World} {H : Hp} {h : Heap} (ok : HOk P w H h) (ns : H sysModules = none) : ∀ {xs : List V} {ds : List PyData} {us : List Value}, PyWs H xs ds → Vals xs us → ∃ as, ReadsAll h us ds as ∧ sysModules ∉ as
  | _, _, _, .nil, r => by
    cases r
    exact ⟨_, .nil, List.not_mem_nil⟩
  | _, _, _, .cons h1 h2, r => by
    cases r with
    | cons r1 r2 =>
      obtain ⟨a1, q1, m1⟩ := PyW.reads ok ns h1 r1
      obtain ⟨a2, q2, m2⟩ := PyWs.reads ok ns h2 r2
      exact ⟨_, .cons q1 q2, fun z => (List.mem_append.mp z).elim m1 m2⟩
end
/-- sys.modules stands in the ground -/
def SysIn (base : Heap) : Prop := ∃ o, base.get? sysModules = some o
theorem SysIn.no {X : Cx} {pins : List (Addr × Obj)} {σ : St} {H : Hp} {s : Shared} (b : SysIn X.base) (I : Inv X pins σ H s) : H sysModules = none := by
  obtain ⟨o, e⟩ := b
  exact (I.bs _ _ e).2
/-- it is flat, or an object -/
theorem PyW.flat {H : Hp} {x : V} {d : PyData} (p : PyW H x d) : PyV H x d ∨ ∃ a, x = .ref a := by
  cases p with
  | non => exact .inl .non
  | bl b => exact .inl (.bl b)
  | int i => exact .inl (.int i)
  | str z => exact .inl (.str z)
  | tup h r => exact .inr ⟨_, rfl⟩
  | lst h r => exact .inr ⟨_, rfl⟩
  | dic h r => exact .inr ⟨_, rfl⟩
section
variable {X : Cx} {j : Nat}
theorem repr_anyW {pins : List (Addr × Obj)} {σ : St} {H : Hp} {s : Shared} {Q : VK} {x : V} {u : Value} {d : PyData} (sys : SysIn X.base) (quiet : X.A.guards = some []) (room : X.A.units + 64 < cLine) (I : Inv X pins σ H s) (r : RelV x u) (p : PyW H x d) (t : Tells d) (q : Q (.str d.shown) H) :
    wpAny (model X.prog X.w) X.A (pyReprObj u) (EP X pins σ Q) X.xe s := by
  rcases p.flat with f | ⟨a, rfl⟩
  · exact repr_any quiet room I r f t q
  · obtain rfl : u = Value.ref a := r
    obtain ⟨as, rd, no⟩ := p.reads I.hok (sys.no I) rfl
    have dp := t.dp
    exact pyReprObj_of_reads rd t.sh (fun _ => no) quiet (by omega) (fun _ _ e => e) (fun h2 k tk kp => ⟨.str d.shown, H, I.kept kp, ⟨k, rfl⟩, q⟩) t.size
/-- {x!r} of a datum -/
def tFmtW (te : TE) : TE := fun σ H Q => te σ H fun x H1 => ∃ d, PyW H1 x d ∧ Tells d ∧ Q (.str d.shown) H1
theorem pe_fmtW {e : Expr} {te : TE} {pos : Pos} (sys : SysIn X.base) (quiet : X.A.guards = some []) (room : Room j X.A) (he : PE X e te) : PE X (.FormattedValue e 114 none pos) (tFmtW te) := by
  refine ⟨fun pins s σ H Q I h => wpAny_FormattedValue_repr (thn (he.run pins s σ H _ I h) fun v s1 hv => ?_)⟩
  obtain ⟨x, H1, J, rel, d, p, t, q⟩ := hv
  refine thn (repr_anyW (Q := fun y H2 => y = .str d.shown ∧ H2 = H1) sys quiet room.units J rel p t ⟨rfl, rfl⟩) fun u s2 z => ?_
  obtain ⟨y, H2, J2, r2, ey, eH⟩ := z
  subst ey
  subst eH
  obtain ⟨k, rfl⟩ := r2
  exact wpAny_formatField_str ⟨.str d.shown, _, J2, ⟨_, rfl⟩, q⟩ ⟨.str d.shown, _, J2.tok _, ⟨_, rfl⟩, q⟩ t.size
end
end L2
set_option Elab.async false
set_option linter.all false
set_option maxRecDepth 100000
set_option maxHeartbeats 4000000
/-! The drawing of the law: the pen, a draw, a pick. -/
namespace V8
open PySem PySem.Spec PyProof.Rows L2
def topS (i : Nat) : Stmt := PySem.Challenge.pw_blindrepair_k20_merging_refused.main.body.getD i (.Pass ⟨0, 0, 0, 0⟩)
abbrev s_pen : Stmt := topS 82
theorem sc_pen : FnScope ["_law_script"] ["_law_script"] (defScope s_pen) := ⟨rfl, rfl, rfl, by decide +kernel, rfl, by decide +kernel, by decide +kernel⟩
abbrev s_draw : Stmt := topS 83
theorem sc_draw : FnScope ["_law_pen_here", "_law_many", "_law_digit", "_law_spot", "_law_cell", "_law_great", "_law_stirred"] ["_law_pen_here", "_law_many"] (defScope s_draw) := ⟨rfl, rfl, rfl, by decide +kernel, rfl, by decide +kernel, by decide +kernel⟩
abbrev s_pick : Stmt := topS 84
theorem sc_pick : FnScope ["_law_pen_here", "_law_some"] ["_law_pen_here", "_law_some"] (defScope s_pick) := ⟨rfl, rfl, rfl, by decide +kernel, rfl, by decide +kernel, by decide +kernel⟩
/-- all but the object at p stands as it stood -/
def Fr (p : Addr) (H H' : Hp) : Prop := ∀ b o, H b = some o → b ≠ p → H' b = some o
theorem Fr.refl {p : Addr} {H : Hp} : Fr p H H := fun _ _ h _ => h
theorem Fr.trans {p : Addr} {H H1 H2 : Hp} (a : Fr p H H1) (b : Fr p H1 H2) : Fr p H H2 := fun c o h n => b c o (a c o h n) n
theorem Fr.new {p q : Addr} {o : HO} {H : Hp} (h : H q = none) : Fr p H (upd H q o) := fun b u e _ => by
  rw [upd_ne (ne_of_none e h)]; exact e
theorem Fr.at {p : Addr} {o : HO} {H : Hp} : Fr p H (upd H p o) := fun b u e n => by
  rw [upd_ne n]; exact e
/-- the pen at p, the script's ints at l, n draws are let -/
structure PenAt (H : Hp) (p l : Addr) (ns : List Int) (n : Nat) : Prop where
  here : ∃ (spot great : Int), H p = some (.lst [.ref l, .int spot, .int great]) ∧ 0 ≤ spot ∧ spot + n ≤ 1000000 ∧ 0 ≤ great
  nums : H l = some (.lst (ns.map V.int))
  ne : l ≠ p
  short : ns.length ≤ 63
theorem PenAt.less {H : Hp} {p l : Addr} {ns : List Int} {n m : Nat} (P : PenAt H p l ns n) (h : m ≤ n) : PenAt H p l ns m := by
  obtain ⟨⟨s, g, h1, h2, h3, h4⟩, i, e, sh⟩ := P
  exact ⟨⟨s, g, h1, h2, by omega, h4⟩, i, e, sh⟩
theorem PenAt.some' {H : Hp} {p l : Addr} {ns : List Int} {n : Nat} (P : PenAt H p l ns n) : H p ≠ none := by
  obtain ⟨⟨s, g, h1, _⟩, _⟩ := P
  rw [h1]; exact fun z => nomatch z
theorem PenAt.new {H : Hp} {p l q : Addr} {o : HO} {ns : List Int} {n : Nat} (P : PenAt H p l ns n) (h : H q = none) : PenAt (upd H q o) p l ns n := by
  obtain ⟨⟨s, g, h1, h2, h3, h4⟩, i, e, sh⟩ := P
  exact ⟨⟨s, g, by rw [upd_ne (ne_of_none h1 h)]; exact h1, h2, h3, h4⟩, by rw [upd_ne (ne_of_none i h)]; exact i, e, sh⟩
/-- another object is written -/
theorem PenAt.other {H : Hp} {p l q : Addr} {o : HO} {ns : List Int} {n : Nat} (P : PenAt H p l ns n) (h : q ≠ p) (h' : q ≠ l) : PenAt (upd H q o) p l ns n := by
  obtain ⟨⟨s, g, h1, h2, h3, h4⟩, i, e, sh⟩ := P
  exact ⟨⟨s, g, by rw [upd_ne (Ne.symm h)]; exact h1, h2, h3, h4⟩, by rw [upd_ne (Ne.symm h')]; exact i, e, sh⟩
def spDraw : Sp := fun vs H Q _ => ∃ (p l : Addr) (ns : List Int) (n : Nat) (many : Int), vs = [.ref p, .int many] ∧ PenAt H p l ns (n + 1) ∧ 0 < many ∧ many < 1000 ∧
  ∀ (v : Int) (H' : Hp), 0 ≤ v → v < many → PenAt H' p l ns n → Fr p H H' → Q (.int v) H'
section
variable {P : Program} {w : World} {K : PySem.W.Frag} {mg : Str → Option Value} {base : Heap}
theorem ints_at {ns : List Int} {i : Int} (h0 : 0 ≤ i) (h : i < ns.length) : ∃ z : Int, atI (ns.map V.int) i = some (.int z) := by
  obtain ⟨j, rfl⟩ : ∃ j : Nat, i = j := ⟨i.toNat, by omega⟩
  have hj : j < ns.length := by omega
  exact ⟨ns[j], atI_nat (by rw [List.getElem?_map, List.getElem?_eq_getElem hj]; rfl)⟩
def dInts (ns : List Int) : List PyData := ns.map PyData.int
theorem dp_ints {H : Hp} : ∀ ns : List Int, DpAll K H (ns.map V.int) (dInts ns)
  | [] => .nil
  | n :: ns => .cons (.int n) (dp_ints ns)
theorem lay_ints : ∀ ns : List Int, PyData.canLayAll0 (dInts ns) = true
  | [] => by simp [dInts, PyData.canLayAll0]
  | n :: ns => by
    have h := lay_ints ns
    simp only [dInts, List.map_cons, PyData.canLayAll0, PyData.canLay0, Bool.true_and]
    exact h
theorem depth_ints : ∀ ns : List Int, PyData.depthAll (dInts ns) = 0
  | [] => by simp [dInts, PyData.depthAll]
  | n :: ns => by
    have h := depth_ints ns
    simp only [dInts, List.map_cons, PyData.depthAll, PyData.depth]
    unfold dInts at h
    omega
theorem shaped_ints (ns : List Int) : SeqAt.shaped (.list (dInts ns)) = true := by
  have h2 : PyData.depth (.list (dInts ns)) ≤ 64 := by
    simp only [PyData.depth, depth_ints]
    omega
  show (PyData.canLay0 (.list (dInts ns)) && decide (PyData.depth (.list (dInts ns)) ≤ 64)) = true
  rw [Bool.and_eq_true]
  exact ⟨by simp only [PyData.canLay0]; exact lay_ints ns, decide_eq_true h2⟩
structure Blt (mg : Str → Option Value) : Prop where
  list : mg "list" = none
  int : mg "int" = none
  len : mg "len" = none
  abs : mg "abs" = none
  range : mg "range" = none
  dict : mg "dict" = none
  str : mg "str" = none
  sorted : mg "sorted" = none
  tuple : mg "tuple" = none
theorem pw2 {st spot : Int} (s0 : 0 ≤ st) (s1 : st < 2147469637) (h0 : 0 ≤ spot) (h1 : spot ≤ 1000000) : (st * (2 * spot + 135) + 60157 * spot * spot + 119).natAbs < 2 ^ 64 := by
  have a1 : st * (2 * spot + 135) ≤ 2147483647 * 2000999 := Int.mul_le_mul (by omega) (by omega) (by omega) (by omega)
  have a0 : 0 ≤ st * (2 * spot + 135) := Int.mul_nonneg s0 (by omega)
  have c1 : 60157 * spot * spot ≤ 99999000000 * 1000000 := Int.mul_le_mul (by omega) h1 h0 (by omega)
  have c0 : 0 ≤ 60157 * spot * spot := Int.mul_nonneg (by omega) h0
  omega
theorem ok_draw {f : Addr} {fd : FuncData} {k : Nat} (F : Fun K "_law_draw" "_law_draw" s_draw f fd) (T : Blt mg) : FnOk P w K mg base CX0 (k + 1) f fd ["_law_pen_here", "_law_many"] spDraw := by
  refine F.ok sc_draw (fun vs H Q E h => ?_) (fun cdv A outer s H vs Q E hr h => ?_)
  · obtain ⟨p, l, ns, n, many, rfl, _⟩ := h
    rfl
  · obtain ⟨p, l, ns, n, many, rfl, PA, m0, m1, q⟩ := h
    obtain ⟨⟨spot, great, hp, hs0, hsn, hg⟩, hl, hne, hsh⟩ := id PA
    refine ⟨_, (pss_cons (ps_if (pt_cmpR op_gt (pe_ix (ix_listK (K := K) rfl) (pv 0) pe_int (fun _ _ => rfl)) pe_int (nomark _))
        (pss_cons (ps_set (i := 2) sc_draw.nd rfl (.inl rfl) (pe_op op_mod (pe_callTy call_int1 (by rfl) T.int (by decide +kernel) (pa_cons (pe_ix (ix_listK (K := K) rfl) (pv 0) pe_int (fun _ _ => rfl)) pa_nil)) (pv 1)))
        (pss_cons (ps_asg (pe_op op_fdiv (pe_callTy call_int1 (by rfl) T.int (by decide +kernel) (pa_cons (pe_ix (ix_listK (K := K) rfl) (pv 0) pe_int (fun _ _ => rfl)) pa_nil)) (pv 1)) (pg_sub (pv 0) pe_int set_list))
        (pss_one (ps_ret (pv 2)))))
        pss_nil)
      (pss_cons (ps_set (i := 3) sc_draw.nd rfl (.inl rfl) (pe_ix (ix_listK (K := K) rfl) (pv 0) pe_int (fun _ _ => rfl)))
      (pss_cons (ps_asg (pe_op op_add (pv 3) pe_int) (pg_sub (pv 0) pe_int set_list))
      (pss_cons (ps_set (i := 4) sc_draw.nd rfl (.inl rfl) (pe_op op_add (pe_op op_mul pe_int (pv 3)) pe_int))
      (pss_cons (ps_if (pt_cmpR (op_neDK (K := K) rfl hr.units) (pe_ix (ix_listK (K := K) rfl) (pv 0) pe_int (fun _ _ => rfl)) (pe_lst pa_nil) (nomark _))
        (pss_one (ps_set (i := 4) sc_draw.nd rfl (.inl rfl) (pe_ix (ix_listK (K := K) rfl) (pe_ix (ix_listK (K := K) rfl) (pv 0) pe_int (fun _ _ => rfl)) (pe_op op_mod (pe_callTy call_int1 (by rfl) T.int (by decide +kernel) (pa_cons (pv 3) pa_nil)) (pe_callB (call_len_seqK (K := K) rfl) (by rfl) T.len (by decide +kernel) (pa_cons (pe_ix (ix_listK (K := K) rfl) (pv 0) pe_int (fun _ _ => rfl)) pa_nil))) (fun _ _ => rfl))))
        pss_nil)
      (pss_cons (ps_if (PW.pt (pw_and (pt_cmpR op_lt (pv 3) (pe_callB (call_len_seqK (K := K) rfl) (by rfl) T.len (by decide +kernel) (pa_cons (pe_ix (ix_listK (K := K) rfl) (pv 0) pe_int (fun _ _ => rfl)) pa_nil)) (nomark _)) (pw_and1 (pt_cmpR op_ge (pe_callB call_abs (by rfl) T.abs (by decide +kernel) (pa_cons (pv 4) pa_nil)) (pe_op op_pow pe_int pe_int) (nomark _)))))
        (pss_cons (ps_set (i := 5) sc_draw.nd rfl (.inl rfl) (pe_op op_add (pe_op op_mul pe_int (pe_op op_sub (pe_callB call_abs (by rfl) T.abs (by decide +kernel) (pa_cons (pv 4) pa_nil)) (pe_op op_pow pe_int pe_int))) (pe_callTy call_int1 (by rfl) T.int (by decide +kernel) (pa_cons (pe_cmpR op_lt (pv 4) pe_int (nomark _)) pa_nil))))
        (pss_cons (ps_asg (pe_op op_fdiv (pe_callTy call_int1 (by rfl) T.int (by decide +kernel) (pa_cons (pv 5) pa_nil)) (pv 1)) (pg_sub (pv 0) pe_int set_list))
        (pss_one (ps_ret (pe_op op_mod (pe_callTy call_int1 (by rfl) T.int (by decide +kernel) (pa_cons (pv 5) pa_nil)) (pv 1))))))
        pss_nil)
      (pss_cons (ps_set (i := 6) sc_draw.nd rfl (.inl rfl) (pe_op op_mod (pe_callTy call_int1 (by rfl) T.int (by decide +kernel) (pa_cons (pe_op op_pow (pe_op op_add (pe_op op_add (pe_op op_mod (pe_callTy call_int1 (by rfl) T.int (by decide +kernel) (pa_cons (pv 4) pa_nil)) pe_int) (pe_op op_mul pe_int (pv 3))) pe_int) pe_int) pa_nil)) pe_int))
      (pss_cons (ps_set (i := 6) sc_draw.nd rfl (.inl rfl) (pe_op op_mod (pe_callTy call_int1 (by rfl) T.int (by decide +kernel) (pa_cons (pe_op op_pow (pe_op op_add (pe_op op_add (pe_op op_mul (pv 6) (pe_op op_add (pe_op op_mul pe_int (pv 3)) pe_int)) (pe_op op_mul (pe_op op_mul pe_int (pv 3)) (pv 3))) pe_int) pe_int) pa_nil)) pe_int))
      (pss_one (ps_ret (pe_op op_mod (pe_callTy call_int1 (by rfl) T.int (by decide +kernel) (pa_cons (pe_op op_fdiv (pv 6) pe_int) pa_nil)) (pv 1)))))))))))), ?_⟩
    -- pen[2] > 0
    refine ⟨_, rfl, p, _, 2, _, rfl, rfl, SqL.of hp, rfl, great, 0, rfl, rfl, _, rfl, ?_⟩
    refine ite2 (fun e => ?_) (fun e => ?_)
    · refine ⟨_, rfl, p, _, 2, _, rfl, rfl, SqL.of hp, rfl, .inl ⟨_, rfl, _, rfl, _, _, rfl, rfl, m0, ?_⟩⟩
      refine ⟨_, rfl, p, _, 2, _, rfl, rfl, SqL.of hp, rfl, .inl ⟨_, rfl, _, rfl, _, _, rfl, rfl, ⟨m0, by omega⟩, _, rfl, p, _, 2, 2, rfl, rfl, hp, rfl, ?_⟩⟩
      refine ⟨_, rfl, q _ _ (Int.emod_nonneg _ (by omega)) (Int.emod_lt_of_pos _ m0) ⟨⟨spot, great / many, upd_same, hs0, by omega, Int.ediv_nonneg hg (by omega)⟩, by rw [upd_ne hne]; exact hl, hne, hsh⟩ Fr.at⟩
    -- spot = pen[1]; pen[1] = spot + 1; cell = ..
    refine ⟨_, rfl, p, _, 1, _, rfl, rfl, SqL.of hp, rfl, ?_⟩
    refine ⟨_, rfl, _, _, rfl, rfl, _, rfl, p, _, 1, 1, rfl, rfl, hp, rfl, ?_⟩
    refine ⟨_, rfl, _, _, rfl, rfl, .inl ⟨by decide, by decide⟩, _, _, rfl, rfl, ?_⟩
    have hp1 : upd H p (.lst [.ref l, .int (spot + 1), .int great]) p = some (.lst [.ref l, .int (spot + 1), .int great]) := upd_same
    have hl1 : upd H p (.lst [.ref l, .int (spot + 1), .int great]) l = some (.lst (ns.map V.int)) := by rw [upd_ne hne]; exact hl
    dsimp only [List.set_cons_succ, List.set_cons_zero]
    -- pen[0] != []
    refine ⟨_, rfl, p, _, 0, _, rfl, rfl, SqL.of hp1, rfl, Nat.zero_le _, fun o no => ?_⟩
    have hpo : p ≠ o := ne_of_none hp1 no
    have hlo : l ≠ o := ne_of_none hl1 no
    have hp2 : upd (upd H p (.lst [.ref l, .int (spot + 1), .int great])) o (.lst []) p = some (.lst [.ref l, .int (spot + 1), .int great]) := by rw [upd_ne hpo]; exact hp1
    have hl2 : upd (upd H p (.lst [.ref l, .int (spot + 1), .int great])) o (.lst []) l = some (.lst (ns.map V.int)) := by rw [upd_ne hlo]; exact hl1
    have fr2 : Fr p H (upd (upd H p (.lst [.ref l, .int (spot + 1), .int great])) o (.lst [])) := Fr.at.trans (Fr.new no)
    refine ⟨_, _, .lst (SqL.of hl2) (dp_ints ns), .lst (SqL.of upd_same) .nil, shaped_ints ns, by decide, _, rfl, ?_⟩
    generalize upd (upd H p (.lst [.ref l, .int (spot + 1), .int great])) o (.lst []) = H2 at hp2 hl2 fr2 ⊢
    refine ite2 (fun e => ?g1) (fun e => ?g2)
    case' g1 =>
      have hns : 0 < ns.length := by
        cases ns with
        | nil => simp [dInts, PyData.eqv, PyData.eqvAll] at e
        | cons a r => simp
      have hpos : (0 : Int) < ((ns.map V.int).length : Int) := by rw [List.length_map]; omega
      obtain ⟨z, hz⟩ := ints_at (ns := ns) (i := spot % ((ns.map V.int).length : Int)) (Int.emod_nonneg _ (by omega)) (by
        have := Int.emod_lt_of_pos spot hpos
        rw [List.length_map] at this ⊢
        exact this)
      refine ⟨_, rfl, p, _, 0, _, rfl, rfl, SqL.of hp2, rfl, _, rfl, .inl ⟨_, rfl, _, rfl, p, _, 0, _, rfl, rfl, SqL.of hp2, rfl, l, _, rfl, .inl (SqL.of hl2), _, _, rfl, rfl, hpos, l, _, _, _, rfl, rfl, SqL.of hl2, hz, ?_⟩⟩
      generalize z = c
      refine ⟨_, rfl, _, rfl, p, _, 0, _, rfl, rfl, SqL.of hp2, rfl, l, _, rfl, .inl (SqL.of hl2), _, _, rfl, rfl, _, rfl, ?_⟩
      refine ite2 (fun e1 => ?a3) (fun e1 => ?a4)
      case' a3 =>
        refine ⟨_, rfl, _, rfl, _, _, rfl, rfl, ⟨by decide, by decide, by decide⟩, _, _, rfl, rfl, _, rfl, ?_⟩
        refine ite2 (fun e2 => ?a5) (fun e2 => ?a6)
        case' a5 =>
          have hge := of_decide_eq_true e2
          refine ⟨_, rfl, _, rfl, _, _, rfl, rfl, ⟨by decide, by decide, by decide⟩, _, _, rfl, rfl, _, _, rfl, rfl, .inl ⟨by decide, by decide⟩, _, rfl, _, _, rfl, rfl, .inr ⟨_, rfl, _, _, rfl, rfl, ?_⟩⟩
          have hG : 0 ≤ 2 * ((if c < 0 then -c else c) - 10 ^ (18 : Int).toNat) + (if decide (c < 0) = true then 1 else 0) := by
            have h1 : (10 : Int) ^ (18 : Int).toNat ≤ (if c < 0 then -c else c) := hge
            have h2 : (0 : Int) ≤ (if decide (c < 0) = true then 1 else 0) := by split <;> decide
            omega
          refine ⟨_, rfl, .inl ⟨_, rfl, _, rfl, _, _, rfl, rfl, ⟨m0, by omega⟩, _, rfl, p, _, 2, 2, rfl, rfl, hp2, rfl, ?_⟩⟩
          refine ⟨_, rfl, .inl ⟨_, rfl, _, rfl, _, _, rfl, rfl, m0, ?_⟩⟩
          exact q _ _ (Int.emod_nonneg _ (by omega)) (Int.emod_lt_of_pos _ m0) ⟨⟨spot + 1, _, upd_same, by omega, by omega, Int.ediv_nonneg hG (by omega)⟩, by rw [upd_ne hne]; exact hl2, hne, hsh⟩ (fr2.trans Fr.at)
      case' a4 => refine iteF ?_
    case' g2 =>
      generalize 80189 * spot + 773 = c
      refine ⟨_, rfl, _, rfl, p, _, 0, _, rfl, rfl, SqL.of hp2, rfl, l, _, rfl, .inl (SqL.of hl2), _, _, rfl, rfl, _, rfl, ?_⟩
      refine ite2 (fun e1 => ?b3) (fun e1 => ?b4)
      case' b3 =>
        refine ⟨_, rfl, _, rfl, _, _, rfl, rfl, ⟨by decide, by decide, by decide⟩, _, _, rfl, rfl, _, rfl, ?_⟩
        refine ite2 (fun e2 => ?b5) (fun e2 => ?b6)
        case' b5 =>
          have hge := of_decide_eq_true e2
          refine ⟨_, rfl, _, rfl, _, _, rfl, rfl, ⟨by decide, by decide, by decide⟩, _, _, rfl, rfl, _, _, rfl, rfl, .inl ⟨by decide, by decide⟩, _, rfl, _, _, rfl, rfl, .inr ⟨_, rfl, _, _, rfl, rfl, ?_⟩⟩
          have hG : 0 ≤ 2 * ((if c < 0 then -c else c) - 10 ^ (18 : Int).toNat) + (if decide (c < 0) = true then 1 else 0) := by
            have h1 : (10 : Int) ^ (18 : Int).toNat ≤ (if c < 0 then -c else c) := hge
            have h2 : (0 : Int) ≤ (if decide (c < 0) = true then 1 else 0) := by split <;> decide
            omega
          refine ⟨_, rfl, .inl ⟨_, rfl, _, rfl, _, _, rfl, rfl, ⟨m0, by omega⟩, _, rfl, p, _, 2, 2, rfl, rfl, hp2, rfl, ?_⟩⟩
          refine ⟨_, rfl, .inl ⟨_, rfl, _, rfl, _, _, rfl, rfl, m0, ?_⟩⟩
          exact q _ _ (Int.emod_nonneg _ (by omega)) (Int.emod_lt_of_pos _ m0) ⟨⟨spot + 1, _, upd_same, by omega, by omega, Int.ediv_nonneg hG (by omega)⟩, by rw [upd_ne hne]; exact hl2, hne, hsh⟩ (fr2.trans Fr.at)
      case' b4 => refine iteF ?_
    all_goals
      have b0 := Int.emod_nonneg c (show (2147479751 : Int) ≠ 0 by decide)
      have b1 := Int.emod_lt_of_pos c (show (0 : Int) < 2147479751 by decide)
      refine ⟨_, rfl, .inl ⟨_, rfl, _, _, rfl, rfl, (show (0 : Int) < 2147479751 by decide), _, rfl, _, _, rfl, rfl, .inl ⟨by decide, by decide⟩, _, _, rfl, rfl, _, _, rfl, rfl, _, _, rfl, rfl, ⟨by decide, by decide, by omega⟩, .inl ⟨_, rfl, _, _, rfl, rfl, (show (0 : Int) < 2147469637 by decide), ?_⟩⟩⟩
      have s0 : 0 ≤ ((c % 2147479751 + 71275 * spot + 379) ^ (5 : Int).toNat) % 2147469637 := Int.emod_nonneg _ (by decide)
      have s1 : ((c % 2147479751 + 71275 * spot + 379) ^ (5 : Int).toNat) % 2147469637 < 2147469637 := Int.emod_lt_of_pos _ (by decide)
      have hsp : spot ≤ 1000000 := by omega
      refine ⟨_, rfl, _, rfl, _, _, rfl, rfl, .inl ⟨by decide, by decide⟩, _, _, rfl, rfl, _, _, rfl, rfl, .inl ⟨by omega, by omega⟩, _, rfl, _, _, rfl, rfl, .inl ⟨by decide, by decide⟩, _, rfl, _, _, rfl, rfl, .inl ⟨by omega, by omega⟩, _, _, rfl, rfl, _, _, rfl, rfl, _, _, rfl, rfl, ⟨by decide, by decide, pw2 s0 s1 hs0 hsp⟩, .inl ⟨_, rfl, _, _, rfl, rfl, (show (0 : Int) < 2147459753 by decide), ?_⟩⟩
      refine ⟨_, rfl, _, _, rfl, rfl, ⟨by decide, by decide⟩, .inl ⟨_, rfl, _, rfl, _, _, rfl, rfl, m0, ?_⟩⟩
      exact q _ _ (Int.emod_nonneg _ (by omega)) (Int.emod_lt_of_pos _ m0) ⟨⟨spot + 1, great, hp2, by omega, by omega, hg⟩, hl2, hne, hsh⟩ fr2
end
end V8
set_option Elab.async false
set_option linter.all false
set_option maxRecDepth 100000
set_option maxHeartbeats 4000000
/-! What the law draws: a pick, letters, images, tables. -/
namespace V8
open PySem PySem.Spec PyProof.Rows L2
/-- the text of one sign; of several -/
def L1 (c : Nat) : Str := ⟨#[c]⟩
def Sx (cs : List Nat) : Str := ⟨cs.toArray⟩
theorem L1_Sx (c : Nat) : L1 c = Sx [c] := rfl
theorem L1_inj {a b : Nat} (h : L1 a = L1 b) : a = b := by
  have h1 : (#[a] : Array Nat) = #[b] := congrArg Str.cps h
  simpa using h1
theorem Sx_inj {a b : List Nat} (h : Sx a = Sx b) : a = b := by
  have h1 : a.toArray = b.toArray := congrArg Str.cps h
  simpa using h1
def isLt (c : Nat) : Prop := 97 ≤ c ∧ c ≤ 122
instance (c : Nat) : Decidable (isLt c) := inferInstanceAs (Decidable (97 ≤ c ∧ c ≤ 122))
def lets (cs : List Nat) : List V := cs.map fun c => V.str (L1 c)
theorem lets_len (cs : List Nat) : (lets cs).length = cs.length := List.length_map ..
theorem lets_erase (cs : List Nat) (k : Nat) : (lets cs).eraseIdx k = lets (cs.eraseIdx k) := by
  unfold lets
  rw [List.eraseIdx_eq_take_drop_succ, List.eraseIdx_eq_take_drop_succ, List.map_append, List.map_take, List.map_drop]
theorem lets_snoc (cs : List Nat) (c : Nat) : lets (cs ++ [c]) = lets cs ++ [V.str (L1 c)] := by
  unfold lets
  rw [List.map_append]
  rfl
/-- a thing that is new, as seen from the start, is written -/
theorem Fr.put {p a : Addr} {o : HO} {H H1 : Hp} (f : Fr p H H1) (hn : H a = none) : Fr p H (upd H1 a o) := fun b u e n => by
  rw [upd_ne (ne_of_none e hn)]
  exact f b u e n
theorem lets_mem {cs : List Nat} {v : V} (h : v ∈ lets cs) : ∃ c ∈ cs, v = .str (L1 c) := by
  obtain ⟨c, hc, e⟩ := List.mem_map.mp h
  exact ⟨c, hc, e.symm⟩
/-- a to z -/
def abc : List Nat := (List.range 26).map (· + 97)
theorem abc_len : abc.length = 26 := by decide
theorem abc_nd : abc.Nodup := by decide
theorem abc_mem {c : Nat} : c ∈ abc ↔ isLt c := by
  unfold abc isLt
  rw [List.mem_map]
  constructor
  · rintro ⟨a, ha, rfl⟩
    have := List.mem_range.mp ha
    omega
  · rintro ⟨h1, h2⟩
    exact ⟨c - 97, List.mem_range.mpr (by omega), by omega⟩
def abcS : Str := "abcdefghijklmnopqrstuvwxyz"
theorem abcS_cps : abcS.cps.toList = abc := by decide +kernel
abbrev s_some_letters : Stmt := topS 85
abbrev n_some_letters : List Str := ["_law_pen_here", "_law_many", "_law_pool", "_law_k"]
theorem sc_some_letters : FnScope ["_law_pen_here", "_law_many", "_law_pool", "_law_k"] ["_law_pen_here", "_law_many"] (defScope s_some_letters) := ⟨rfl, rfl, rfl, by decide +kernel, rfl, by decide +kernel, by decide +kernel⟩
def spPick (K : PySem.W.Frag) : Sp := fun vs H Q _ => ∃ (p l a : Addr) (ns : List Int) (n : Nat) (xs : List V), vs = [.ref p, .ref a] ∧ PenAt H p l ns (n + 1) ∧ SqL K H a xs ∧ 0 < xs.length ∧ xs.length < 1000 ∧
  (∀ H', Fr p H H' → SqL K H' a xs) ∧ ∀ (v : V) (H' : Hp), v ∈ xs → PenAt H' p l ns n → Fr p H H' → Q v H'
theorem SqL.fr {K : PySem.W.Frag} {H H' : Hp} {p a : Addr} {xs : List V} (h : SqL K H a xs) (f : Fr p H H') (ne : a ≠ p) : SqL K H' a xs :=
  h.elim (fun h => .inl (h.elim (fun h => .inl (f _ _ h ne)) fun ⟨o, h⟩ => .inr ⟨o, f _ _ h ne⟩)) fun h => .inr h
def spLetters : Sp := fun vs H Q _ => ∃ (p l : Addr) (ns : List Int) (n : Nat) (many : Nat), vs = [.ref p, .int many] ∧ PenAt H p l ns (n + many) ∧ many ≤ 26 ∧
  ∀ (D : Addr) (cs : List Nat) (H' : Hp), cs.length = many → cs.Nodup → (∀ c ∈ cs, isLt c) → PenAt H' p l ns n → Fr p H H' → H D = none → H' D = some (.lst (lets cs)) → Q (.ref D) H'
section
variable {P : Program} {w : World} {K : PySem.W.Frag} {mg : Str → Option Value} {base : Heap}
theorem ok_pick {f : Addr} {fd : FuncData} (F : Fun K "_law_pick" "_law_pick" s_pick f fd) (T : Blt mg) (D_draw : Df P w K mg base 1 "_law_draw" spDraw) : FnOk P w K mg base CX0 2 f fd ["_law_pen_here", "_law_some"] (spPick K) := by
  refine F.ok sc_pick (fun vs H Q E h => ?_) (fun cdv A outer s H vs Q E hr h => ?_)
  · obtain ⟨p, l, a, ns, n, xs, rfl, _⟩ := h
    rfl
  · obtain ⟨p, l, a, ns, n, xs, rfl, PA, hS, h0, h1, st, q⟩ := h
    refine ⟨_, (pss_one (ps_ret (pe_ix (ix_listK (K := K) rfl) (pv 1) (pe_c D_draw hr (by decide) (by rfl) (pa_cons (pv 0) (pa_cons (pe_callB (call_len_seqK (K := K) rfl) (by rfl) T.len (by decide +kernel) (pa_cons (pv 1) pa_nil)) pa_nil))) (fun _ _ => rfl)))), ?_⟩
    refine ⟨.ref a, rfl, .ref p, rfl, .ref a, rfl, a, xs, rfl, .inl hS, p, l, ns, n, _, rfl, PA, by omega, by omega, fun v H' v0 v1 PA' fr => ?_⟩
    obtain ⟨j, rfl⟩ : ∃ j : Nat, v = j := ⟨v.toNat, by omega⟩
    have hj : j < xs.length := by omega
    exact ⟨a, xs, j, xs[j], rfl, rfl, st H' fr, atI_nat (List.getElem?_eq_getElem hj), q _ _ (List.getElem_mem hj) PA' fr⟩
theorem perm_erase {got rest : List Nat} {k : Nat} {y : Nat} (hp : (got ++ rest).Perm abc) (hy : rest[k]? = some y) : ((got ++ [y]) ++ rest.eraseIdx k).Perm abc := by
  refine List.Perm.trans ?_ hp
  rw [List.append_assoc]
  refine List.Perm.append_left got ?_
  show (y :: rest.eraseIdx k).Perm rest
  obtain ⟨hk, e⟩ := List.getElem?_eq_some_iff.mp hy
  rw [List.eraseIdx_eq_take_drop_succ]
  have h2 : rest = rest.take k ++ (y :: rest.drop (k + 1)) := by
    rw [← e, ← List.drop_eq_getElem_cons hk, List.take_append_drop]
  exact (List.perm_middle.symm).trans (List.Perm.of_eq h2.symm)
theorem ok_some_letters {f : Addr} {fd : FuncData} (F : Fun K "_law_some_letters" "_law_some_letters" s_some_letters f fd) (T : Blt mg) (D_draw : Df P w K mg base 1 "_law_draw" spDraw) : FnOk P w K mg base CX0 2 f fd ["_law_pen_here", "_law_many"] spLetters := by
  refine F.ok sc_some_letters (fun vs H Q E h => ?_) (fun cdv A outer s H vs Q E hr h => ?_)
  · obtain ⟨p, l, ns, n, many, rfl, _⟩ := h
    rfl
  · obtain ⟨p, l, ns, n, many, rfl, PA, hm, q⟩ := h
    refine ⟨_, (pss_cons (ps_set (i := 2) sc_some_letters.nd rfl (.inr rfl) (pe_callTy (call_listS rfl) (by rfl) T.list (by decide +kernel) (pa_cons pe_str pa_nil)))
      (pss_one (ps_ret (pe_lc (own := [("_law_k", 3)]) (g := gName 3) (by rfl) sc_some_letters.nd (pi_range1 (by rfl) T.range (pa_cons (pv 1) pa_nil)) (blkOk_by (own := [("_law_k", 3)]) (N := n_some_letters) (sc := defScope s_some_letters) (by decide +kernel)) (fun _ _ _ _ _ => (pg_name (i := 3) sc_some_letters.nd rfl (.inl rfl))) (fun _ _ _ _ _ => pts_nil) (fun _ _ _ _ _ => (pe_bmK (K := K) rfl PySem.F.plainAttrs_list PySem.F.slot_list_pop PySem.F.type_list_pop mt_popAt (pv 2) (pa_cons (pe_c D_draw hr (by decide) (by rfl) (pa_cons (pv 0) (pa_cons (pe_callB (call_len_seqK (K := K) rfl) (by rfl) T.len (by decide +kernel) (pa_cons (pv 2) pa_nil)) pa_nil))) pa_nil))))))), ?_⟩
    refine ⟨_, rfl, by decide, fun a na => ?_⟩
    have ePool : (List.map (fun c => V.str ⟨#[c]⟩) (Str.ofString "abcdefghijklmnopqrstuvwxyz").cps.toList) = lets abc := by
      show List.map (fun c => V.str (L1 c)) abcS.cps.toList = lets abc
      rw [abcS_cps]
      rfl
    rw [ePool]
    have PA1 := PA.new (o := .lst (lets abc)) na
    have hap : p ≠ a := by
      obtain ⟨⟨sp, g, h1, _⟩, _⟩ := PA
      exact ne_of_none h1 na
    have hla : l ≠ a := ne_of_none PA.nums na
    refine ⟨_, rfl, many, rfl, by omega, by omega, fun D nD => lc_range (lo := 0) (n := many) (fun i H2 => ∃ got rest : List Nat, (got ++ rest).Perm abc ∧ got.length = i ∧ H2 D = some (.lst (lets got)) ∧ H2 a = some (.lst (lets rest)) ∧ PenAt H2 p l ns (n + (many - i)) ∧ Fr p H H2) ?_ ?_ ?_⟩
    · have hDa : a ≠ D := ne_of_none upd_same nD
      refine ⟨[], abc, List.Perm.refl _, rfl, upd_same, by rw [upd_ne hDa, upd_same], (PA1.new nD).less (by omega), (Fr.new na).trans (Fr.new nD)⟩
    · rintro i H2 hi ⟨got, rest, pm, hg, hD, ha, PA2, fr⟩
      have hlen : got.length + rest.length = 26 := by
        have := pm.length_eq
        rw [List.length_append, abc_len] at this
        exact this
      have hDa : D ≠ a := by
        intro e
        subst e
        rw [upd_same] at nD
        cases nD
      have nDH : H D = none := by
        cases e : H D with
        | none => rfl
        | some o =>
          rw [upd_ne (ne_of_none e na), e] at nD
          cases nD
      have hDp : D ≠ p := by
        intro e
        subst e
        obtain ⟨⟨sp, g, h1, _⟩, _⟩ := PA1
        rw [h1] at nD
        cases nD
      have hDl : D ≠ l := by
        intro e
        subst e
        rw [PA1.nums] at nD
        cases nD
      have hr0 : 0 < (lets rest).length := by rw [lets_len]; omega
      refine ⟨rfl, ⟨_, rfl, .inl ⟨rfl, _, SqL.of ha⟩, _, rfl, _, rfl, a, _, rfl, .inl (SqL.of ha), p, l, ns, n + (many - (i + 1)), _, rfl, PA2.less (by omega), by omega, by rw [lets_len]; omega, fun v H3 v0 v1 PA3 fr3 => ?_⟩⟩
      obtain ⟨j, rfl⟩ : ∃ j : Nat, v = j := ⟨v.toNat, by omega⟩
      have hj : j < rest.length := by rw [lets_len] at v1; omega
      have hx : (lets rest)[j]? = some (.str (L1 rest[j])) := by
        unfold lets
        rw [List.getElem?_map, List.getElem?_eq_getElem hj]
        rfl
      have ha3 : H3 a = some (.lst (lets rest)) := fr3 _ _ ha (Ne.symm hap)
      have hD3 : H3 D = some (.lst (lets got)) := fr3 _ _ hD hDp
      have hk : seqIndex? (j : Int) (lets rest).length = some j := by
        unfold seqIndex?
        rw [lets_len]
        simp
        omega
      refine ⟨a, _, _, j, _, rfl, rfl, ha3, by omega, by omega, hk, hx, lets got, by rw [upd_ne hDa]; exact hD3, by rw [lets_len]; exact small1000 (by omega), got ++ [rest[j]], rest.eraseIdx j, perm_erase pm (List.getElem?_eq_getElem hj), by simp [hg], ?_, ?_, ?_, ?_⟩
      · rw [upd_same]
        unfold lets
        rw [List.map_append]
        rfl
      · rw [upd_ne (Ne.symm hDa), upd_same]
        rw [lets_erase]
      · exact (PA3.other (Ne.symm hap) (Ne.symm hla)).other hDp hDl
      · exact ((fr.trans fr3).put na).put nDH
    · rintro H2 ⟨got, rest, pm, hg, hD, ha, PA2, fr⟩
      have hnd : (got ++ rest).Nodup := pm.nodup_iff.mpr abc_nd
      have nD' : H D = none := by
        cases e : H D with
        | none => rfl
        | some o =>
          rw [upd_ne (ne_of_none e na), e] at nD
          cases nD
      refine q D got H2 hg (List.nodup_append.mp hnd).1 (fun c hc => abc_mem.mp (pm.mem_iff.mp (List.mem_append_left _ hc))) (PA2.less (by omega)) fr nD' hD
end
end V8
set_option Elab.async false
set_option linter.all false
set_option maxRecDepth 100000
set_option maxHeartbeats 4000000
/-! Tables of letters and images, as the law draws them. -/
namespace V8
open PySem PySem.Spec PyProof.Rows L2
abbrev Tab := List (Nat × List Nat)
def encT (t : Tab) : List (Key × V) := t.map fun q => (Sum.inr (L1 q.1), V.str (Sx q.2))
def lookT (t : Tab) (c : Nat) : Option (List Nat) := (t.find? fun q => decide (q.1 = c)).map (·.2)
def putT (t : Tab) (c : Nat) (s : List Nat) : Tab := if (t.any fun q => decide (q.1 = c)) = true then t.map (fun q => if q.1 = c then (q.1, s) else q) else t ++ [(c, s)]
theorem encT_len (t : Tab) : (encT t).length = t.length := List.length_map ..
theorem key_dec (a c : Nat) : decide ((Sum.inr (L1 a) : Key) = Sum.inr (L1 c)) = decide (a = c) := by
  by_cases h : a = c
  · subst h
    simp
  · rw [decide_eq_false h, decide_eq_false]
    intro e
    exact h (L1_inj (Sum.inr.inj e))
theorem key_iff (a c : Nat) : ((Sum.inr (L1 a) : Key) = Sum.inr (L1 c)) ↔ a = c := by
  have := key_dec a c
  constructor
  · intro e
    exact L1_inj (Sum.inr.inj e)
  · intro e
    rw [e]
theorem valV_enc (c : Nat) : ∀ t : Tab, valV (encT t) (Sum.inr (L1 c)) = (lookT t c).map fun s => V.str (Sx s)
  | [] => rfl
  | q :: t => by
    have ih := valV_enc c t
    by_cases h : q.1 = c
    · subst h
      show valV ((Sum.inr (L1 q.1), V.str (Sx q.2)) :: encT t) _ = _
      rw [valV_pos rfl]
      simp [lookT]
    · show valV ((Sum.inr (L1 q.1), V.str (Sx q.2)) :: encT t) _ = _
      rw [valV_neg (fun e => h ((key_iff _ _).mp e)), ih]
      simp [lookT, List.find?_cons, h]
theorem any_enc (c : Nat) : ∀ t : Tab, ((encT t).any fun kv => decide (kv.1 = (Sum.inr (L1 c) : Key))) = t.any fun q => decide (q.1 = c)
  | [] => rfl
  | q :: t => by
    show (decide ((Sum.inr (L1 q.1) : Key) = Sum.inr (L1 c)) || (encT t).any _) = _
    rw [any_enc c t, key_dec]
    rfl
theorem putK_enc (t : Tab) (c : Nat) (s : List Nat) : putK (encT t) (Sum.inr (L1 c)) (V.str (Sx s)) = encT (putT t c s) := by
  unfold putK putT
  rw [any_enc]
  split
  · unfold encT
    rw [List.map_map, List.map_map]
    refine List.map_congr_left fun q _ => ?_
    show (if (Sum.inr (L1 q.1) : Key) = Sum.inr (L1 c) then _ else _) = _
    by_cases h : q.1 = c
    · rw [if_pos ((key_iff _ _).mpr h)]
      simp [h]
    · rw [if_neg (fun e => h ((key_iff _ _).mp e))]
      simp [h]
  · unfold encT
    rw [List.map_append]
    rfl
theorem keys_put {t : Tab} {c : Nat} {s : List Nat} : ∀ x ∈ putT t c s, (x ∈ t ∨ x = (c, s)) := by
  intro x hx
  unfold putT at hx
  split at hx
  · obtain ⟨q, hq, e⟩ := List.mem_map.mp hx
    by_cases h : q.1 = c
    · rw [if_pos h] at e
      rw [← e, h]
      exact .inr rfl
    · rw [if_neg h] at e
      rw [← e]
      exact .inl hq
  · rcases List.mem_append.mp hx with h | h
    · exact .inl h
    · exact .inr (List.mem_singleton.mp h)
theorem put_nd {t : Tab} {c : Nat} {s : List Nat} (h : (t.map (·.1)).Nodup) : ((putT t c s).map (·.1)).Nodup := by
  unfold putT
  split
  · rw [List.map_map]
    have e : t.map ((·.1) ∘ fun q : Nat × List Nat => if q.1 = c then (q.1, s) else q) = t.map (·.1) := List.map_congr_left fun q _ => by
      show (if q.1 = c then (q.1, s) else q).1 = q.1
      split <;> rfl
    rw [e]
    exact h
  · rename_i hn
    rw [List.map_append]
    refine List.nodup_append.mpr ⟨h, by simp, fun x hx y hy e => ?_⟩
    have ey : y = c := by simpa using hy
    obtain ⟨q, hq, eq⟩ := List.mem_map.mp hx
    refine hn (List.any_eq_true.mpr ⟨q, hq, decide_eq_true ?_⟩)
    rw [eq, e, ey]
theorem put_len (t : Tab) (c : Nat) (s : List Nat) : (putT t c s).length ≤ t.length + 1 := by
  unfold putT
  split
  · rw [List.length_map]
    omega
  · rw [List.length_append]
    exact Nat.le_refl _
/-- an image that may be told -/
def GoodI (cs s : List Nat) : Prop := 1 ≤ s.length ∧ s.length ≤ 4 ∧ ∀ d ∈ s, d ∈ cs
structure GoodT (cs : List Nat) (t : Tab) : Prop where
  nd : (t.map (·.1)).Nodup
  key : ∀ q ∈ t, q.1 ∈ cs
  img : ∀ q ∈ t, GoodI cs q.2
theorem GoodT.nil {cs : List Nat} : GoodT cs [] := by
  refine ⟨List.nodup_nil, fun q h => ?_, fun q h => ?_⟩
  · cases h
  · cases h
theorem GoodT.put {cs : List Nat} {t : Tab} {c : Nat} {s : List Nat} (g : GoodT cs t) (hc : c ∈ cs) (hs : GoodI cs s) : GoodT cs (putT t c s) := by
  refine ⟨put_nd g.nd, fun q hq => ?_, fun q hq => ?_⟩
  · rcases keys_put q hq with h | rfl
    · exact g.key q h
    · exact hc
  · rcases keys_put q hq with h | rfl
    · exact g.img q h
    · exact hs
/-- joined signs -/
theorem join_L1 : ∀ cs : List Nat, Txt.join Str.empty (cs.map L1) = Sx cs := by
  intro cs
  rw [TL.join_eq]
  have h : TL.tl (Str.join Str.empty (cs.map L1)) = cs := by
    rw [TL.tl_join]
    have : ∀ l : List Nat, TL.joinL (TL.tl Str.empty) ((l.map L1).map TL.tl) = l := by
      intro l
      induction l with
      | nil => rfl
      | cons c r ih =>
        cases r with
        | nil => rfl
        | cons d r =>
          show TL.tl (L1 c) ++ (TL.tl Str.empty ++ TL.joinL (TL.tl Str.empty) ((((d :: r).map L1).map TL.tl))) = _
          rw [ih]
          rfl
    exact this cs
  have e2 : (Str.join Str.empty (cs.map L1)).cps.toList = cs := h
  show Str.join Str.empty (cs.map L1) = Sx cs
  unfold Sx
  cases hx : Str.join Str.empty (cs.map L1) with
  | mk a =>
    rw [hx] at e2
    have : a.toList = cs := e2
    rw [← this]
theorem sum_ones : ∀ l : List Nat, (l.map fun _ => 1).sum = l.length
  | [] => rfl
  | a :: r => by
    rw [List.map_cons, List.sum_cons, sum_ones r, List.length_cons]
    omega
theorem Sx_len (cs : List Nat) : (Sx cs).length = cs.length := by
  show cs.toArray.size = cs.length
  simp
abbrev s_any_image : Stmt := topS 87
abbrev n_any_image : List Str := ["_law_pen_here", "_law_some", "_law_many", "_law_k"]
theorem sc_any_image : FnScope ["_law_pen_here", "_law_some", "_law_many", "_law_k"] ["_law_pen_here", "_law_some"] (defScope s_any_image) := ⟨rfl, rfl, rfl, by decide +kernel, rfl, by decide +kernel, by decide +kernel⟩
abbrev s_escaped : Stmt := topS 86
theorem sc_escaped : FnScope ["_law_pen_here", "_law_some", "_law_tails", "_law_found", "_law_letter", "_law_stays"] ["_law_pen_here", "_law_some"] (defScope s_escaped) := ⟨rfl, rfl, rfl, by decide +kernel, rfl, by decide +kernel, by decide +kernel⟩
abbrev s_table : Stmt := topS 88
abbrev n_table : List Str := ["_law_pen_here", "_law_some", "_law_way", "_law_left_here", "_law_found", "_law_letter"]
theorem sc_table : FnScope ["_law_pen_here", "_law_some", "_law_way", "_law_left_here", "_law_found", "_law_letter"] ["_law_pen_here", "_law_some"] (defScope s_table) := ⟨rfl, rfl, rfl, by decide +kernel, rfl, by decide +kernel, by decide +kernel⟩
def spImage : Sp := fun vs H Q _ => ∃ (p l a : Addr) (ns : List Int) (n : Nat) (cs : List Nat), vs = [.ref p, .ref a] ∧ PenAt H p l ns (n + 5) ∧ H a = some (.lst (lets cs)) ∧ a ≠ p ∧ cs ≠ [] ∧ cs.length ≤ 26 ∧ (∀ c ∈ cs, isLt c) ∧
  ∀ (s : List Nat) (H' : Hp), GoodI cs s → PenAt H' p l ns n → Fr p H H' → Q (.str (Sx s)) H'
def spTab (cost : Nat) : Sp := fun vs H Q _ => ∃ (p l a : Addr) (ns : List Int) (n : Nat) (cs : List Nat), vs = [.ref p, .ref a] ∧ PenAt H p l ns (n + cost) ∧ H a = some (.lst (lets cs)) ∧ a ≠ p ∧ cs ≠ [] ∧ cs.Nodup ∧ cs.length ≤ 26 ∧ (∀ c ∈ cs, isLt c) ∧
  ∀ (d : Addr) (t : Tab) (H' : Hp), GoodT cs t → PenAt H' p l ns n → Fr p H H' → H d = none → H' d = some (.dK (encT t)) → Q (.ref d) H'
theorem Fr.back {p q : Addr} {H H1 : Hp} (f : Fr p H H1) (hn : H1 q = none) (hp : q ≠ p) : H q = none := by
  cases e : H q with
  | none => rfl
  | some o =>
    rw [f _ _ e hp] at hn
    cases hn
theorem PenAt.nep {H : Hp} {p l q : Addr} {ns : List Int} {n : Nat} (P : PenAt H p l ns n) (h : H q = none) : q ≠ p := by
  intro e
  subst e
  exact P.some' h
theorem PenAt.nel {H : Hp} {p l q : Addr} {ns : List Int} {n : Nat} (P : PenAt H p l ns n) (h : H q = none) : q ≠ l := by
  intro e
  subst e
  rw [P.nums] at h
  cases h
section
variable {P : Program} {w : World} {K : PySem.W.Frag} {mg : Str → Option Value} {base : Heap}
theorem ok_any_image {f : Addr} {fd : FuncData} (F : Fun K "_law_any_image" "_law_any_image" s_any_image f fd) (T : Blt mg) (D_pick : Df P w K mg base 2 "_law_pick" (spPick K)) : FnOk P w K mg base CX0 3 f fd ["_law_pen_here", "_law_some"] spImage := by
  refine F.ok sc_any_image (fun vs H Q E h => ?_) (fun cdv A outer s H vs Q E hr h => ?_)
  · obtain ⟨p, l, a, ns, n, cs, rfl, _⟩ := h
    rfl
  · obtain ⟨p, l, a, ns, n, cs, rfl, PA, ha, hap, hne, h26, hlt, q⟩ := h
    refine ⟨_, (pss_cons (ps_set (i := 2) sc_any_image.nd rfl (.inl rfl) (pe_c D_pick hr (by decide) (by rfl) (pa_cons (pv 0) (pa_cons (pe_lst (pa_cons pe_int (pa_cons pe_int (pa_cons pe_int (pa_cons pe_int (pa_cons pe_int (pa_cons pe_int pa_nil))))))) pa_nil))))
      (pss_one (ps_ret (pe_joinK (K := K) rfl pe_str (pe_lc (own := [("_law_k", 3)]) (g := gName 3) (by rfl) sc_any_image.nd (pi_range1 (by rfl) T.range (pa_cons (pv 2) pa_nil)) (blkOk_by (own := [("_law_k", 3)]) (N := n_any_image) (sc := defScope s_any_image) (by decide +kernel)) (fun _ _ _ _ _ => (pg_name (i := 3) sc_any_image.nd rfl (.inl rfl))) (fun _ _ _ _ _ => pts_nil) (fun _ _ _ _ _ => (pe_c D_pick hr (by decide) (by rfl) (pa_cons (pv 0) (pa_cons (pv 1) pa_nil))))))))), ?_⟩
    have hcs : 0 < cs.length := List.length_pos_iff.mpr hne
    -- pick(pen, [1, 1, 2, 2, 3, 4])
    refine ⟨.ref p, rfl, by decide, fun b nb => ?_⟩
    have hbp := PA.nep nb
    refine ⟨p, l, b, ns, n + 4, [.int 1, .int 1, .int 2, .int 2, .int 3, .int 4], rfl, PA.new nb, SqL.of upd_same, by decide, by decide, fun H' fr => SqL.of (fr _ _ upd_same hbp), fun v H1 hv PA1 fr1 => ?_⟩
    obtain ⟨k, rfl, k1, k4⟩ : ∃ k : Nat, v = .int k ∧ 1 ≤ k ∧ k ≤ 4 := by
      simp at hv
      rcases hv with rfl | rfl | rfl | rfl
      · exact ⟨1, rfl, by omega, by omega⟩
      · exact ⟨2, rfl, by omega, by omega⟩
      · exact ⟨3, rfl, by omega, by omega⟩
      · exact ⟨4, rfl, by omega, by omega⟩
    have fr01 : Fr p H H1 := (Fr.new nb).trans fr1
    -- ''.join([..])
    refine ⟨⟨_, rfl⟩, _, rfl, k, rfl, by omega, by omega, fun D nD => lc_range (lo := 0) (n := k) (fun i H2 => ∃ got : List Nat, got.length = i ∧ (∀ d ∈ got, d ∈ cs) ∧ H2 D = some (.lst (lets got)) ∧ PenAt H2 p l ns (n + (4 - i)) ∧ Fr p H H2) ?_ ?_ ?_⟩
    · exact ⟨[], rfl, fun d h => (by cases h), upd_same, (PA1.new nD).less (by omega), fr01.trans (Fr.new nD)⟩
    · rintro i H2 hi ⟨got, hg, hin, hD, PA2, fr2⟩
      have hDp := PA1.nep nD
      have ha2 := fr2 _ _ ha hap
      refine ⟨rfl, ⟨_, rfl, _, rfl, p, l, a, ns, n + (4 - (i + 1)), lets cs, rfl, PA2.less (by omega), SqL.of ha2, by rw [lets_len]; omega, by rw [lets_len]; omega, fun H' fr => SqL.of (fr _ _ ha2 hap), fun v H3 hv PA3 fr3 => ?_⟩⟩
      obtain ⟨c, hc, rfl⟩ := lets_mem hv
      have hD3 := fr3 _ _ hD hDp
      refine ⟨lets got, hD3, by rw [lets_len]; exact small1000 (by omega), got ++ [c], by simp [hg], ?_, by rw [upd_same, lets_snoc], PA3.other hDp (PA1.nel nD), (fr2.trans fr3).put (fr01.back nD hDp)⟩
      intro d hd
      rcases List.mem_append.mp hd with h | h
      · exact hin d h
      · rw [List.mem_singleton.mp h]
        exact hc
    · rintro H2 ⟨got, hg, hin, hD, PA2, fr2⟩
      refine ⟨Str.empty, D, got.map L1, rfl, rfl, .inl (by rw [List.map_map]; exact SqL.of hD), ?_, ?_⟩
      · have e : (got.map L1).map (·.length) = got.map fun _ => 1 := by
          rw [List.map_map]
          rfl
        rw [e, List.length_map]
        rw [sum_ones]
        show got.length + got.length * 0 ≤ _
        omega
      · rw [join_L1]
        exact q got H2 ⟨by omega, by omega, hin⟩ (PA2.less (by omega)) fr2
end
end V8
set_option Elab.async false
set_option linter.all false
set_option maxRecDepth 100000
set_option maxHeartbeats 4000000
namespace V8
open PySem PySem.Spec PyProof.Rows L2
theorem app_Sx (a : Nat) (s : List Nat) : L1 a ++ Sx s = Sx (a :: s) := by
  show Str.append _ _ = _
  unfold Sx L1
  show (⟨#[a] ++ s.toArray⟩ : Str) = ⟨(a :: s).toArray⟩
  congr 1
  simp
section
variable {P : Program} {w : World} {K : PySem.W.Frag} {mg : Str → Option Value} {base : Heap}
theorem lets_get {cs : List Nat} {i : Nat} {x : V} (h : (lets cs)[i]? = some x) : ∃ hi : i < cs.length, x = .str (L1 cs[i]) := by
  unfold lets at h
  rw [List.getElem?_map] at h
  cases e : cs[i]? with
  | none =>
    rw [e] at h
    cases h
  | some c =>
    obtain ⟨hi, ec⟩ := List.getElem?_eq_some_iff.mp e
    rw [e] at h
    exact ⟨hi, by rw [ec]; exact (Option.some.inj h).symm⟩
theorem lets_at {cs : List Nat} {j : Nat} (hj : j < cs.length) : (lets cs)[j]? = some (.str (L1 cs[j])) := by
  unfold lets
  rw [List.getElem?_map, List.getElem?_eq_getElem hj]
  rfl
theorem seq_ix {j n : Nat} (h : j < n) : seqIndex? (j : Int) n = some j := by
  unfold seqIndex?
  simp
  omega
theorem erase_len {xs : List Nat} {k : Nat} (h : k < xs.length) : (xs.eraseIdx k).length = xs.length - 1 := List.length_eraseIdx_of_lt h
theorem goodI1 {cs : List Nat} {a : Nat} (h : a ∈ cs) : GoodI cs [a] := ⟨Nat.le_refl _, by show 1 ≤ 4; decide, fun x hx => by rw [List.mem_singleton.mp hx]; exact h⟩
theorem goodI2 {cs : List Nat} {a b : Nat} (h : a ∈ cs) (h' : b ∈ cs) : GoodI cs [a, b] := by
  refine ⟨by show 1 ≤ 2; decide, by show 2 ≤ 4; decide, fun x hx => ?_⟩
  rcases List.mem_cons.mp hx with e | hx
  · rw [e]
    exact h
  · rw [List.mem_singleton.mp hx]
    exact h'
theorem ok_escaped {f : Addr} {fd : FuncData} (F : Fun K "_law_escaped" "_law_escaped" s_escaped f fd) (T : Blt mg) (D_draw : Df P w K mg base 1 "_law_draw" spDraw) : FnOk P w K mg base CX0 2 f fd ["_law_pen_here", "_law_some"] (spTab 52) := by
  refine F.ok sc_escaped (fun vs H Q E h => ?_) (fun cdv A outer s H vs Q E hr h => ?_)
  · obtain ⟨p, l, a, ns, n, cs, rfl, _⟩ := h
    rfl
  · obtain ⟨p, l, a, ns, n, cs, rfl, PA, ha, hap, hne, hnd, h26, hlt, q⟩ := h
    refine ⟨_, (pss_cons (ps_par (i := 2) (j := 3) (by rfl) sc_escaped.nd rfl rfl (by decide) rfl rfl (pa_cons (pe_callTy (call_list_ofK (K := K) rfl) (by rfl) T.list (by decide +kernel) (pa_cons (pv 1) pa_nil)) (pa_cons pe_dnewK pa_nil)) (by rfl))
      (pss_cons (ps_for PassesOwn.never rfl (pi_list (pv 1)) (pg_name (i := 4) sc_escaped.nd rfl (.inl rfl))
        (pss_cons (ps_set (i := 5) sc_escaped.nd rfl (.inl rfl) (pe_and (pe_cmpR op_ne (pv 4) (pe_ix (ix_listK (K := K) rfl) (pv 1) pe_int (fun _ _ => rfl)) (nomark _)) (pe_one (pe_cmpR op_eq (pe_c D_draw hr (by decide) (by rfl) (pa_cons (pv 0) (pa_cons pe_int pa_nil))) pe_int (nomark _)))))
        (pss_one (ps_dput (hu_of hr) (pv 3) (pv 4) (pe_ifExp (pt_val (pv 5)) (pv 4) (pe_op op_add_str (pe_ix (ix_listK (K := K) rfl) (pv 1) pe_int (fun _ _ => rfl)) (pe_bmK (K := K) rfl PySem.F.plainAttrs_list PySem.F.slot_list_pop PySem.F.type_list_pop mt_popAt (pv 2) (pa_cons (pe_c D_draw hr (by decide) (by rfl) (pa_cons (pv 0) (pa_cons (pe_callB (call_len_seqK (K := K) rfl) (by rfl) T.len (by decide +kernel) (pa_cons (pv 2) pa_nil)) pa_nil))) pa_nil)))) rfl))))
      (pss_one (ps_ret (pv 3))))), ?_⟩
    have hcs : 0 < cs.length := List.length_pos_iff.mpr hne
    -- tails, found = list(some), {}
    refine ⟨.ref a, rfl, a, _, rfl, .inl (SqL.of ha), fun b nb d nd => ⟨_, _, rfl, ?_⟩⟩
    have hbp := PA.nep nb
    have hbl := PA.nel nb
    have PA1 := (PA.new (o := .lst (lets cs)) nb).new (o := .dK []) nd
    have hdp := (PA.new (o := .lst (lets cs)) nb).nep nd
    have hdl := (PA.new (o := .lst (lets cs)) nb).nel nd
    have hbd : b ≠ d := ne_of_none upd_same nd
    have hab : a ≠ b := ne_of_none ha nb
    have ndH : H d = none := (Fr.new (p := p) nb).back nd hdp
    have had : a ≠ d := ne_of_none ha ndH
    refine ⟨_, rfl, a, rfl, ⟨_, SqL.of (by rw [upd_ne had, upd_ne hab]; exact ha)⟩, for_list (K := K) (a := a) (xs := lets cs) (fun i σ H2 => ∃ (tails : List Nat) (t : Tab) (v4 v5 : Option V), σ = [some (.ref p), some (.ref a), some (.ref b), some (.ref d), v4, v5] ∧
        H2 a = some (.lst (lets cs)) ∧ H2 b = some (.lst (lets tails)) ∧ cs.length ≤ tails.length + i ∧ tails.length ≤ 26 ∧ (∀ x ∈ tails, x ∈ cs) ∧ H2 d = some (.dK (encT t)) ∧ t.length ≤ i ∧ GoodT cs t ∧ PenAt H2 p l ns (n + 2 * (26 - i)) ∧ Fr p H H2) ?_ ?_ ?_ ?_⟩
    · exact ⟨cs, [], none, none, rfl, by rw [upd_ne had, upd_ne hab]; exact ha, by rw [upd_ne hbd, upd_same], by omega, h26, fun x h => h, upd_same, Nat.le_refl _, GoodT.nil, PA1.less (by omega), (Fr.new nb).trans (Fr.new nd)⟩
    · rintro i σ H2 hi ⟨tails, t, v4, v5, rfl, ha2, _⟩
      exact SqL.of ha2
    · rintro i x σ H2 hx ⟨tails, t, v4, v5, rfl, ha2, hb2, htl, ht6, hts, hd2, htn, G, PA2, fr2⟩
      obtain ⟨hi, rfl⟩ := lets_get hx
      -- stays = letter != some[0] and draw(pen, 2) == 0
      refine ⟨_, rfl, _, rfl, a, _, 0, _, rfl, rfl, SqL.of ha2, atI_nat (j := 0) (lets_at hcs), rfl, _, rfl, ?_⟩
      refine ite2 (fun e => ?g1) (fun e => ?g2)
      case' g1 =>
        refine ⟨_, rfl, p, l, ns, n + 2 * (26 - (i + 1)) + 1, 2, rfl, PA2.less (by omega), by decide, by decide, fun v H3 v0 v1 PA3 fr3 => ?_⟩
        refine ⟨rfl, ?_⟩
        generalize decide (V.int v = V.int 0) = bb
      case' g2 =>
        have PA3 : PenAt H2 p l ns (n + 2 * (26 - (i + 1)) + 1) := PA2.less (by omega)
        have fr3 : Fr p H2 H2 := Fr.refl
        generalize false = bb
      all_goals
        have ha3 := fr3 _ _ ha2 hap
        have hb3 := fr3 _ _ hb2 hbp
        have hd3 := fr3 _ _ hd2 hdp
        refine ⟨_, rfl, _, rfl, ?_⟩
        refine ite2 (fun e5 => ?_) (fun e5 => ?_)
        · refine ⟨_, rfl, _, rfl, _, rfl, d, _, rfl, DPut.k (k := Sum.inr (L1 cs[i])) hd3 (by rw [encT_len]; exact small1000 (by omega)), ?_⟩
          have ep : putK (encT t) (Sum.inr (L1 cs[i])) (V.str (L1 cs[i])) = encT (putT t cs[i] [cs[i]]) := putK_enc t cs[i] [cs[i]]
          rw [ep]
          have hmem : cs[i] ∈ cs := List.getElem_mem hi
          refine ⟨tails, putT t cs[i] [cs[i]], _, _, rfl, by rw [upd_ne had]; exact ha3, by rw [upd_ne hbd]; exact hb3, by omega, ht6, hts, upd_same, Nat.le_trans (put_len t _ _) (by omega), G.put hmem (goodI1 hmem), (PA3.other hdp hdl).less (by omega), (fr2.trans fr3).put ndH⟩
        · have htp : 0 < tails.length := by omega
          refine ⟨_, rfl, a, _, 0, _, rfl, rfl, SqL.of ha3, atI_nat (j := 0) (lets_at hcs), ?_⟩
          refine ⟨_, rfl, .inl ⟨rfl, _, SqL.of hb3⟩, _, rfl, _, rfl, b, _, rfl, .inl (SqL.of hb3), p, l, ns, n + 2 * (26 - (i + 1)), _, rfl, PA3, by rw [lets_len]; omega, by rw [lets_len]; omega, fun v4 H4 w0 w1 PA4 fr4 => ?_⟩
          obtain ⟨j, rfl⟩ : ∃ j : Nat, v4 = j := ⟨v4.toNat, by omega⟩
          have hj : j < tails.length := by rw [lets_len] at w1; omega
          have hb4 := fr4 _ _ hb3 hbp
          have hd4 := fr4 _ _ hd3 hdp
          have ha4 := fr4 _ _ ha3 hap
          refine ⟨b, _, _, j, _, rfl, rfl, hb4, by omega, by omega, by rw [lets_len]; exact seq_ix hj, lets_at hj, _, _, rfl, rfl, by show 1 + 1 ≤ sizeLine; decide, ?_⟩
          refine ⟨_, rfl, _, rfl, d, _, rfl, DPut.k (k := Sum.inr (L1 cs[i])) (by rw [upd_ne (Ne.symm hbd)]; exact hd4) (by rw [encT_len]; exact small1000 (by omega)), ?_⟩
          have ep : putK (encT t) (Sum.inr (L1 cs[i])) (V.str (L1 cs[0] ++ L1 tails[j])) = encT (putT t cs[i] [cs[0], tails[j]]) := by
            rw [← putK_enc]
            rfl
          rw [ep]
          have hmem : cs[i] ∈ cs := List.getElem_mem hi
          have htm : tails[j] ∈ cs := hts _ (List.getElem_mem hj)
          refine ⟨tails.eraseIdx j, putT t cs[i] [cs[0], tails[j]], _, _, rfl, by rw [upd_ne had, upd_ne hab]; exact ha4, by rw [upd_ne hbd, upd_same, lets_erase], by rw [erase_len hj]; omega, by rw [erase_len hj]; omega, fun x hx => hts x (List.mem_of_mem_eraseIdx hx), upd_same,
            Nat.le_trans (put_len t _ _) (by omega), G.put hmem (goodI2 (List.getElem_mem hcs) htm), ((PA4.other hbp hbl).other hdp hdl).less (by omega), (((fr2.trans fr3).trans fr4).put nb).put ndH⟩
    · rintro σ H2 ⟨tails, t, v4, v5, rfl, ha2, hb2, htl, ht6, hts, hd2, htn, G, PA2, fr2⟩
      exact ⟨_, rfl, q d t H2 G (PA2.less (by omega)) fr2 ndH hd2⟩
end
end V8
set_option Elab.async false
set_option linter.all false
set_option maxRecDepth 100000
set_option maxHeartbeats 8000000
namespace V8
open PySem PySem.Spec PyProof.Rows L2
theorem nd_len : ∀ {a b : List Nat}, a.Nodup → (∀ x ∈ a, x ∈ b) → a.length ≤ b.length
  | [], _, _, _ => Nat.zero_le _
  | x :: a, b, h, hs => by
    have hx : x ∈ b := hs x (List.mem_cons_self ..)
    have h1 := List.nodup_cons.mp h
    have ih := nd_len (a := a) (b := b.erase x) h1.2 fun y hy => by
      have hne : y ≠ x := fun e => h1.1 (e ▸ hy)
      exact (List.mem_erase_of_ne hne).mpr (hs y (List.mem_cons_of_mem _ hy))
    rw [List.length_erase_of_mem hx] at ih
    have : 0 < b.length := List.length_pos_of_mem hx
    rw [List.length_cons]
    omega
theorem GoodT.len {cs : List Nat} {t : Tab} (g : GoodT cs t) : t.length ≤ cs.length := by
  have := nd_len g.nd fun x hx => by
    obtain ⟨q, hq, rfl⟩ := List.mem_map.mp hx
    exact g.key q hq
  rw [List.length_map] at this
  exact this
def mergeT (a b : Tab) : Tab := b.foldl (fun acc q => putT acc q.1 q.2) a
theorem mergeK_enc : ∀ (b a : Tab), mergeK (encT a) (encT b) = encT (mergeT a b)
  | [], _ => rfl
  | q :: b, a => by
    show mergeK (putK (encT a) (Sum.inr (L1 q.1)) (V.str (Sx q.2))) (encT b) = _
    rw [putK_enc, mergeK_enc b]
    rfl
theorem GoodT.merge {cs : List Nat} : ∀ {b a : Tab}, GoodT cs a → (∀ q ∈ b, q.1 ∈ cs ∧ GoodI cs q.2) → GoodT cs (mergeT a b)
  | [], _, g, _ => g
  | q :: b, a, g, h => by
    have h1 := h q (List.mem_cons_self ..)
    exact GoodT.merge (b := b) (a := putT a q.1 q.2) (g.put h1.1 h1.2) fun x hx => h x (List.mem_cons_of_mem _ hx)
/-- tuples of a letter and its image stand at ps -/
def PairsAt (H : Hp) (ps : List Addr) (t : Tab) : Prop := Paired (fun b (q : Nat × List Nat) => H b = some (.tup [V.str (L1 q.1), V.str (Sx q.2)])) ps t
theorem PairsAt.mono {H H' : Hp} {ps : List Addr} {t : Tab} (h : PairsAt H ps t) (k : ∀ b xs, H b = some (.tup xs) → H' b = some (.tup xs)) : PairsAt H' ps t := Paired.mapP h fun _ _ e => k _ _ e
theorem PairsAt.snoc {H : Hp} : ∀ {ps : List Addr} {t : Tab} {b : Addr} {q : Nat × List Nat}, PairsAt H ps t → H b = some (.tup [V.str (L1 q.1), V.str (Sx q.2)]) → PairsAt H (ps ++ [b]) (t ++ [q])
  | _, _, _, _, .nil, e => .cons e .nil
  | _, _, _, _, .cons h r, e => .cons h (PairsAt.snoc r e)
theorem PairsAt.sq {K : PySem.W.Frag} {H : Hp} : ∀ {ps : List Addr} {t : Tab}, PairsAt H ps t → Paired (fun p (kv : Key × V) => SqT K H p [kV kv.1, kv.2]) ps (encT t)
  | _, _, .nil => .nil
  | _, _, .cons h r => .cons (.inl (.inl h)) (PairsAt.sq r)
theorem PairsAt.len {H : Hp} {ps : List Addr} {t : Tab} (h : PairsAt H ps t) : ps.length = t.length := Paired.length h
theorem tup_fr {p : Addr} {xs : List V} {H H' : Hp} (f : Fr p H H') (hp : H p = some (.lst xs)) : ∀ b ys, H b = some (.tup ys) → H' b = some (.tup ys) := fun b ys e => f b _ e (ne_of e hp (fun z => nomatch z))
theorem tup_upd {D : Addr} {xs : List V} {o : HO} {H : Hp} (hp : H D = some (.lst xs)) : ∀ b ys, H b = some (.tup ys) → upd H D o b = some (.tup ys) := fun b ys e => by
  rw [upd_ne (ne_of e hp (fun z => nomatch z))]
  exact e
theorem tup_new {q : Addr} {o : HO} {H : Hp} (hp : H q = none) : ∀ b ys, H b = some (.tup ys) → upd H q o b = some (.tup ys) := fun b ys e => by
  rw [upd_ne (ne_of_none e hp)]
  exact e
theorem PenAt.pen {H : Hp} {p l : Addr} {ns : List Int} {n : Nat} (P : PenAt H p l ns n) : ∃ xs, H p = some (.lst xs) := by
  obtain ⟨⟨s, g, h1, _⟩, _⟩ := P
  exact ⟨_, h1⟩
theorem enc_at {t : Tab} {i : Nat} {k : Key} {v : V} (h : (encT t)[i]? = some (k, v)) : ∃ hi : i < t.length, k = Sum.inr (L1 t[i].1) ∧ v = V.str (Sx t[i].2) := by
  unfold encT at h
  rw [List.getElem?_map] at h
  cases e : t[i]? with
  | none =>
    rw [e] at h
    cases h
  | some c =>
    obtain ⟨hi, ec⟩ := List.getElem?_eq_some_iff.mp e
    rw [e] at h
    have h' := Option.some.inj h
    refine ⟨hi, ?_, ?_⟩
    · rw [ec]
      exact (congrArg Prod.fst h').symm
    · rw [ec]
      exact (congrArg Prod.snd h').symm
theorem look_at : ∀ {t : Tab} {i : Nat}, (t.map (·.1)).Nodup → ∀ hi : i < t.length, lookT t t[i].1 = some t[i].2
  | [], i, _, hi => absurd hi (Nat.not_lt_zero _)
  | q :: t, 0, _, _ => by
    unfold lookT
    simp
  | q :: t, i + 1, h, hi => by
    have hi' : i < t.length := by simpa using hi
    have h1 := List.nodup_cons.mp (by simpa using h : (q.1 :: t.map (·.1)).Nodup)
    have hne : ¬ q.1 = t[i].1 := fun e => h1.1 (e ▸ List.mem_map_of_mem (List.getElem_mem hi'))
    have ih := look_at (t := t) (i := i) h1.2 hi'
    show lookT (q :: t) t[i].1 = some t[i].2
    unfold lookT at ih ⊢
    rw [List.find?_cons_of_neg (by simpa using hne)]
    exact ih
section
variable {P : Program} {w : World} {K : PySem.W.Frag} {mg : Str → Option Value} {base : Heap}
theorem ok_table {f : Addr} {fd : FuncData} (F : Fun K "_law_table" "_law_table" s_table f fd) (T : Blt mg) (D_draw : Df P w K mg base 1 "_law_draw" spDraw) (D_escaped : Df P w K mg base 2 "_law_escaped" (spTab 52)) (D_any_image : Df P w K mg base 3 "_law_any_image" spImage) : FnOk P w K mg base CX0 4 f fd ["_law_pen_here", "_law_some"] (spTab 260) := by
  refine F.ok sc_table (fun vs H Q E h => ?_) (fun cdv A outer s H vs Q E hr h => ?_)
  · obtain ⟨p, l, a, ns, n, cs, rfl, _⟩ := h
    rfl
  · obtain ⟨p, l, a, ns, n, cs, rfl, PA, ha, hap, hne, hnd, h26, hlt, q⟩ := h
    refine ⟨_, (pss_cons (ps_asg (pe_tup (pa_cons (pe_c D_draw hr (by decide) (by rfl) (pa_cons (pv 0) (pa_cons pe_int pa_nil))) (pa_cons (pe_callTy (call_list_ofK (K := K) rfl) (by rfl) T.list (by decide +kernel) (pa_cons (pv 1) pa_nil)) (pa_cons pe_dnewK pa_nil)))) (pg_tup (by rfl) (pgs_cons (pg_name (i := 2) sc_table.nd rfl (.inl rfl)) (pgs_cons (pg_name (i := 3) sc_table.nd rfl (.inl rfl)) (pgs_cons (pg_name (i := 4) sc_table.nd rfl (.inr rfl)) pgs_nil)))))
      (pss_cons (ps_if (pt_cmpR op_lt (pv 2) pe_int (nomark _))
        (pss_one (ps_set (i := 4) sc_table.nd rfl (.inr rfl) (pe_c D_escaped hr (by decide) (by rfl) (pa_cons (pv 0) (pa_cons (pv 1) pa_nil)))))
        pss_nil)
      (pss_cons (ps_for PassesOwn.never rfl (pi_list (pv 1)) (pg_name (i := 5) sc_table.nd rfl (.inl rfl))
        (pss_one (ps_if (pt_cmpR op_eq (pv 2) pe_int (nomark _))
          (pss_one (ps_dput (hu_of hr) (pv 4) (pv 5) (pe_bmK (K := K) rfl PySem.F.plainAttrs_list PySem.F.slot_list_pop PySem.F.type_list_pop mt_popAt (pv 3) (pa_cons (pe_c D_draw hr (by decide) (by rfl) (pa_cons (pv 0) (pa_cons (pe_callB (call_len_seqK (K := K) rfl) (by rfl) T.len (by decide +kernel) (pa_cons (pv 3) pa_nil)) pa_nil))) pa_nil)) rfl))
          (pss_one (ps_if (pt_cmpR op_gt (pv 2) pe_int (nomark _))
            (pss_one (ps_dput (hu_of hr) (pv 4) (pv 5) (pe_ifExp (pt_cmpR op_eq (pe_c D_draw hr (by decide) (by rfl) (pa_cons (pv 0) (pa_cons pe_int pa_nil))) pe_int (nomark _)) (pv 5) (pe_c D_any_image hr (by decide) (by rfl) (pa_cons (pv 0) (pa_cons (pv 1) pa_nil)))) rfl))
            pss_nil)))))
      (pss_cons (ps_if (pt_cmpR op_gt (pe_c D_draw hr (by decide) (by rfl) (pa_cons (pv 0) (pa_cons pe_int pa_nil))) pe_int (nomark _))
        (pss_one (ps_ret (pv 4)))
        pss_nil)
      (pss_one (ps_ret (pe_callTy (call_dictP rfl) (by rfl) T.dict (by decide +kernel) (pa_cons (pe_lock (pe_lc (own := [("_law_letter", 5)]) (g := gName 5) (by rfl) sc_table.nd (pi_keys (pv 4)) (blkOk_by (own := [("_law_letter", 5)]) (N := n_table) (sc := defScope s_table) (by decide +kernel)) (fun _ _ _ _ _ => (pg_name (i := 5) sc_table.nd rfl (.inl rfl))) (fun _ _ _ _ _ => (pts_one (pt_cmpR op_gt (pe_c D_draw hr (by decide) (by rfl) (pa_cons (pv 0) (pa_cons pe_int pa_nil))) pe_int (nomark _)))) (fun _ _ _ _ _ => (pe_tup (pa_cons (pv 5) (pa_cons (pe_dget (hu_of hr) (pv 4) (pv 5) (fun _ _ => rfl)) pa_nil)))))) pa_nil)))))))), ?_⟩
    have hcs : 0 < cs.length := List.length_pos_iff.mpr hne
    -- way, left, found = draw(pen, 6), list(some), {}
    refine ⟨_, rfl, p, l, ns, n + 259, 6, rfl, PA.less (by omega), by decide, by decide, fun way H1 y0 y1 PA1 fr1 => ?_⟩
    have ha1 := fr1 _ _ ha hap
    refine ⟨.ref a, rfl, a, _, rfl, .inl (SqL.of ha1), fun b nb d nd => ⟨by show 3 ≤ sizeLine; decide, fun tp ntp => ?_⟩⟩
    refine ⟨tp, [.int way, .ref b, .ref d], rfl, .inl (.inl upd_same), rfl, _, _, rfl, _, _, rfl, _, _, rfl, rfl, ?_⟩
    have hbp := PA1.nep nb
    have hbl := PA1.nel nb
    have PAb := PA1.new (o := .lst (lets cs)) nb
    have hdp := PAb.nep nd
    have hdl := PAb.nel nd
    have PAd := PAb.new (o := .dK []) nd
    have hbd : b ≠ d := ne_of_none upd_same nd
    have hab : a ≠ b := ne_of_none ha1 nb
    have had : a ≠ d := by
      refine ne_of_none (o := .lst (lets cs)) ?_ nd
      rw [upd_ne hab]
      exact ha1
    have htd : d ≠ tp := ne_of_none upd_same ntp
    have htb : b ≠ tp := ne_of_none (o := .lst (lets cs)) (by rw [upd_ne hbd]; exact upd_same) ntp
    have hta : a ≠ tp := ne_of_none (o := .lst (lets cs)) (by rw [upd_ne had, upd_ne hab]; exact ha1) ntp
    have nbH : H b = none := fr1.back nb hbp
    have ndH : H d = none := (fr1.trans (Fr.new nb)).back nd hdp
    have PAx := (PAd.new (o := .tup [.int way, .ref b, .ref d]) ntp).less (m := n + 259) (by omega)
    have frx : Fr p H (upd (upd (upd H1 b (.lst (lets cs))) d (.dK [])) tp (.tup [.int way, .ref b, .ref d])) := ((fr1.trans (Fr.new nb)).trans (Fr.new nd)).trans (Fr.new ntp)
    have hax : upd (upd (upd H1 b (.lst (lets cs))) d (.dK [])) tp (.tup [.int way, .ref b, .ref d]) a = some (.lst (lets cs)) := by rw [upd_ne hta, upd_ne had, upd_ne hab]; exact ha1
    have hbx : upd (upd (upd H1 b (.lst (lets cs))) d (.dK [])) tp (.tup [.int way, .ref b, .ref d]) b = some (.lst (lets cs)) := by rw [upd_ne htb, upd_ne hbd, upd_same]
    have hdx : upd (upd (upd H1 b (.lst (lets cs))) d (.dK [])) tp (.tup [.int way, .ref b, .ref d]) d = some (.dK (encT [])) := by rw [upd_ne htd, upd_same]; rfl
    generalize upd (upd (upd H1 b (.lst (lets cs))) d (.dK [])) tp (.tup [.int way, .ref b, .ref d]) = Hx at PAx frx hax hbx hdx ⊢
    clear PAd PAb nd ntp nb
    -- if way < 2: found = escaped(pen, some)
    refine ⟨_, rfl, way, 2, rfl, rfl, _, rfl, ?_⟩
    refine ite2 (fun e => ?g1) (fun e => ?g2)
    case' g1 =>
      refine ⟨_, rfl, _, rfl, p, l, a, ns, n + 207, cs, rfl, PAx.less (by omega), hax, hap, hne, hnd, h26, hlt, fun d2 t2 H3 G2 PA3 fr3 nd2 hd2 => ?_⟩
      have ha3 := fr3 _ _ hax hap
      have hb3 := fr3 _ _ hbx hbp
      have hbd2 : b ≠ d2 := ne_of_none hbx nd2
      have had2 : a ≠ d2 := ne_of_none hax nd2
      have hd2p := PAx.nep nd2
      have hd2l := PAx.nel nd2
      have nd2H : H d2 = none := frx.back nd2 hd2p
      have fr03 := frx.trans fr3
    case' g2 =>
      obtain ⟨d2, rfl⟩ : ∃ d2, d2 = d := ⟨d, rfl⟩
      have G2 : GoodT cs [] := GoodT.nil
      have PA3 : PenAt Hx p l ns (n + 207) := PAx.less (by omega)
      have ha3 := hax
      have hb3 := hbx
      have hd2 := hdx
      have hbd2 := hbd
      have had2 := had
      have hd2p := hdp
      have hd2l := hdl
      have nd2H := ndH
      have fr03 := frx
    all_goals
      refine ⟨_, rfl, a, rfl, ⟨_, SqL.of ha3⟩, for_list (K := K) (a := a) (xs := lets cs) (fun i σ H2 => ∃ (left : List Nat) (t : Tab) (v5 : Option V), σ = [some (.ref p), some (.ref a), some (.int way), some (.ref b), some (.ref d2), v5] ∧
        H2 a = some (.lst (lets cs)) ∧ H2 b = some (.lst (lets left)) ∧ (way = 2 → cs.length ≤ left.length + i) ∧ left.length ≤ 26 ∧ (∀ x ∈ left, x ∈ cs) ∧ H2 d2 = some (.dK (encT t)) ∧ GoodT cs t ∧ PenAt H2 p l ns (n + 30 + 6 * (26 - i)) ∧ Fr p H H2) ?_ ?_ ?_ ?_⟩
      · exact ⟨cs, _, none, rfl, ha3, hb3, fun _ => by omega, h26, fun x h => h, hd2, G2, PA3.less (by omega), fr03⟩
      · rintro i σ H2 hi ⟨left, t, v5, rfl, ha2, _⟩
        exact SqL.of ha2
      · rintro i x σ H2 hx ⟨left, t, v5, rfl, ha2, hb2, hl2, hl6, hls, hd4, G, PA2, fr2⟩
        obtain ⟨hi, rfl⟩ := lets_get hx
        have hmem : cs[i] ∈ cs := List.getElem_mem hi
        have tl26 := G.len
        have small : (encT t).length < sizeLine := by rw [encT_len]; exact small1000 (by omega)
        refine ⟨_, rfl, rfl, _, rfl, ?_⟩
        refine ite2 (fun e2 => ?_) (fun e2 => ?_)
        · have ew : way = 2 := V.int.inj (of_decide_eq_true e2)
          have hlp := hl2 ew
          refine ⟨_, rfl, .inl ⟨rfl, _, SqL.of hb2⟩, _, rfl, _, rfl, b, _, rfl, .inl (SqL.of hb2), p, l, ns, n + 30 + 6 * (26 - (i + 1)), _, rfl, PA2.less (by omega), by rw [lets_len]; omega, by rw [lets_len]; omega, fun v4 H4 w0 w1 PA4 fr4 => ?_⟩
          obtain ⟨j, rfl⟩ : ∃ j : Nat, v4 = j := ⟨v4.toNat, by omega⟩
          have hj : j < left.length := by rw [lets_len] at w1; omega
          have hb4 := fr4 _ _ hb2 hbp
          have hd5 := fr4 _ _ hd4 hd2p
          have ha4 := fr4 _ _ ha2 hap
          refine ⟨b, _, _, j, _, rfl, rfl, hb4, by omega, by omega, by rw [lets_len]; exact seq_ix hj, lets_at hj, ?_⟩
          refine ⟨_, rfl, _, rfl, d2, _, rfl, DPut.k (k := Sum.inr (L1 cs[i])) (by rw [upd_ne (Ne.symm hbd2)]; exact hd5) small, ?_⟩
          have ep : putK (encT t) (Sum.inr (L1 cs[i])) (V.str (L1 left[j])) = encT (putT t cs[i] [left[j]]) := putK_enc t cs[i] [left[j]]
          rw [ep]
          have htm : left[j] ∈ cs := hls _ (List.getElem_mem hj)
          exact ⟨left.eraseIdx j, putT t cs[i] [left[j]], _, rfl, by rw [upd_ne had2, upd_ne hab]; exact ha4, by rw [upd_ne hbd2, upd_same, lets_erase], fun _ => by rw [erase_len hj]; omega, by rw [erase_len hj]; omega, fun x hx => hls x (List.mem_of_mem_eraseIdx hx), upd_same,
            G.put hmem (goodI1 htm), (PA4.other hbp hbl).other hd2p hd2l, ((fr2.trans fr4).put nbH).put nd2H⟩
        · have ew : way ≠ 2 := fun z => e2 (by rw [z]; decide)
          refine ⟨_, rfl, _, _, rfl, rfl, _, rfl, ?_⟩
          refine ite2 (fun e3 => ?_) (fun e3 => ?_)
          · refine ⟨_, rfl, p, l, ns, n + 35 + 6 * (26 - (i + 1)), 3, rfl, PA2.less (by omega), by decide, by decide, fun v4 H4 w0 w1 PA4 fr4 => ⟨rfl, _, rfl, ?_⟩⟩
            have hb4 := fr4 _ _ hb2 hbp
            have hd5 := fr4 _ _ hd4 hd2p
            have ha4 := fr4 _ _ ha2 hap
            refine ite2 (fun e4 => ?_) (fun e4 => ?_)
            · refine ⟨_, rfl, _, rfl, _, rfl, d2, _, rfl, DPut.k (k := Sum.inr (L1 cs[i])) hd5 small, ?_⟩
              have ep : putK (encT t) (Sum.inr (L1 cs[i])) (V.str (L1 cs[i])) = encT (putT t cs[i] [cs[i]]) := putK_enc t cs[i] [cs[i]]
              rw [ep]
              exact ⟨left, putT t cs[i] [cs[i]], _, rfl, by rw [upd_ne had2]; exact ha4, by rw [upd_ne hbd2]; exact hb4, fun z => absurd z ew, hl6, hls, upd_same, G.put hmem (goodI1 hmem), (PA4.other hd2p hd2l).less (by omega), (fr2.trans fr4).put nd2H⟩
            · refine ⟨_, rfl, _, rfl, p, l, a, ns, n + 30 + 6 * (26 - (i + 1)), cs, rfl, PA4.less (by omega), ha4, hap, hne, h26, hlt, fun s H5 gs PA5 fr5 => ?_⟩
              have hb6 := fr5 _ _ hb4 hbp
              have hd6 := fr5 _ _ hd5 hd2p
              have ha6 := fr5 _ _ ha4 hap
              refine ⟨_, rfl, _, rfl, d2, _, rfl, DPut.k (k := Sum.inr (L1 cs[i])) hd6 small, ?_⟩
              rw [putK_enc]
              exact ⟨left, putT t cs[i] s, _, rfl, by rw [upd_ne had2]; exact ha6, by rw [upd_ne hbd2]; exact hb6, fun z => absurd z ew, hl6, hls, upd_same, G.put hmem gs, (PA5.other hd2p hd2l).less (by omega), ((fr2.trans fr4).trans fr5).put nd2H⟩
          · exact ⟨left, t, _, rfl, ha2, hb2, fun z => absurd z ew, hl6, hls, hd4, G, PA2.less (by omega), fr2⟩
      · rintro σ H2 ⟨left, t, v5, rfl, ha2, hb2, hl2, hl6, hls, hd4, G, PA2, fr2⟩
        have tl26 := G.len
        refine ⟨_, rfl, p, l, ns, n + 29, 3, rfl, PA2.less (by omega), by decide, by decide, fun v4 H4 w0 w1 PA4 fr4 => ⟨_, _, rfl, rfl, _, rfl, ?_⟩⟩
        have hd5 := fr4 _ _ hd4 hd2p
        refine ite2 (fun e4 => ?_) (fun e4 => ?_)
        · exact ⟨_, rfl, q d2 t H4 G (PA4.less (by omega)) (fr2.trans fr4) nd2H hd5⟩
        · refine ⟨d2, _, hd5, True.intro, fun od => ⟨_, rfl, d2, od, rfl, .inl ⟨_, upd_same, fun D nD => lc_it walk_keys (fun i H2 => ∃ (ps : List Addr) (t2 : Tab), (∀ x ∈ t2, x.1 ∈ cs ∧ GoodI cs x.2) ∧ ps.length ≤ i ∧ H2 D = some (.lst (ps.map V.ref)) ∧ PairsAt H2 ps t2 ∧
            H2 d2 = some (.frz od (.dK (encT t))) ∧ PenAt H2 p l ns (n + (29 - i)) ∧ Fr p H H2) ?_ ?_ ?_ ?_⟩⟩⟩
          · have hDd : d2 ≠ D := ne_of_none upd_same nD
            refine ⟨[], [], fun x h => (by cases h), Nat.le_refl _, upd_same, .nil, by rw [upd_ne hDd, upd_same], ((PA4.other hd2p hd2l).new nD).less (by omega), ((fr2.trans fr4).put nd2H).trans (Fr.new nD)⟩
          · rintro i H2 hi ⟨ps, t2, _, _, _, _, h, _⟩
            exact h
          · rintro i x H2 H2' hi ⟨ps, t2, ht2, hps, hD, hpa, hfz, PA5, fr5⟩ ⟨rfl, k, v, hk, rfl⟩
            obtain ⟨hit, rfl, rfl⟩ := enc_at hk
            have hDp : D ≠ p := (PA4.other (o := .frz od (.dK (encT t))) hd2p hd2l).nep nD
            have hDl : D ≠ l := (PA4.other (o := .frz od (.dK (encT t))) hd2p hd2l).nel nD
            have nDH : H D = none := ((fr2.trans fr4).put (a := d2) nd2H).back nD hDp
            refine ⟨rfl, _, rfl, p, l, ns, n + (29 - (i + 1)), 3, rfl, PA5.less (by omega), by decide, by decide, fun v6 H6 u0 u1 PA6 fr6 => ⟨_, _, rfl, rfl, _, rfl, ?_⟩⟩
            obtain ⟨pl, hpl⟩ := PA5.pen
            have hpa6 := hpa.mono (tup_fr fr6 hpl)
            have hD6 := fr6 _ _ hD hDp
            have hfz6 := fr6 _ _ hfz hd2p
            refine ite2 (fun e6 => ?_) (fun e6 => ?_)
            · refine ⟨_, rfl, _, rfl, _, rfl, d2, V.str (Sx t[i].2), rfl, .inl ⟨_, Sum.inr (L1 t[i].1), .inr ⟨od, hfz6⟩, rfl, ?_⟩, by show 2 ≤ sizeLine; decide, fun tq ntq => ?_⟩
              · rw [valV_enc, look_at G.nd hit]
                rfl
              · have htD : D ≠ tq := ne_of_none hD6 ntq
                refine ⟨ps.map V.ref, by rw [upd_ne htD]; exact hD6, by rw [List.length_map]; exact small1000 (by omega), ps ++ [tq], t2 ++ [t[i]], ?_, by rw [List.length_append]; exact Nat.succ_le_succ hps, ?_, ?_, ?_, ?_, ?_⟩
                · intro x hx
                  rcases List.mem_append.mp hx with h | h
                  · exact ht2 x h
                  · rw [List.mem_singleton.mp h]
                    exact ⟨G.key _ (List.getElem_mem hit), G.img _ (List.getElem_mem hit)⟩
                · rw [upd_same, List.map_append]
                  rfl
                · refine PairsAt.snoc ((hpa6.mono (tup_new ntq)).mono (tup_upd (by rw [upd_ne htD]; exact hD6))) ?_
                  exact (upd_ne (Ne.symm htD)).trans upd_same
                · rw [upd_ne (ne_of hfz6 hD6 (fun z => nomatch z)), upd_ne (ne_of_none hfz6 ntq)]
                  exact hfz6
                · exact ((PA6.new ntq).other hDp hDl)
                · exact ((fr5.trans fr6).trans (Fr.new ntq)).put nDH
            · exact ⟨ps, t2, ht2, by omega, hD6, hpa6, hfz6, PA6, fr5.trans fr6⟩
          · rintro H2 ⟨ps, t2, ht2, hps, hD, hpa, hfz, PA5, fr5⟩
            have hDd : D ≠ d2 := ne_of hD hfz (fun z => nomatch z)
            refine ⟨hfz, D, ps, encT t2, rfl, SqL.of (by rw [upd_ne hDd]; exact hD), (PairsAt.sq (hpa.mono fun b ys e => by rw [upd_ne (ne_of e hfz (fun z => nomatch z))]; exact e)), fun r nr => ?_⟩
            have em : mergeK [] (encT t2) = encT (mergeT [] t2) := mergeK_enc t2 []
            rw [em]
            have PA7 := (PA5.other (o := .dK (encT t)) hd2p hd2l)
            have fr7 := fr5.put (a := d2) (o := .dK (encT t)) nd2H
            exact q r (mergeT [] t2) _ (GoodT.merge GoodT.nil ht2) ((PA7.new nr).less (by omega)) (fr7.trans (Fr.new nr)) (fr7.back nr (PA7.nep nr)) upd_same
end
end V8
set_option Elab.async false
set_option linter.all false
set_option maxRecDepth 100000
set_option maxHeartbeats 8000000
/-! Letters, texts, images: the program's own tests. -/
namespace V8
open PySem PySem.Spec PyProof.Rows L2
abbrev s_is_letter : Stmt := topS 20
theorem sc_is_letter : FnScope ["value"] ["value"] (defScope s_is_letter) := ⟨rfl, rfl, rfl, by decide +kernel, rfl, by decide +kernel, by decide +kernel⟩
abbrev s_is_text : Stmt := topS 21
theorem sc_is_text : FnScope ["value"] ["value"] (defScope s_is_text) := ⟨rfl, rfl, rfl, by decide +kernel, rfl, by decide +kernel, by decide +kernel⟩
abbrev s_all_letters : Stmt := topS 22
theorem sc_all_letters : FnScope ["string"] ["string"] (defScope s_all_letters) := ⟨rfl, rfl, rfl, by decide +kernel, rfl, by decide +kernel, by decide +kernel⟩
abbrev s_is_image : Stmt := topS 33
theorem sc_is_image : FnScope ["value"] ["value"] (defScope s_is_image) := ⟨rfl, rfl, rfl, by decide +kernel, rfl, by decide +kernel, by decide +kernel⟩
abbrev s_told_images : Stmt := topS 35
abbrev n_told_images : List Str := ["images", "keeps", "key", "letter", "kept"]
theorem sc_told_images : FnScope ["images", "keeps", "key", "letter", "kept"] ["images", "keeps"] (defScope s_told_images) := ⟨rfl, rfl, rfl, by decide +kernel, rfl, by decide +kernel, by decide +kernel⟩
/-- what the top has left, of the names and of the two classes -/
structure Tx (K : PySem.W.Frag) (mg : Str → Option Value) (CM CJ : Addr) : Prop extends Blt mg where
  isinstance : mg "isinstance" = none
  iter : mg "iter" = none
  gLETTERS : GV mg "LETTERS" (.str abcS)
  gLONGEST : GV mg "LONGEST" (.int 2000)
  gLONGEST_TOLD : GV mg "LONGEST_TOLD" (.int 4)
  gMOST_LETTERS : GV mg "MOST_LETTERS" (.int 12)
  gMisreading : GV mg "Misreading" (.ref CM)
  gJoined : GV mg "Joined" (.ref CJ)
  dJ : PySem.W.kitOne K (.type "dict") (.ref CJ) = some false
  dM : PySem.W.kitOne K (.type "dict") (.ref CM) = some false
  sM : PySem.W.kitOne K (.type "str") (.ref CM) = some false
  iM : PySem.W.kitOne K (.type "int") (.ref CM) = some false
  cl : Cls K CM
  nL : NoAttr K CM "_letters"
  nI : NoAttr K CM "_images"
  nC : NoAttr K CM "changed"
  tA : PySem.W.findIn K (.ref CM) "__class__" = some (some (.builtin "object.__class__"))
  tB : PySem.W.specialIn K (.builtin "object.__class__") "__get__" = some (some (.builtin "getset_descriptor.__get__"))
  tC : PySem.W.takesIn K (.builtin "object.__class__") = some true
  tD : PySem.W.mroIn K CM (.type "object") = some true
  ne : PySem.W.findIn K (.ref CM) "__ne__" = some (some (.builtin "object.__ne__"))
  fd : PySem.W.notFirst K CM (.type "dict") = true
  fs : PySem.W.notFirst K CM (.type "str") = true
  fi : PySem.W.notFirst K CM (.type "int") = true
def spIsLetter (K : PySem.W.Frag) : Sp := fun vs H Q _ => ∃ x, vs = [x] ∧ ((∃ c, x = .str (L1 c) ∧ Q (.bl (decide (c ∈ abc))) H) ∨ (∃ z, x = .str z ∧ z.length ≤ sizeLine ∧ z.length ≠ 1 ∧ Q (.bl false) H) ∨ (∃ t, TyX K H x t ∧ PySem.W.kitOne K t (.type "str") = some false ∧ Q (.bl false) H))
def spAllLetters : Sp := fun vs H Q _ => ∃ cs : List Nat, vs = [.str (Sx cs)] ∧ (∀ c ∈ cs, isLt c) ∧ cs.length ≤ 2000 ∧ Q (.bl true) H
def spIsText : Sp := spAllLetters
def spIsImage : Sp := fun vs H Q _ => ∃ s : List Nat, vs = [.str (Sx s)] ∧ (1 ≤ s.length ∧ s.length ≤ 4 ∧ ∀ d ∈ s, isLt d) ∧ Q (.bl true) H
theorem tw_all {p : Nat → Bool} : ∀ {l : List Nat}, (∀ c ∈ l, p c = true) → l.takeWhile p = l
  | [], _ => rfl
  | a :: r, h => by
    rw [List.takeWhile_cons, if_pos (h a (List.mem_cons_self ..)), tw_all fun c hc => h c (List.mem_cons_of_mem _ hc)]
theorem strip_all {cs : List Nat} (h : ∀ c ∈ cs, isLt c) : (Txt.stripChars (Sx cs) abcS).length = 0 := by
  have ha : ∀ c ∈ cs, abcS.cps.contains c = true := fun c hc => by
    have h1 : c ∈ abcS.cps.toList := by
      rw [abcS_cps]
      exact abc_mem.mpr (h c hc)
    exact Array.contains_iff_mem.mpr (Array.mem_toList_iff.mp h1)
  have hl : stripLo abcS.cps.contains true (Sx cs) = cs.length := by
    unfold stripLo
    rw [if_pos rfl]
    show (List.takeWhile abcS.cps.contains cs).length = cs.length
    rw [tw_all ha]
  unfold Txt.stripChars
  rw [stripBy_eq, hl]
  have e := TL.tl_strSub (Sx cs) cs.length (stripHi abcS.cps.contains true (Sx cs) cs.length)
  have e2 : TL.tl (Sx cs) = cs := rfl
  rw [e2, List.drop_length, List.take_nil] at e
  have e3 := congrArg List.length e
  exact e3
theorem dec_t {p : Prop} [Decidable p] (h : p) : V.bl (decide p) = V.bl true := by rw [decide_eq_true h]
theorem ty_str {K : PySem.W.Frag} {H : Hp} (z : Str) : TyX K H (.str z) (.type "str") := .base (.str z)
section
variable {P : Program} {w : World} {K : PySem.W.Frag} {mg : Str → Option Value} {base : Heap} {CM CJ : Addr}
theorem ok_is_letter {f : Addr} {fd : FuncData} (F : Fun K "is_letter" "is_letter" s_is_letter f fd) (T : Tx K mg CM CJ) : FnOk P w K mg base CX0 1 f fd ["value"] (spIsLetter K) := by
  refine F.ok sc_is_letter (fun vs H Q E h => ?_) (fun cdv A outer s H vs Q E hr h => ?_)
  · obtain ⟨x, rfl, _⟩ := h
    rfl
  · obtain ⟨x, rfl, h⟩ := h
    refine ⟨_, (pss_one (ps_ret (pe_and (pe_callB call_isi (by rfl) T.isinstance (by decide +kernel) (pa_cons (pv 0) (pa_cons (pe_bltn (v := .ty "str") (by rfl) T.str (by decide +kernel) rfl) pa_nil))) (pe_and (pe_cmpR op_eq (pe_callB call_len_str (by rfl) T.len (by decide +kernel) (pa_cons (pv 0) pa_nil)) pe_int (nomark _)) (pe_one (pe_cmpR op_in_sign (pv 0) (pe_gv T.gLETTERS (by rfl)) rfl)))))), ?_⟩
    rcases h with ⟨c, rfl, q⟩ | ⟨z, rfl, hz, h1, q⟩ | ⟨t, ty, e, q⟩
    · refine ⟨_, rfl, _, .ty "str", .type "str", .type "str", true, rfl, .ty _, ty_str _, kit_ty (by decide +kernel), true, rfl, ?_⟩
      refine ⟨_, rfl, _, rfl, by show 1 ≤ sizeLine; decide, rfl, true, rfl, ?_⟩
      refine ⟨_, rfl, c, abcS, rfl, rfl, ?_⟩
      rw [abcS_cps]
      exact q
    · refine ⟨_, rfl, _, .ty "str", .type "str", .type "str", true, rfl, .ty _, ty_str _, kit_ty (by decide +kernel), true, rfl, ?_⟩
      refine ⟨_, rfl, _, rfl, hz, rfl, false, ?_, ?_⟩
      · rw [decide_eq_false]
        intro e
        have e' := V.int.inj e
        omega
      · exact q
    · exact ⟨_, rfl, _, .ty "str", t, .type "str", false, rfl, .ty _, ty, e, false, rfl, q⟩
theorem ok_all_letters {f : Addr} {fd : FuncData} (F : Fun K "all_letters" "all_letters" s_all_letters f fd) (T : Tx K mg CM CJ) : FnOk P w K mg base CX0 1 f fd ["string"] spAllLetters := by
  refine F.ok sc_all_letters (fun vs H Q E h => ?_) (fun cdv A outer s H vs Q E hr h => ?_)
  · obtain ⟨cs, rfl, _⟩ := h
    rfl
  · obtain ⟨cs, rfl, hl, hn, q⟩ := h
    refine ⟨_, (pss_one (ps_ret (pe_notTK (K := K) rfl (pe_bmK (K := K) rfl PySem.F.plainAttrs_str PySem.F.slot_str_strip PySem.F.type_str_strip mt_stripChars (pv 0) (pa_cons (pe_gv T.gLETTERS (by rfl)) pa_nil))))), ?_⟩
    have hz : (Sx cs).length ≤ sizeLine := by rw [Sx_len, sizeLine_eq]; omega
    refine ⟨_, rfl, rfl, _, abcS, rfl, rfl, hz, false, ⟨?_, ?_⟩, q⟩
    · exact Nat.le_trans (len_stripChars _ _) hz
    · rw [strip_all hl]
      rfl
theorem ok_is_text {f : Addr} {fd : FuncData} (F : Fun K "is_text" "is_text" s_is_text f fd) (T : Tx K mg CM CJ) (D_all_letters : Df P w K mg base 1 "all_letters" spAllLetters) : FnOk P w K mg base CX0 2 f fd ["value"] spIsText := by
  refine F.ok sc_is_text (fun vs H Q E h => ?_) (fun cdv A outer s H vs Q E hr h => ?_)
  · obtain ⟨cs, rfl, _⟩ := h
    rfl
  · obtain ⟨cs, rfl, hl, hn, q⟩ := h
    refine ⟨_, (pss_one (ps_ret (pe_and (pe_callB call_isi (by rfl) T.isinstance (by decide +kernel) (pa_cons (pv 0) (pa_cons (pe_bltn (v := .ty "str") (by rfl) T.str (by decide +kernel) rfl) pa_nil))) (pe_and (pe_cmpR op_le (pe_callB call_len_str (by rfl) T.len (by decide +kernel) (pa_cons (pv 0) pa_nil)) (pe_gv T.gLONGEST (by rfl)) (nomark _)) (pe_one (pe_c D_all_letters hr (by decide) (by rfl) (pa_cons (pv 0) pa_nil))))))), ?_⟩
    have hz : (Sx cs).length ≤ sizeLine := by rw [Sx_len, sizeLine_eq]; omega
    refine ⟨_, rfl, _, .ty "str", .type "str", .type "str", true, rfl, .ty _, ty_str _, kit_ty (by decide +kernel), true, rfl, ?_⟩
    refine ⟨_, rfl, _, rfl, hz, _, _, rfl, rfl, true, ?_, ?_⟩
    · rw [Sx_len]
      exact dec_t (show (cs.length : Int) ≤ 2000 by omega)
    · exact ⟨_, rfl, cs, rfl, hl, hn, q⟩
theorem ok_is_image {f : Addr} {fd : FuncData} (F : Fun K "is_image" "is_image" s_is_image f fd) (T : Tx K mg CM CJ) (D_is_text : Df P w K mg base 2 "is_text" spIsText) : FnOk P w K mg base CX0 3 f fd ["value"] spIsImage := by
  refine F.ok sc_is_image (fun vs H Q E h => ?_) (fun cdv A outer s H vs Q E hr h => ?_)
  · obtain ⟨cs, rfl, _⟩ := h
    rfl
  · obtain ⟨cs, rfl, ⟨g1, g4, gl⟩, q⟩ := h
    refine ⟨_, (pss_one (ps_ret (pe_and (pe_c D_is_text hr (by decide) (by rfl) (pa_cons (pv 0) pa_nil)) (pe_one (pe_chain op_le op_le pe_int (pe_callB call_len_str (by rfl) T.len (by decide +kernel) (pa_cons (pv 0) pa_nil)) (pe_gv T.gLONGEST_TOLD (by rfl))))))), ?_⟩
    have hz : (Sx cs).length ≤ sizeLine := by rw [Sx_len, sizeLine_eq]; omega
    refine ⟨_, rfl, cs, rfl, gl, by omega, true, rfl, ?_⟩
    refine ⟨_, rfl, _, rfl, hz, _, _, rfl, rfl, true, ?_, ?_⟩
    · rw [Sx_len]
      exact dec_t (show (1 : Int) ≤ (cs.length : Int) by omega)
    · refine ⟨_, _, rfl, rfl, ?_⟩
      rw [Sx_len]
      have e := dec_t (show (cs.length : Int) ≤ 4 by omega)
      show Q (V.bl (decide ((cs.length : Int) ≤ 4))) H
      rw [e]
      exact q
/-- the letters that stay, as a table -/
def keepT (st : List Nat) : Tab := mergeT [] (st.map fun c => (c, [c]))
theorem keepT_good {cs st : List Nat} (hs : ∀ c ∈ st, c ∈ cs) (hl : ∀ c ∈ cs, isLt c) : GoodT cs (keepT st) := GoodT.merge GoodT.nil fun q hq => by
  obtain ⟨c, hc, rfl⟩ := List.mem_map.mp hq
  exact ⟨hs c hc, goodI1 (hs c hc)⟩
def toldT (st : List Nat) (t : Tab) : Tab := mergeT (mergeT [] (keepT st)) t
theorem toldT_good {cs st : List Nat} {t : Tab} (hs : ∀ c ∈ st, c ∈ cs) (hl : ∀ c ∈ cs, isLt c) (g : GoodT cs t) : GoodT cs (toldT st t) := by
  have g1 := keepT_good hs hl
  exact GoodT.merge (GoodT.merge GoodT.nil fun q hq => ⟨g1.key q hq, g1.img q hq⟩) fun q hq => ⟨g.key q hq, g.img q hq⟩
def spTold : Sp := fun vs H Q _ => ∃ (d : Addr) (cs st : List Nat) (t : Tab), vs = [.ref d, .str (Sx st)] ∧ H d = some (.dK (encT t)) ∧ GoodT cs t ∧ cs.length ≤ 26 ∧ (∀ c ∈ cs, isLt c) ∧ (∀ c ∈ st, c ∈ cs) ∧ st.length ≤ 500 ∧
  ∀ (r : Addr) (H' : Hp), Same H H' → H r = none → H' r = some (.dK (encT (toldT st t))) → Q (.ref r) H'
theorem Same.upd_back {H : Hp} {d : Addr} {o u : HO} (h : H d = some u) : upd (upd H d o) d u = H := by
  rw [upd_upd]
  funext b
  by_cases hb : b = d
  · rw [hb, upd_same, h]
  · rw [upd_ne hb]
theorem sx_at {st : List Nat} {i : Nat} {c : Nat} (h : (Sx st).cps[i]? = some c) : st[i]? = some c := by
  have : (Sx st).cps = st.toArray := rfl
  rw [this] at h
  simpa using h
theorem sx_size (st : List Nat) : (Sx st).cps.size = st.length := by
  show st.toArray.size = _
  simp
theorem look_in : ∀ {t : Tab} {c : Nat} {s : List Nat}, lookT t c = some s → (c, s) ∈ t := by
  intro t c s h
  unfold lookT at h
  cases e : t.find? (fun q => decide (q.1 = c)) with
  | none =>
    rw [e] at h
    cases h
  | some q =>
    rw [e] at h
    have h1 := List.find?_some e
    have h2 := List.mem_of_find?_eq_some e
    have h3 : q.1 = c := by simpa using h1
    have h4 : q.2 = s := by simpa using h
    rw [← h3, ← h4]
    exact h2
theorem keep_take {cs st : List Nat} (hs : ∀ c ∈ st, c ∈ cs) (hl : ∀ c ∈ cs, isLt c) (i : Nat) : GoodT cs (mergeT [] ((st.take i).map fun c => (c, [c]))) := keepT_good (st := st.take i) (fun c hc => hs c (List.mem_of_mem_take hc)) hl
theorem keep_succ {st : List Nat} {i c : Nat} (h : st[i]? = some c) : mergeT [] ((st.take (i + 1)).map fun c => (c, [c])) = putT (mergeT [] ((st.take i).map fun c => (c, [c]))) c [c] := by
  rw [List.take_add_one, h, List.map_append]
  unfold mergeT
  rw [List.foldl_append]
  rfl
theorem ok_told_images {f : Addr} {fd : FuncData} (F : Fun K "told_images" "told_images" s_told_images f fd) (T : Tx K mg CM CJ) (D_is_letter : Df P w K mg base 1 "is_letter" (spIsLetter K)) (D_is_text : Df P w K mg base 2 "is_text" spIsText)
    (D_is_image : Df P w K mg base 3 "is_image" spIsImage) : FnOk P w K mg base CX0 4 f fd ["images", "keeps"] spTold := by
  refine F.ok sc_told_images (fun vs H Q E h => ?_) (fun cdv A outer s H vs Q E hr h => ?_)
  · obtain ⟨d, cs, st, t, rfl, _⟩ := h
    rfl
  · obtain ⟨d, cs, st, t, rfl, hd, G, h26, hlt, hst, hs5, q⟩ := h
    refine ⟨_, (pss_cons (ps_if (pt_not (pt_val (pe_callB call_isi (by rfl) T.isinstance (by decide +kernel) (pa_cons (pv 0) (pa_cons (pe_bltn (v := .ty "dict") (by rfl) T.dict (by decide +kernel) rfl) pa_nil)))))
        (pss_one ps_never)
        pss_nil)
      (pss_cons (ps_lock (ps_for PassesOwn.never rfl (pi_keys (pv 0)) (pg_name (i := 2) sc_told_images.nd rfl (.inl rfl))
        (pss_one (ps_if (pt_not (pt_val (pe_c D_is_letter hr (by decide) (by rfl) (pa_cons (pv 2) pa_nil))))
          (pss_one ps_never)
          pss_nil))))
      (pss_cons (ps_for PassesOwn.never rfl (pi_str (pe_gv T.gLETTERS (by rfl))) (pg_name (i := 3) sc_told_images.nd rfl (.inl rfl))
        (pss_one (ps_if (PW.pt (pw_and (pt_cmp (pc_din (hu_of hr) (pv 3) (pv 0))) (pw_and1 (pt_not (pt_val (pe_c D_is_image hr (by decide) (by rfl) (pa_cons (pe_dget (hu_of hr) (pv 0) (pv 3) (fun _ _ => rfl)) pa_nil)))))))
          (pss_one ps_never)
          pss_nil)))
      (pss_cons (ps_if (pt_not (pt_val (pe_c D_is_text hr (by decide) (by rfl) (pa_cons (pv 1) pa_nil))))
        (pss_one ps_never)
        pss_nil)
      (pss_cons (ps_setDc (j := 4) (own := [("letter", 3)]) (g := gName 3) (by rfl) sc_told_images.nd rfl rfl (sw_trueD rfl rfl rfl (by decide +kernel)) (pi_str (pv 1)) (blkOk_by (own := [("letter", 3)]) (N := n_told_images) (sc := defScope s_told_images) (by decide +kernel)) (fun _ _ _ _ _ => (pg_name (i := 3) sc_told_images.nd rfl (.inl rfl))) (fun _ _ _ _ _ => pts_nil) (fun _ _ _ _ _ => (pv 3)) (fun _ _ _ _ _ => (pv 3)))
      (pss_one (ps_ret (pe_merge2 (pv 4) (pv 0))))))))), ?_⟩
    have tl := G.len
    -- isinstance(images, dict)
    refine ⟨_, rfl, _, .ty "dict", .type "dict", .type "dict", true, rfl, .ty _, .base (.dK hd), kit_ty (by decide +kernel), true, rfl, ?_⟩
    refine iteF ?_
    -- for key in images
    refine ⟨d, _, hd, True.intro, fun od => ⟨_, rfl, d, od, rfl, .inl ⟨_, upd_same, for_it walk_keys (fun i σ H2 => ∃ v2, σ = [some (.ref d), some (.str (Sx st)), v2, none, none] ∧ H2 = upd H d (.frz od (.dK (encT t)))) ⟨none, rfl, rfl⟩ ?_ ?_ ?_⟩⟩⟩
    · rintro i σ H2 hi ⟨v2, rfl, rfl⟩
      exact upd_same
    · rintro i x σ H2 H2' hi ⟨v2, rfl, rfl⟩ ⟨rfl, k, v, hk, rfl⟩
      obtain ⟨hit, rfl, rfl⟩ := enc_at hk
      have hc : t[i].1 ∈ abc := abc_mem.mpr (hlt _ (G.key _ (List.getElem_mem hit)))
      refine ⟨_, rfl, _, rfl, .inl ⟨t[i].1, rfl, ?_⟩⟩
      rw [decide_eq_true hc]
      exact ⟨true, rfl, iteF ⟨_, rfl, rfl⟩⟩
    · rintro σ H2 ⟨v2, rfl, rfl⟩
      refine ⟨upd_same, ?_⟩
      rw [Same.upd_back hd]
      -- for letter in LETTERS
      refine ⟨abcS, rfl, for_it walk_str (fun i σ H2 => ∃ v3, σ = [some (.ref d), some (.str (Sx st)), v2, v3, none] ∧ H = H2) ⟨none, rfl, rfl⟩ ?_ ?_ ?_⟩
      · rintro i σ H2 hi _
        trivial
      · rintro i x σ H2 H2' hi ⟨v3, rfl, rfl⟩ ⟨rfl, c, hc, rfl⟩
        refine ⟨_, rfl, _, rfl, d, _, rfl, DGet.k (k := Sum.inr (L1 c)) hd, _, rfl, ?_⟩
        rw [valV_enc]
        cases e : lookT t c with
        | none =>
          refine iteF ?_
          exact ⟨_, rfl, rfl⟩
        | some s =>
          refine iteT ?_
          refine ⟨_, rfl, _, rfl, d, V.str (Sx s), rfl, .inl ⟨_, Sum.inr (L1 c), .inl hd, rfl, by rw [valV_enc, e]; rfl⟩, s, rfl, ⟨(G.img _ (look_in e)).1, (G.img _ (look_in e)).2.1, fun z hz => hlt z ((G.img _ (look_in e)).2.2 z hz)⟩, true, rfl, ?_⟩
          exact ⟨_, rfl, rfl⟩
      · rintro σ H2 ⟨v3, rfl, rfl⟩
        -- is_text(keeps)
        refine ⟨_, rfl, st, rfl, fun c hc => hlt c (hst c hc), by omega, true, rfl, iteF ?_⟩
        -- kept
        refine ⟨_, rfl, Sx st, rfl, fun D nD => dc_it walk_str (fun i H3 => H3 = upd H D (.dK (encT (mergeT [] ((st.take i).map fun c => (c, [c])))))) ?_ ?_ ?_ ?_⟩
        · rfl
        · rintro i H3 hi _
          trivial
        · rintro i x H3 H3' hi rfl ⟨rfl, c, hc, rfl⟩
          have hc' := sx_at hc
          rw [sx_size] at hi
          have gk := keep_take (cs := cs) hst hlt i
          refine ⟨rfl, _, rfl, _, rfl, _, Sum.inr (L1 c), rfl, upd_same, by rw [encT_len]; have := gk.len; exact small1000 (by omega), ?_⟩
          rw [upd_upd]
          have ep : putK (encT (mergeT [] ((st.take i).map fun c => (c, [c])))) (Sum.inr (L1 c)) (V.str ⟨#[c]⟩) = encT (mergeT [] ((st.take (i + 1)).map fun c => (c, [c]))) := by
            rw [keep_succ hc']
            exact putK_enc _ c [c]
          rw [ep]
        · rintro H3 rfl
          rw [sx_size, List.take_length]
          have gk := keepT_good hst hlt
          have lk := gk.len
          have hdD : d ≠ D := ne_of_none hd nD
          -- {**kept, **images}
          have em : mergeK [] (encT (keepT st)) = encT (mergeT [] (keepT st)) := mergeK_enc (keepT st) []
          have gm : GoodT cs (mergeT [] (keepT st)) := GoodT.merge GoodT.nil fun x hx => ⟨gk.key x hx, gk.img x hx⟩
          have lm := gm.len
          refine fun r nr => ?_
          have hDr : D ≠ r := ne_of_none (H := upd H D (.dK (encT (keepT st)))) upd_same nr
          have hdr : d ≠ r := by
            refine ne_of_none (H := upd H D (.dK (encT (keepT st)))) (o := .dK (encT t)) ?_ nr
            rw [upd_ne hdD]
            exact hd
          refine ⟨_, rfl, D, encT (keepT st), rfl, hDr, upd_same, .inl ?_, by rw [encT_len]; omega, ?_⟩
          · rw [upd_ne hDr, upd_same]
            rfl
          · rw [em]
            refine ⟨_, rfl, d, encT (mergeT [] (keepT st)), encT t, rfl, hdr, upd_same, by rw [encT_len]; omega, .inl ?_, by rw [encT_len]; omega, ?_⟩
            · rw [upd_ne hdr, upd_ne hdr, upd_ne hdD]
              exact hd
            · rw [mergeK_enc]
              have s1 : Same H (upd H D (.dK (encT (keepT st)))) := fun b o e => by
                rw [upd_ne (ne_of_none e nD)]
                exact e
              have nrH : H r = none := s1.free nr
              refine q r _ (fun b o e => ?_) nrH upd_same
              have hb := ne_of_none e nrH
              rw [upd_ne hb, upd_ne hb, upd_ne hb]
              exact s1 b o e
end
end V8
set_option Elab.async false
set_option linter.all false
set_option maxRecDepth 100000
set_option maxHeartbeats 8000000
/-! The class Misreading, as far as the law asks it. -/
namespace V8
open PySem PySem.Spec PyProof.Rows L2
abbrev s_Misreading_init : Stmt := inClass (topS 32) 0
abbrev n_Misreading_init : List Str := ["self", "images", "keeps", "told", "letter"]
theorem sc_Misreading_init : FnScope ["self", "images", "keeps", "told", "letter"] ["self", "images", "keeps"] (defScope s_Misreading_init) := ⟨rfl, rfl, rfl, by decide +kernel, rfl, by decide +kernel, by decide +kernel⟩
abbrev s_Misreading_iter : Stmt := inClass (topS 32) 3
theorem sc_Misreading_iter : FnScope ["self"] ["self"] (defScope s_Misreading_iter) := ⟨rfl, rfl, rfl, by decide +kernel, rfl, by decide +kernel, by decide +kernel⟩
abbrev s_Misreading_getitem : Stmt := inClass (topS 32) 4
theorem sc_Misreading_getitem : FnScope ["self", "at"] ["self", "at"] (defScope s_Misreading_getitem) := ⟨rfl, rfl, rfl, by decide +kernel, rfl, by decide +kernel, by decide +kernel⟩
abbrev s_Misreading_str : Stmt := inClass (topS 32) 16
abbrev n_Misreading_str : List Str := ["self", "letter"]
theorem sc_Misreading_str : FnScope ["self", "letter"] ["self"] (defScope s_Misreading_str) := ⟨rfl, rfl, rfl, by decide +kernel, rfl, by decide +kernel, by decide +kernel⟩
def keysOf (u : Tab) : List Nat := abc.filter fun c => (lookT u c).isSome
def ims (u : Tab) : Tab := (keysOf u).map fun c => (c, (lookT u c).getD [])
def chg (u : Tab) : List Nat := (keysOf u).filter fun c => decide (lookT u c ≠ some [c])
theorem kLI : ¬ (("_letters" : Str) = "_images") := by decide +kernel
theorem kLC : ¬ (("_letters" : Str) = "changed") := by decide +kernel
theorem kIC : ¬ (("_images" : Str) = "changed") := by decide +kernel
def f1 (a : Addr) : List (Str × V) := putF "_letters" (.ref a) []
def f2 (a b : Addr) : List (Str × V) := putF "_images" (.ref b) (f1 a)
def f3 (a b c : Addr) : List (Str × V) := putF "changed" (.ref c) (f2 a b)
theorem f1_L (a : Addr) : (f1 a).lookup ("_letters" : Str) = some (.ref a) := by
  unfold f1
  rw [lookup_putF, if_pos rfl]
theorem f2_L (a b : Addr) : (f2 a b).lookup ("_letters" : Str) = some (.ref a) := by
  unfold f2
  rw [lookup_putF, if_neg kLI]
  exact f1_L a
theorem f3_L (a b c : Addr) : (f3 a b c).lookup ("_letters" : Str) = some (.ref a) := by
  unfold f3
  rw [lookup_putF, if_neg kLC]
  exact f2_L a b
theorem f3_I (a b c : Addr) : (f3 a b c).lookup ("_images" : Str) = some (.ref b) := by
  unfold f3 f2
  rw [lookup_putF, if_neg kIC, lookup_putF, if_pos rfl]
theorem f1_len (a : Addr) : (f1 a).length < 1000 := by
  show 1 < 1000
  decide
theorem f2_len (a b : Addr) : (f2 a b).length < 1000 := by
  have e : f2 a b = [(("_letters" : Str), V.ref a), ("_images", V.ref b)] := by
    show (if ("_letters" : Str) = "_images" then [(("_letters" : Str), V.ref b)] else (("_letters" : Str), V.ref a) :: [(("_images" : Str), V.ref b)]) = _
    rw [if_neg kLI]
  rw [e]
  show 2 < 1000
  decide
/-- a Misreading stands at x: its images are those of the table u, letters ascending -/
structure MisAt (C : Addr) (H : Hp) (x : Addr) (u : Tab) : Prop where
  at_ : ∃ dx a b c, H x = some (.ins C dx (f3 a b c)) ∧ H a = some (.tup (lets (keysOf u))) ∧ H b = some (.dK (encT (ims u))) ∧ H c = some (.tup (lets (chg u)))
theorem MisAt.mono {C : Addr} {H H' : Hp} {x : Addr} {u : Tab} (m : MisAt C H x u) (k : ∀ b o, H b = some o → (∀ xs, o ≠ .lst xs) → H' b = some o) : MisAt C H' x u := by
  obtain ⟨dx, a, b, c, h1, h2, h3, h4⟩ := m.at_
  exact ⟨dx, a, b, c, k _ _ h1 (fun _ z => nomatch z), k _ _ h2 (fun _ z => nomatch z), k _ _ h3 (fun _ z => nomatch z), k _ _ h4 (fun _ z => nomatch z)⟩
/-- .. made of what is new behind H0 -/
structure MisN (C : Addr) (H0 H : Hp) (x : Addr) (u : Tab) : Prop where
  at_ : ∃ dx a b c, H x = some (.ins C dx (f3 a b c)) ∧ H a = some (.tup (lets (keysOf u))) ∧ H b = some (.dK (encT (ims u))) ∧ H c = some (.tup (lets (chg u))) ∧ H0 a = none ∧ H0 b = none ∧ H0 c = none
theorem MisN.mis {C : Addr} {H0 H : Hp} {x : Addr} {u : Tab} (m : MisN C H0 H x u) : MisAt C H x u := by
  obtain ⟨dx, a, b, c, h1, h2, h3, h4, _⟩ := m.at_
  exact ⟨dx, a, b, c, h1, h2, h3, h4⟩
theorem keysOf_sub (u : Tab) : ∀ c ∈ keysOf u, isLt c := fun c h => abc_mem.mp (List.mem_filter.mp h).1
theorem keysOf_len (u : Tab) : (keysOf u).length ≤ 26 := by
  have := List.length_filter_le (fun c => (lookT u c).isSome) abc
  rw [abc_len] at this
  exact this
theorem keysOf_nd (u : Tab) : (keysOf u).Nodup := abc_nd.filter _
def spInit (CM : Addr) : Sp := fun vs H Q _ => ∃ (x dx d : Addr) (cs st : List Nat) (t : Tab), vs = [.ref x, .ref d, .str (Sx st)] ∧ H x = some (.ins CM dx []) ∧ H d = some (.dK (encT t)) ∧ GoodT cs t ∧ ((toldT st t).length ≤ 12 ∧ cs.length ≤ 26) ∧ (∀ c ∈ cs, isLt c) ∧ (∀ c ∈ st, c ∈ cs) ∧ st.length ≤ 500 ∧
  ∀ H', MisN CM H H' x (toldT st t) → (∀ b o, H b = some o → b ≠ x → H' b = some o) → Q .non H'
section
variable {P : Program} {w : World} {K : PySem.W.Frag} {mg : Str → Option Value} {base : Heap} {CM CJ : Addr}
theorem some_put (u : Tab) (i : Nat) (c : Nat) (h : abc[i]? = some c) : (abc.take (i + 1)).filter (fun c => (lookT u c).isSome) = (abc.take i).filter (fun c => (lookT u c).isSome) ++ (if (lookT u c).isSome = true then [c] else []) := by
  rw [List.take_add_one, h, List.filter_append]
  congr 1
  show List.filter _ [c] = _
  by_cases e : (lookT u c).isSome = true
  · rw [if_pos e]
    exact List.filter_eq_self.mpr (fun x hx => by rw [List.mem_singleton.mp hx]; exact e)
  · rw [if_neg e]
    simp [e]
theorem ims_succ {ks : List Nat} {u : Tab} {i : Nat} {s : List Nat} (nd : ks.Nodup) (hi : i < ks.length) (e : (lookT u ks[i]).getD [] = s) : putT ((ks.take i).map fun c => (c, (lookT u c).getD [])) ks[i] s = (ks.take (i + 1)).map fun c => (c, (lookT u c).getD []) := by
  have hn : ¬ (((ks.take i).map fun c => (c, (lookT u c).getD [])).any fun q => decide (q.1 = ks[i])) = true := by
    intro h
    obtain ⟨q, hq, e1⟩ := List.any_eq_true.mp h
    obtain ⟨c, hc, rfl⟩ := List.mem_map.mp hq
    have e2 : c = ks[i] := by simpa using e1
    obtain ⟨j, hj, ej⟩ := List.getElem_of_mem hc
    rw [List.length_take] at hj
    rw [List.getElem_take] at ej
    have : j = i := (List.getElem_inj nd).mp (ej.trans e2)
    omega
  unfold putT
  rw [if_neg hn, List.take_add_one, List.getElem?_eq_getElem hi, List.map_append]
  show _ = _ ++ [(ks[i], (lookT u ks[i]).getD [])]
  rw [e]
theorem chg_succ {u : Tab} {i : Nat} {ks : List Nat} (hi : i < ks.length) : (ks.take (i + 1)).filter (fun c => decide (lookT u c ≠ some [c])) = (ks.take i).filter (fun c => decide (lookT u c ≠ some [c])) ++ (if decide (lookT u ks[i] ≠ some [ks[i]]) = true then [ks[i]] else []) := by
  rw [List.take_add_one, List.getElem?_eq_getElem hi, List.filter_append]
  congr 1
  show List.filter _ [ks[i]] = _
  rw [List.filter_cons]
  rfl
theorem ok_init {f : Addr} {fd : FuncData} {dvs : List V} (F : FunD K "__init__" "Misreading.__init__" (defArgs s_Misreading_init) (defBody s_Misreading_init) (defScope s_Misreading_init) dvs [] f fd) (T : Tx K mg CM CJ) (D_told_images : Df P w K mg base 4 "told_images" spTold) : FnOk P w K mg base CX0 5 f fd ["self", "images", "keeps"] (spInit CM) := by
  refine F.ok sc_Misreading_init (fun vs H Q E h => ?_) (fun cdv A outer s H vs Q E hr h => ?_)
  · obtain ⟨x, dx, d, cs, st, t, rfl, _⟩ := h
    rfl
  · obtain ⟨x, dx, d, cs, st, t, rfl, hx, hd, G, ⟨h12, h26⟩, hlt, hst, hs5, q⟩ := h
    refine ⟨_, (pss_cons (ps_set (i := 3) sc_Misreading_init.nd rfl (.inr rfl) (pe_ifExp (pt_val (pe_callB call_isi (by rfl) T.isinstance (by decide +kernel) (pa_cons (pv 1) (pa_cons (pe_gv T.gJoined (by rfl)) pa_nil)))) (pe_fldK (K := K) rfl (pv 1) rfl) (pe_c D_told_images hr (by decide) (by rfl) (pa_cons (pv 1) (pa_cons (pv 2) pa_nil)))))
      (pss_cons (ps_if (pt_cmpR op_gt (pe_callB call_lenD (by rfl) T.len (by decide +kernel) (pa_cons (pv 3) pa_nil)) (pe_gv T.gMOST_LETTERS (by rfl)) (nomark _))
        (pss_one ps_never)
        pss_nil)
      (pss_cons (ps_fld (pv 0) (pe_callTy (call_tuple_ofK (K := K) rfl) (by rfl) T.tuple (by decide +kernel) (pa_cons (pe_lc (own := [("letter", 4)]) (g := gName 4) (by rfl) sc_Misreading_init.nd (pi_str (pe_gv T.gLETTERS (by rfl))) (blkOk_by (own := [("letter", 4)]) (N := n_Misreading_init) (sc := defScope s_Misreading_init) (by decide +kernel)) (fun _ _ _ _ _ => (pg_name (i := 4) sc_Misreading_init.nd rfl (.inl rfl))) (fun _ _ _ _ _ => (pts_one (pt_cmp (pc_din (hu_of hr) (pv 4) (pv 3))))) (fun _ _ _ _ _ => (pv 4))) pa_nil)) rfl)
      (pss_cons (ps_fld (pv 0) (pe_dc (own := [("letter", 4)]) (g := gName 4) (by rfl) sc_Misreading_init.nd (pi_tup (pe_fldK (K := K) rfl (pv 0) rfl)) (blkOk_by (own := [("letter", 4)]) (N := n_Misreading_init) (sc := defScope s_Misreading_init) (by decide +kernel)) (fun _ _ _ _ _ => (pg_name (i := 4) sc_Misreading_init.nd rfl (.inl rfl))) (fun _ _ _ _ _ => pts_nil) (fun _ _ _ _ _ => (pv 4)) (fun _ _ _ _ _ => (pe_dget (hu_of hr) (pv 3) (pv 4) (fun _ _ => rfl)))) rfl)
      (pss_one (ps_fld (pv 0) (pe_callTy (call_tuple_ofK (K := K) rfl) (by rfl) T.tuple (by decide +kernel) (pa_cons (pe_lc (own := [("letter", 4)]) (g := gName 4) (by rfl) sc_Misreading_init.nd (pi_tup (pe_fldK (K := K) rfl (pv 0) rfl)) (blkOk_by (own := [("letter", 4)]) (N := n_Misreading_init) (sc := defScope s_Misreading_init) (by decide +kernel)) (fun _ _ _ _ _ => (pg_name (i := 4) sc_Misreading_init.nd rfl (.inl rfl))) (fun _ _ _ _ _ => (pts_one (pt_cmpR op_ne (pe_dget (hu_of hr) (pv 3) (pv 4) (fun _ _ => rfl)) (pv 4) (nomark _)))) (fun _ _ _ _ _ => (pv 4))) pa_nil)) rfl)))))), ?_⟩
    have gu := toldT_good hst hlt G
    have lu := h12
    -- told
    refine ⟨_, rfl, _, .ref CJ, .type "dict", .ref CJ, false, rfl, .own _, .base (.dK hd), T.dJ, false, rfl, ?_⟩
    refine iteF ?_
    refine ⟨_, rfl, _, rfl, d, cs, st, t, rfl, hd, G, by omega, hlt, hst, hs5, fun r H1 sm nr hr1 => ?_⟩
    generalize toldT st t = u at gu lu q hr1 ⊢
    have hx1 := sm _ _ hx
    -- len(told) > 12
    refine ⟨_, rfl, r, _, rfl, hr1, _, _, rfl, rfl, _, rfl, ?_⟩
    rw [encT_len, decide_eq_false (by show ¬ ((12 : Int) < (u.length : Int)); omega)]
    refine iteF ?_
    have hx0 : ∀ b o, H b = some o → b ≠ x → H1 b = some o := fun b o e _ => sm b o e
    -- self._letters
    refine ⟨abcS, rfl, fun D nD => lc_it walk_str (fun i H2 => H2 = upd H1 D (.lst (lets ((abc.take i).filter fun c => (lookT u c).isSome)))) rfl (fun _ _ _ _ => trivial) ?_ ?_⟩
    · rintro i z H2 H2' hi rfl ⟨rfl, c, hc, rfl⟩
      have hc' : abc[i]? = some c := by
        rw [← abcS_cps]
        simpa using hc
      have hrD : r ≠ D := ne_of_none hr1 nD
      refine ⟨rfl, _, rfl, _, rfl, r, _, rfl, DGet.k (k := Sum.inr (L1 c)) (by rw [upd_ne hrD]; exact hr1), _, rfl, ?_⟩
      rw [valV_enc]
      have hs := some_put u i c hc'
      by_cases e : (lookT u c).isSome = true
      · have e2 : (Option.map (fun s => V.str (Sx s)) (lookT u c)).isSome = true := by rw [Option.isSome_map]; exact e
        rw [e2]
        refine iteT ?_
        rw [if_pos e] at hs
        refine ⟨_, rfl, lets ((abc.take i).filter fun c => (lookT u c).isSome), upd_same, ?_, ?_⟩
        · rw [lets_len]
          have h1 := List.length_filter_le (fun c => (lookT u c).isSome) (abc.take i)
          have h2 : (abc.take i).length ≤ 26 := by rw [List.length_take, abc_len]; omega
          exact small1000 (by omega)
        · rw [upd_upd, hs, lets_snoc]
          rfl
      · have e2 : (Option.map (fun s => V.str (Sx s)) (lookT u c)).isSome = false := by
          rw [Option.isSome_map]
          exact Bool.eq_false_iff.mpr e
        rw [e2]
        refine iteF ?_
        rw [if_neg e, List.append_nil] at hs
        rw [hs]
    · rintro H2 rfl
      have hsz : abcS.cps.size = 26 := by decide +kernel
      rw [hsz]
      have ek : (abc.take 26).filter (fun c => (lookT u c).isSome) = keysOf u := by
        rw [List.take_of_length_le (by rw [abc_len]; exact Nat.le_refl _)]
        rfl
      rw [ek]
      refine ⟨D, _, rfl, .inl ⟨SqL.of upd_same, fun a na => ?_⟩⟩
      have hxD : x ≠ D := ne_of_none hx1 nD
      have hxa : x ≠ a := ne_of_none (H := upd H1 D (.lst (lets (keysOf u)))) (o := .ins CM dx []) (by rw [upd_ne hxD]; exact hx1) na
      have hrD : r ≠ D := ne_of_none hr1 nD
      have hra : r ≠ a := ne_of_none (H := upd H1 D (.lst (lets (keysOf u)))) (o := .dK (encT u)) (by rw [upd_ne hrD]; exact hr1) na
      have hrx : r ≠ x := ne_of hr1 hx1 (fun z => nomatch z)
      refine ⟨_, rfl, x, CM, dx, [], rfl, by rw [upd_ne hxa, upd_ne hxD]; exact hx1, T.cl, T.nL, by show 0 < 1000; decide, ?_⟩
      have fr3 : ∀ b o, H b = some o → b ≠ x → upd (upd (upd H1 D (.lst (lets (keysOf u)))) a (.tup (lets (keysOf u)))) x (.ins CM dx (f1 a)) b = some o := fun b o e hb => by
        have e1 := sm b o e
        have hbD := ne_of_none e1 nD
        rw [upd_ne hb, upd_ne (ne_of_none (H := upd H1 D (.lst (lets (keysOf u)))) (o := o) (by rw [upd_ne hbD]; exact e1) na), upd_ne hbD]
        exact e1
      have hx3 : upd (upd (upd H1 D (.lst (lets (keysOf u)))) a (.tup (lets (keysOf u)))) x (.ins CM dx (f1 a)) x = some (.ins CM dx (f1 a)) := upd_same
      have ha3 : upd (upd (upd H1 D (.lst (lets (keysOf u)))) a (.tup (lets (keysOf u)))) x (.ins CM dx (f1 a)) a = some (.tup (lets (keysOf u))) := by rw [upd_ne (Ne.symm hxa), upd_same]
      have hr3 : upd (upd (upd H1 D (.lst (lets (keysOf u)))) a (.tup (lets (keysOf u)))) x (.ins CM dx (f1 a)) r = some (.dK (encT u)) := by rw [upd_ne hrx, upd_ne hra, upd_ne hrD]; exact hr1
      show tSeq _ _ _ _ (upd (upd (upd H1 D (.lst (lets (keysOf u)))) a (.tup (lets (keysOf u)))) x (.ins CM dx (f1 a)))
      generalize upd (upd (upd H1 D (.lst (lets (keysOf u)))) a (.tup (lets (keysOf u)))) x (.ins CM dx (f1 a)) = H3 at fr3 hx3 ha3 hr3 ⊢
      have naH : H a = none := by
        cases e : H a with
        | none => rfl
        | some o =>
          have e1 := sm _ _ e
          have e2 : upd H1 D (.lst (lets (keysOf u))) a = some o := by rw [upd_ne (ne_of_none e1 nD)]; exact e1
          rw [e2] at na
          cases na
      clear na nD hxD hxa hrD hra
      -- self._images
      refine ⟨_, rfl, x, CM, dx, _, _, rfl, hx3, T.cl, T.nL, f1_L a, a, rfl, ⟨_, .inl (.inl ha3)⟩, fun D2 nD2 => dc_it (walk_tup (K := K) (a := a) (xs := lets (keysOf u))) (fun i H4 => H4 = upd H3 D2 (.dK (encT (((keysOf u).take i).map fun c => (c, (lookT u c).getD []))))) rfl ?_ ?_ ?_⟩
      · rintro i H4 hi rfl
        exact .inl (.inl (by rw [upd_ne (ne_of_none ha3 nD2)]; exact ha3))
      · rintro i z H4 H4' hi rfl ⟨rfl, hz⟩
        obtain ⟨hik, rfl⟩ := lets_get hz
        obtain ⟨s, es⟩ := Option.isSome_iff_exists.mp (List.mem_filter.mp (List.getElem_mem hik)).2
        refine ⟨rfl, _, rfl, _, rfl, _, rfl, r, V.str (Sx s), rfl, .inl ⟨_, Sum.inr (L1 (keysOf u)[i]), .inl (by rw [upd_ne (ne_of_none hr3 nD2)]; exact hr3), rfl, by rw [valV_enc, es]; rfl⟩, _, Sum.inr (L1 (keysOf u)[i]), rfl, upd_same, ?_, ?_⟩
        · rw [encT_len, List.length_map, List.length_take]
          have := keysOf_len u
          exact small1000 (by omega)
        · rw [upd_upd, putK_enc]
          congr 3
          exact ims_succ (keysOf_nd u) hik (by rw [es]; rfl)
      · rintro H4 rfl
        rw [lets_len, List.take_length]
        have hxD2 : x ≠ D2 := ne_of_none hx3 nD2
        have haD2 : a ≠ D2 := ne_of_none ha3 nD2
        have hrD2 : r ≠ D2 := ne_of_none hr3 nD2
        refine ⟨_, rfl, x, CM, dx, f1 a, rfl, by rw [upd_ne hxD2]; exact hx3, T.cl, T.nI, f1_len a, ?_⟩
        have hax : a ≠ x := ne_of ha3 hx3 (fun z => nomatch z)
        have nbH : H D2 = none := by
          cases e : H D2 with
          | none => rfl
          | some o =>
            have e1 := fr3 _ _ e (Ne.symm hxD2)
            rw [e1] at nD2
            cases nD2
        have fr5 : ∀ b o, H b = some o → b ≠ x → upd (upd H3 D2 (.dK (encT (ims u)))) x (.ins CM dx (f2 a D2)) b = some o := fun b o e hb => by
          have e1 := fr3 b o e hb
          rw [upd_ne hb, upd_ne (ne_of_none e1 nD2)]
          exact e1
        have hx5 : upd (upd H3 D2 (.dK (encT (ims u)))) x (.ins CM dx (f2 a D2)) x = some (.ins CM dx (f2 a D2)) := upd_same
        have ha5 : upd (upd H3 D2 (.dK (encT (ims u)))) x (.ins CM dx (f2 a D2)) a = some (.tup (lets (keysOf u))) := by rw [upd_ne hax, upd_ne haD2]; exact ha3
        have hr5 : upd (upd H3 D2 (.dK (encT (ims u)))) x (.ins CM dx (f2 a D2)) r = some (.dK (encT u)) := by rw [upd_ne hrx, upd_ne hrD2]; exact hr3
        have hd5 : upd (upd H3 D2 (.dK (encT (ims u)))) x (.ins CM dx (f2 a D2)) D2 = some (.dK (encT (ims u))) := by rw [upd_ne (Ne.symm hxD2), upd_same]
        show Ends.nx _ _ (upd (upd H3 D2 (.dK (encT (ims u)))) x (.ins CM dx (f2 a D2)))
        generalize upd (upd H3 D2 (.dK (encT (ims u)))) x (.ins CM dx (f2 a D2)) = H5 at fr5 hx5 ha5 hr5 hd5 ⊢
        -- self.changed
        refine ⟨_, rfl, x, CM, dx, _, _, rfl, hx5, T.cl, T.nL, f2_L a D2, a, rfl, ⟨_, .inl (.inl ha5)⟩, fun D3 nD3 => lc_it (walk_tup (K := K) (a := a) (xs := lets (keysOf u))) (fun i H6 => H6 = upd H5 D3 (.lst (lets (((keysOf u).take i).filter fun c => decide (lookT u c ≠ some [c]))))) rfl ?_ ?_ ?_⟩
        · rintro i H6 hi rfl
          exact .inl (.inl (by rw [upd_ne (ne_of_none ha5 nD3)]; exact ha5))
        · rintro i z H6 H6' hi rfl ⟨rfl, hz⟩
          obtain ⟨hik, rfl⟩ := lets_get hz
          obtain ⟨s, es⟩ := Option.isSome_iff_exists.mp (List.mem_filter.mp (List.getElem_mem hik)).2
          refine ⟨rfl, _, rfl, _, rfl, r, V.str (Sx s), rfl, .inl ⟨_, Sum.inr (L1 (keysOf u)[i]), .inl (by rw [upd_ne (ne_of_none hr5 nD3)]; exact hr5), rfl, by rw [valV_enc, es]; rfl⟩, _, rfl, rfl, _, rfl, ?_⟩
          have hs := chg_succ (u := u) hik
          by_cases e : s = [(keysOf u)[i]]
          · have e1 : lookT u (keysOf u)[i] = some [(keysOf u)[i]] := by rw [es, e]
            rw [if_neg (by simp [e1]), List.append_nil] at hs
            rw [decide_eq_true (show V.str (Sx s) = V.str (L1 (keysOf u)[i]) by rw [e]; rfl)]
            refine iteF ?_
            rw [hs]
          · have e1 : ¬ lookT u (keysOf u)[i] = some [(keysOf u)[i]] := by
              rw [es]
              exact fun z => e (Option.some.inj z)
            rw [if_pos (by simpa using e1)] at hs
            rw [decide_eq_false (show ¬ V.str (Sx s) = V.str (L1 (keysOf u)[i]) from fun z => e (Sx_inj (V.str.inj z)))]
            refine iteT ?_
            refine ⟨_, rfl, _, upd_same, ?_, ?_⟩
            · rw [lets_len]
              have h1 := List.length_filter_le (fun c => decide (lookT u c ≠ some [c])) ((keysOf u).take i)
              have h2 := keysOf_len u
              have h3 : ((keysOf u).take i).length ≤ (keysOf u).length := by rw [List.length_take]; omega
              exact small1000 (by omega)
            · rw [upd_upd, hs, lets_snoc]
        · rintro H6 rfl
          rw [lets_len, List.take_length]
          refine ⟨D3, _, rfl, .inl ⟨SqL.of upd_same, fun c nc => ?_⟩⟩
          have hxD3 : x ≠ D3 := ne_of_none hx5 nD3
          have up : ∀ b o, H5 b = some o → upd (upd H5 D3 (.lst (lets (chg u)))) c (.tup (lets (chg u))) b = some o := fun b o e => by
            have hb := ne_of_none e nD3
            rw [upd_ne (ne_of_none (H := upd H5 D3 (.lst (lets (chg u)))) (o := o) (by rw [upd_ne hb]; exact e) nc), upd_ne hb]
            exact e
          have hxc : x ≠ c := ne_of_none (H := upd H5 D3 (.lst (lets (chg u)))) (o := .ins CM dx (f2 a D2)) (by rw [upd_ne hxD3]; exact hx5) nc
          refine ⟨_, rfl, x, CM, dx, f2 a D2, rfl, up _ _ hx5, T.cl, T.nC, f2_len a D2, ?_⟩
          have ncH : H c = none := by
            have nc' : upd H5 D3 (.lst (lets (chg u))) c = none := nc
            cases e : H c with
            | none => rfl
            | some o =>
              have e3 := fr5 _ _ e (Ne.symm hxc)
              have e2 : upd H5 D3 (.lst (lets (chg u))) c = some o := by
                rw [upd_ne (ne_of_none e3 nD3)]
                exact e3
              rw [e2] at nc'
              cases nc'
          have hD2x : D2 ≠ x := ne_of hd5 hx5 (fun z => nomatch z)
          refine q _ ⟨dx, a, D2, c, upd_same, ?_, ?_, ?_, naH, nbH, ncH⟩ fun b o e hb => ?_
          · rw [upd_ne hax]
            exact up _ _ ha5
          · rw [upd_ne hD2x]
            exact up _ _ hd5
          · rw [upd_ne (Ne.symm hxc)]
            exact upd_same
          · rw [upd_ne hb]
            exact up _ _ (fr5 b o e hb)
end
end V8
set_option Elab.async false
set_option linter.all false
set_option maxRecDepth 100000
set_option maxHeartbeats 8000000
/-! Misreading: in, len, iteration, [ ]. -/
namespace V8
open PySem PySem.Spec PyProof.Rows L2
theorem lookT_map (f : Nat → List Nat) (c : Nat) : ∀ ks : List Nat, lookT (ks.map fun c => (c, f c)) c = if c ∈ ks then some (f c) else none
  | [] => by rw [if_neg List.not_mem_nil]; rfl
  | k :: ks => by
    have ih := lookT_map f c ks
    unfold lookT at ih ⊢
    rw [List.map_cons, List.find?_cons]
    by_cases h : k = c
    · subst h
      simp
    · simp only [h, decide_false]
      have e : (c ∈ k :: ks) ↔ c ∈ ks := by
        simp [Ne.symm h]
      rw [ih]
      by_cases h2 : c ∈ ks
      · rw [if_pos h2, if_pos (e.mpr h2)]
      · rw [if_neg h2, if_neg (fun z => h2 (e.mp z))]
theorem look_ims (u : Tab) (c : Nat) : lookT (ims u) c = if c ∈ keysOf u then some ((lookT u c).getD []) else none := lookT_map _ c _
theorem keysOf_mem {u : Tab} {c : Nat} : c ∈ keysOf u ↔ c ∈ abc ∧ (lookT u c).isSome = true := List.mem_filter
theorem look_ims_some {u : Tab} {c : Nat} (h : c ∈ keysOf u) : lookT (ims u) c = lookT u c := by
  rw [look_ims, if_pos h]
  obtain ⟨s, e⟩ := Option.isSome_iff_exists.mp (keysOf_mem.mp h).2
  rw [e]
  rfl
structure Ty (K : PySem.W.Frag) (mg : Str → Option Value) (CM CJ : Addr) : Prop extends Tx K mg CM CJ where
  mM : PySem.W.kitOne K (.ref CM) (.ref CM) = some true
  MJ : PySem.W.kitOne K (.ref CM) (.ref CJ) = some false
  Ms : PySem.W.kitOne K (.ref CM) (.type "str") = some false
  ls : PySem.W.kitOne K (.type "list") (.type "str") = some false
def spGet (CM : Addr) : Sp := fun vs H Q _ => ∃ (x : Addr) (u : Tab) (c : Nat) (s : List Nat), vs = [.ref x, .str (L1 c)] ∧ MisAt CM H x u ∧ c ∈ keysOf u ∧ lookT u c = some s ∧ Q (.str (Sx s)) H
def snIter (CM : Addr) : Nat → Sp := fun n vs H Q _ => ∃ (x : Addr) (u : Tab), vs = [.ref x] ∧ MisAt CM H x u ∧ ∀ it a, H it = none → n ≤ it → H a = some (.tup (lets (keysOf u))) → Q (.ref it) (upd H it (ItT a it))
section
variable {P : Program} {w : World} {K : PySem.W.Frag} {mg : Str → Option Value} {base : Heap} {CM CJ : Addr}
theorem ok_get {f : Addr} {fd : FuncData} (F : Fun K "__getitem__" "Misreading.__getitem__" s_Misreading_getitem f fd) (T : Tx K mg CM CJ) (D_is_letter : Df P w K mg base 1 "is_letter" (spIsLetter K)) : FnOk P w K mg base CX0 2 f fd ["self", "at"] (spGet CM) := by
  refine F.ok sc_Misreading_getitem (fun vs H Q E h => ?_) (fun cdv A outer s H vs Q E hr h => ?_)
  · obtain ⟨x, u, c, z, rfl, _⟩ := h
    rfl
  · obtain ⟨x, u, c, z, rfl, ⟨dx, a, b, c', hx, ha, hb, hc⟩, hm, hl, q⟩ := h
    refine ⟨_, (pss_cons (ps_if (pt_not (pt_val (pe_c D_is_letter hr (by decide) (by rfl) (pa_cons (pv 1) pa_nil))))
        (pss_one ps_never)
        pss_nil)
      (pss_cons (ps_if (pt_cmp (pc_dnotin (hu_of hr) (pv 1) (pe_fldK (K := K) rfl (pv 0) rfl)))
        (pss_one ps_never)
        pss_nil)
      (pss_one (ps_ret (pe_dget (hu_of hr) (pe_fldK (K := K) rfl (pv 0) rfl) (pv 1) (fun _ _ => rfl)))))), ?_⟩
    refine ⟨_, rfl, _, rfl, .inl ⟨c, rfl, ?_⟩⟩
    rw [decide_eq_true (keysOf_mem.mp hm).1]
    refine ⟨true, rfl, iteF ?_⟩
    refine ⟨_, rfl, _, rfl, x, CM, dx, _, _, rfl, hx, T.cl, T.nI, f3_I a b c', b, _, rfl, DGet.k (k := Sum.inr (L1 c)) hb, _, rfl, ?_⟩
    rw [valV_enc, Option.isSome_map, look_ims_some hm, hl]
    refine iteF ?_
    refine ⟨_, rfl, x, CM, dx, _, _, rfl, hx, T.cl, T.nI, f3_I a b c', _, rfl, b, V.str (Sx z), rfl, .inl ⟨_, Sum.inr (L1 c), .inl hb, rfl, by rw [valV_enc, look_ims_some hm, hl]; rfl⟩, ?_⟩
    exact q
end
end V8
set_option Elab.async false
set_option linter.all false
set_option maxRecDepth 100000
set_option maxHeartbeats 8000000
/-! Misreading: iteration, ==, str. -/
namespace V8
open PySem PySem.Spec PyProof.Rows L2
/-- the same images -/
def eqM (u v : Tab) : Prop := ∀ c ∈ abc, lookT u c = lookT v c
instance (u v : Tab) : Decidable (eqM u v) := inferInstanceAs (Decidable (∀ c ∈ abc, lookT u c = lookT v c))
section
variable {P : Program} {w : World} {K : PySem.W.Frag} {mg : Str → Option Value} {base : Heap} {CM CJ : Addr}
theorem ok_iter {f : Addr} {fd : FuncData} (F : Fun K "__iter__" "Misreading.__iter__" s_Misreading_iter f fd) (T : Tx K mg CM CJ) : FnN P w K mg base CX0 1 f fd ["self"] (snIter CM) := by
  refine fnN_mk F sc_Misreading_iter (fun n vs H Q E h => ?_) (fun cdv A outer s H vs Q E hr h => ?_)
  · obtain ⟨x, u, rfl, _⟩ := h
    rfl
  · obtain ⟨x, u, rfl, ⟨dx, a, b, c, hx, ha, hb, hc⟩, q⟩ := h
    refine ⟨_, (pss_one (ps_ret (pe_callB call_iterT (by rfl) T.iter (by decide +kernel) (pa_cons (pe_fldK (K := K) rfl (pv 0) rfl) pa_nil)))), ?_⟩
    refine ⟨_, rfl, x, CM, dx, _, _, rfl, hx, T.cl, T.nL, f3_L a b c, a, _, rfl, .inl (.inl ha), fun it ni hi => ?_⟩
    exact q it a ni hi ha
end
end V8
set_option Elab.async false
set_option linter.all false
set_option maxRecDepth 100000
set_option maxHeartbeats 8000000
/-! The pen made; what is due. -/
namespace V8
open PySem PySem.Spec PyProof.Rows L2
def spPen (K : PySem.W.Frag) : Sp := fun vs H Q _ => ∃ (a : Addr) (ns : List Int), vs = [.ref a] ∧ SqL K H a (ns.map V.int) ∧ ns.length ≤ 63 ∧ ∀ (p l : Addr) (H' : Hp), H p = none → Same H H' → PenAt H' p l ns 1000000 → Q (.ref p) H'
section
variable {P : Program} {w : World} {K : PySem.W.Frag} {mg : Str → Option Value} {base : Heap} {CM CJ : Addr}
theorem ok_pen {f : Addr} {fd : FuncData} (F : Fun K "_law_pen" "_law_pen" s_pen f fd) (T : Blt mg) : FnOk P w K mg base CX0 1 f fd ["_law_script"] (spPen K) := by
  refine F.ok sc_pen (fun vs H Q E h => ?_) (fun cdv A outer s H vs Q E hr h => ?_)
  · obtain ⟨a, ns, rfl, _⟩ := h
    rfl
  · obtain ⟨a, ns, rfl, hS, hn, q⟩ := h
    refine ⟨_, (pss_one (ps_ret (pe_lst (pa_cons (pe_callTy (call_list_ofK (K := K) rfl) (by rfl) T.list (by decide +kernel) (pa_cons (pe_slice (sl_listK (K := K) rfl) (pv 0) po_none (po_some pe_int)) pa_nil)) (pa_cons pe_int (pa_cons pe_int pa_nil)))))), ?_⟩
    refine ⟨_, rfl, 63, rfl, a, ns.map V.int, rfl, hS, fun l1 n1 => ?_⟩
    have hc : cutV (ns.map V.int) none (some 63) = ns.map V.int := by
      have e : HT.sIx (ns.map V.int).length (ns.map V.int).length (some 63) = (ns.map V.int).length := by
        show HT.sIx _ _ (some ((63 : Nat) : Int)) = _
        rw [HT.sIx_nat, List.length_map]
        omega
      unfold cutV
      rw [HT.sIx_none, List.drop_zero, e]
      exact List.take_of_length_le (Nat.le_refl _)
    rw [hc]
    refine ⟨l1, ns.map V.int, rfl, .inl (SqL.of upd_same), fun l n2 => ⟨by show 3 ≤ sizeLine; decide, fun p n3 => ?_⟩⟩
    have h1 : l1 ≠ l := ne_of_none upd_same n2
    have hl : l ≠ p := ne_of_none upd_same n3
    have n2H : upd H l1 (.lst (ns.map V.int)) l = none := n2
    have sm : Same H (upd (upd (upd H l1 (.lst (ns.map V.int))) l (.lst (ns.map V.int))) p (.lst [.ref l, .int 0, .int 0])) := fun b o e => by
      have b1 := ne_of_none e n1
      have e1 : upd H l1 (.lst (ns.map V.int)) b = some o := by rw [upd_ne b1]; exact e
      have b2 := ne_of_none e1 n2
      have e2 : upd (upd H l1 (.lst (ns.map V.int))) l (.lst (ns.map V.int)) b = some o := by rw [upd_ne b2]; exact e1
      rw [upd_ne (ne_of_none e2 n3)]
      exact e2
    refine q p l _ ?_ sm ⟨⟨0, 0, upd_same, by omega, by omega, by omega⟩, by rw [upd_ne hl]; exact upd_same, hl, hn⟩
    cases e : H p with
    | none => rfl
    | some o =>
      have b1 := ne_of_none e n1
      have e1 : upd H l1 (.lst (ns.map V.int)) p = some o := by rw [upd_ne b1]; exact e
      have b2 := ne_of_none e1 n2
      rw [upd_ne b2, e1] at n3
      cases n3
end
end V8
set_option Elab.async false
set_option linter.all false
set_option maxRecDepth 100000
set_option maxHeartbeats 8000000
/-! Misreadings made by the class's name; same. -/
namespace V8
open PySem PySem.Spec PyProof.Rows L2
def mkR (CM : Addr) : List V → Hp → VK → Prop := fun vs H Q => ∃ (d : Addr) (cs st : List Nat) (t : Tab), vs = [.ref d, .str (Sx st)] ∧ H d = some (.dK (encT t)) ∧ GoodT cs t ∧ ((toldT st t).length ≤ 12 ∧ cs.length ≤ 26) ∧ (∀ c ∈ cs, isLt c) ∧ (∀ c ∈ st, c ∈ cs) ∧ st.length ≤ 500 ∧
  ∀ x H', H x = none → MisN CM H H' x (toldT st t) → Same H H' → Q (.ref x) H'
theorem misn_of {C : Addr} {H H' : Hp} {x dx : Addr} {u : Tab} {o o' : HO} (m : MisN C (upd (upd H dx o) x o') H' x u) (hx : H x = none) (hdx : H dx = none) : MisN C H H' x u := by
  obtain ⟨ex, a, b, c, h1, h2, h3, h4, n1, n2, n3⟩ := m.at_
  have back : ∀ b, upd (upd H dx o) x o' b = none → H b = none := fun b n => by
    cases e : H b with
    | none => rfl
    | some z =>
      rw [upd_ne (ne_of_none e hx), upd_ne (ne_of_none e hdx), e] at n
      cases n
  exact ⟨ex, a, b, c, h1, h2, h3, h4, back _ n1, back _ n2, back _ n3⟩
theorem mk_of {CM : Addr} {vs : List V} {H : Hp} {Q : VK} {E : XK} (h : mkR CM vs H Q) : ∀ x dx, H x = none → H dx = none → dx ≠ x → spInit CM (.ref x :: vs) (upd (upd H dx (.own x)) x (.ins CM dx [])) (fun v H2 => v = .non ∧ Q (.ref x) H2) E := by
  obtain ⟨d, cs, st, t, rfl, hd, G, h12, hlt, hst, hs5, q⟩ := h
  intro x dx hx hdx ne
  have hd2 : upd (upd H dx (.own x)) x (.ins CM dx []) d = some (.dK (encT t)) := by
    rw [upd_ne (ne_of_none hd hx), upd_ne (ne_of_none hd hdx)]
    exact hd
  refine ⟨x, dx, d, cs, st, t, rfl, upd_same, hd2, G, h12, hlt, hst, hs5, fun H' m fr => ⟨rfl, q x H' hx (misn_of m hx hdx) fun b o e => ?_⟩⟩
  have bx := ne_of_none e hx
  refine fr b o ?_ bx
  rw [upd_ne bx, upd_ne (ne_of_none e hdx)]
  exact e
def pI : List Str := ["self", "images", "keeps"]
/-- the class by its name -/
structure Mkr (P : Program) (w : World) (K : PySem.W.Frag) (mg : Str → Option Value) (base : Heap) (CM : Addr) : Prop where
  ex : ∃ (f : Addr) (fd : FuncData), Mk K CM f ∧ FnOk P w K mg base CX0 5 f fd pI (spInit CM) ∧ mg "Misreading" = some (.ref CM) ∧ Binds K fd pI [] ∧ (∃ ds, Vals [.str (Sx [])] ds ∧ Binds K fd pI ds) ∧
    KBn K fd pI 1 ["keeps", "images"] (fun us ws => us ++ ws.reverse) (fun vs zs => vs ++ zs.reverse) ∧ (∃ its : List Value, KBn K fd pI 1 ["images"] (fun us ws => us ++ ws ++ its) (fun vs zs => vs ++ zs ++ [.str (Sx [])])) ∧
    KBn K fd pI 2 ["keeps"] (fun us ws => us ++ ws) (fun vs zs => vs ++ zs)
def tMk1 (CM : Addr) (t : TA) : TE := fun σ H Q => t σ H fun vs H1 => mkR CM (vs ++ [.str (Sx [])]) H1 Q
section
variable {X : Cx} {j : Nat} {CM : Addr} {p pos : Pos} {e : Expr} {es : List Expr} {kws : List Keyword} {t tk : TA}
theorem pe_mk1 (M : Mkr X.prog X.w X.K X.mg X.base CM) (hr : Room j X.A) (hj : 6 ≤ j) (hg : Gl X "Misreading") (ha : PA X (e :: es) t) (he : starEach (e :: es) X.env = (false, eval e X.env) :: starEach es X.env := by rfl) (hpl : (backTo pos (starEach es X.env)).any (·.1) = false := by rfl) :
    PE X (.Call (.Name "Misreading" p) (e :: es) [] pos) (tMk1 CM t) := by
  obtain ⟨f, fd, M, F, hm, b0, ⟨ds, hd, b1⟩, k2, k1, k11⟩ := M.ex
  refine ⟨fun pins s σ H Q I h => ?_⟩
  refine wpAny_Call_Name_kw (ld_glob I hg hm ?_ (by decide))
  refine PySem.W.callWith_K (h₀ := X.base) I.ok.mod.kin M.kp (thn (ha.run pos pins s σ H _ I h) fun us s1 ⟨vs, H1, I1, r, q⟩ => ⟨I1.kIn, ?_⟩) he hpl
  exact run_make M F (hr.mono hj) b1 hd pass0 I1 r (mk_of q)
end
theorem vals_rev : ∀ {xs : List V} {us : List Value}, Vals xs us → Vals xs.reverse us.reverse
  | _, _, .nil => .nil
  | _, _, .cons h r => by
    rw [List.reverse_cons, List.reverse_cons]
    exact (vals_rev r).append (.cons h .nil)
/-- what K holds of the def, as the rules above want it -/
theorem mkr_of {P : Program} {w : World} {K : PySem.W.Frag} {mg : Str → Option Value} {base : Heap} {CM CJ f : Addr} {fd : FuncData} (F : FunD K "__init__" "Misreading.__init__" (defArgs s_Misreading_init) (defBody s_Misreading_init) (defScope s_Misreading_init) [.str (Sx [])] [] f fd) (T : Tx K mg CM CJ)
    (D_told_images : Df P w K mg base 4 "told_images" spTold) (M : Mk K CM f) (hm : mg "Misreading" = some (.ref CM)) : Mkr P w K mg base CM := by
  refine ⟨f, fd, M, ok_init F T D_told_images, hm, ?_, ?_, ?_, ?_, ?_⟩
  · obtain ⟨ds, h1, h2⟩ := F.binds1 (ps := pI) 3 1 (fun z => nomatch z) rfl (fun T kV doc pm an cdv ct us its h1 h2 => match us, its, h1, h2 with | [_, _, _], [_], _, _ => ⟨_, rfl, rfl⟩)
    cases h1
    exact h2
  · obtain ⟨ds, h1, h2⟩ := F.binds1 (ps := pI) 2 0 (fun z => nomatch z) rfl (fun T kV doc pm an cdv ct us its h1 h2 => match us, its, h1, h2 with | [_, _], [_], _, _ => ⟨_, rfl, rfl⟩)
    exact ⟨ds, h1, h2⟩
  · obtain ⟨its, h⟩ := F.kbindsD (ps := pI) 1 ["keeps", "images"] (fun us _ ws => us ++ ws.reverse) (fun z => nomatch z) (fun r1 _ r3 => r1.append (vals_rev r3)) (fun T kV doc pm an cdv ct us its ws h1 h2 h3 => match us, its, ws, h1, h2, h3 with | [_], [_], [_, _], _, _, _ => ⟨_, rfl, rfl⟩)
    exact h
  · obtain ⟨its, h⟩ := F.kbindsD (ps := pI) 1 ["images"] (fun us ds ws => us ++ ws ++ ds) (fun z => nomatch z) (fun r1 r2 r3 => (r1.append r3).append r2) (fun T kV doc pm an cdv ct us its ws h1 h2 h3 => match us, its, ws, h1, h2, h3 with | [_], [_], [_], _, _, _ => ⟨_, rfl, rfl⟩)
    exact ⟨its, h⟩
  · obtain ⟨its, h⟩ := F.kbindsD (ps := pI) 2 ["keeps"] (fun us _ ws => us ++ ws) (fun z => nomatch z) (fun r1 _ r3 => r1.append r3) (fun T kV doc pm an cdv ct us its ws h1 h2 h3 => match us, its, ws, h1, h2, h3 with | [_, _], [_], [_], _, _, _ => ⟨_, rfl, rfl⟩)
    exact h
end V8
set_option Elab.async false
set_option linter.all false
set_option maxRecDepth 100000
set_option maxHeartbeats 16000000
/-! Helps: lists compared, lists gathered, an own class iterated. -/
namespace V8
open PySem PySem.Spec PyProof.Rows L2
theorem dp_map {K : PySem.W.Frag} {H : Hp} {α : Type} (f : α → V) (g : α → PyData) (h : ∀ a, Dp K H (f a) (g a)) : ∀ l : List α, DpAll K H (l.map f) (l.map g)
  | [] => .nil
  | a :: r => .cons (h a) (dp_map f g h r)
theorem lay_map {α : Type} (g : α → PyData) : ∀ l : List α, (∀ a ∈ l, (g a).canLay0 = true) → PyData.canLayAll0 (l.map g) = true
  | [], _ => by simp [PyData.canLayAll0]
  | a :: r, h => by
    have ih := lay_map g r fun x hx => h x (List.mem_cons_of_mem _ hx)
    simp only [List.map_cons, PyData.canLayAll0, h a (List.mem_cons_self ..), Bool.true_and]
    exact ih
theorem depth_map {α : Type} (g : α → PyData) (h : ∀ a, (g a).depth = 0) : ∀ l : List α, PyData.depthAll (l.map g) = 0
  | [] => by simp [PyData.depthAll]
  | a :: r => by
    have ih := depth_map g h r
    simp only [List.map_cons, PyData.depthAll, h a]
    omega
theorem shaped_map {α : Type} (g : α → PyData) (l : List α) (h1 : ∀ a ∈ l, (g a).canLay0 = true) (h2 : ∀ a, (g a).depth = 0) : SeqAt.shaped (.list (l.map g)) = true := by
  have h3 : PyData.depth (.list (l.map g)) ≤ 64 := by
    simp only [PyData.depth, depth_map g h2]
    omega
  show (PyData.canLay0 (.list (l.map g)) && decide (PyData.depth (.list (l.map g)) ≤ 64)) = true
  rw [Bool.and_eq_true]
  exact ⟨by simp only [PyData.canLay0]; exact lay_map g l h1, decide_eq_true h3⟩
section
variable {K : PySem.W.Frag} {H : Hp} {a b : Addr} {Q : VK} {CM : Addr} {u : Tab}
theorem same_put {H H' : Hp} {D : Addr} {o : HO} (s : Same H H') (n : H' D = none) : Same H (upd H' D o) := fun b u e => by
  rw [upd_ne (ne_of_none (s b u e) n)]
  exact s b u e
theorem same_over {H H' : Hp} {D : Addr} {o : HO} (s : Same H H') (n : H D = none) : Same H (upd H' D o) := fun b u e => by
  rw [upd_ne (ne_of_none e n)]
  exact s b u e
theorem same_none {H H' : Hp} {D : Addr} (s : Same H H') (n : H' D = none) : H D = none := by
  cases e : H D with
  | none => rfl
  | some o =>
    rw [s _ _ e] at n
    cases n
theorem MisAt.same {C : Addr} {H H' : Hp} {x : Addr} {u : Tab} (m : MisAt C H x u) (s : Same H H') : MisAt C H' x u := m.mono fun b o e _ => s b o e
theorem dropH_upd {H : Hp} {it : Addr} {o : HO} (n : H it = none) : ItX.dropH (upd H it o) it = H := by
  funext b
  unfold ItX.dropH
  by_cases h : b = it
  · rw [if_pos h, h, n]
  · rw [if_neg h, upd_ne h]
end
end V8
set_option Elab.async false
set_option linter.all false
set_option maxRecDepth 100000
set_option maxHeartbeats 8000000
/-! Misreading: str. -/
namespace V8
open PySem PySem.Spec PyProof.Rows L2
theorem sx_add (a b : List Nat) : Sx a ++ Sx b = Sx (a ++ b) := by
  show (Str.mk (a.toArray ++ b.toArray)) = Str.mk _
  rw [List.append_toArray]
theorem colon : (":" : Str) = Sx [58] := by decide +kernel
theorem emp : Str.empty = Sx [] := rfl
def wordM (c : Nat) (s : List Nat) : Str := Sx (c :: 58 :: s)
def wordsM (u : Tab) (ks : List Nat) : List Str := ks.map fun c => wordM c ((lookT u c).getD [])
def strM (u : Tab) : Str := if keysOf u = [] then "-" else Txt.join " " (wordsM u (keysOf u))
def SmallT (u : Tab) : Prop := ∀ c s, lookT u c = some s → s.length ≤ 64
def spStr (CM : Addr) : Sp := fun vs H Q _ => ∃ (x : Addr) (u : Tab), vs = [.ref x] ∧ MisAt CM H x u ∧ SmallT u ∧ ∀ H', Same H H' → Q (.str (strM u)) H'
theorem sum_le (f : Str → Nat) (k : Nat) : ∀ l : List Str, (∀ x ∈ l, f x ≤ k) → (l.map f).sum ≤ k * l.length
  | [], _ => Nat.le_refl _
  | a :: r, h => by
    rw [List.map_cons, List.sum_cons, List.length_cons]
    have h1 := h a (List.mem_cons_self ..)
    have h2 := sum_le f k r fun x hx => h x (List.mem_cons_of_mem _ hx)
    rw [Nat.mul_succ]
    omega
theorem lets_isEmpty (cs : List Nat) : (lets cs).isEmpty = cs.isEmpty := by cases cs <;> rfl
section
variable {P : Program} {w : World} {K : PySem.W.Frag} {mg : Str → Option Value} {base : Heap} {CM CJ : Addr}
theorem ok_str {f : Addr} {fd : FuncData} (F : Fun K "__str__" "Misreading.__str__" s_Misreading_str f fd) (T : Ty K mg CM CJ) : FnOk P w K mg base CX0 1 f fd ["self"] (spStr CM) := by
  refine F.ok sc_Misreading_str (fun vs H Q E h => ?_) (fun cdv A outer s H vs Q E hr h => ?_)
  · obtain ⟨x, u, rfl, _⟩ := h
    rfl
  · obtain ⟨x, u, rfl, ⟨dx, a, b, c', hx, ha, hb, hc⟩, sm, q⟩ := h
    refine ⟨_, (pss_cons (ps_if (pt_not (pt_truth (pe_fldK (K := K) rfl (pv 0) rfl) (by intro _; rfl)))
        (pss_one (ps_ret pe_str))
        pss_nil)
      (pss_one (ps_ret (pe_joinK (K := K) rfl pe_str (pe_lc (own := [("letter", 1)]) (g := gName 1) (by rfl) sc_Misreading_str.nd (pi_tup (pe_fldK (K := K) rfl (pv 0) rfl)) (blkOk_by (own := [("letter", 1)]) (N := n_Misreading_str) (sc := defScope s_Misreading_str) (by decide +kernel)) (fun _ _ _ _ _ => (pg_name (i := 1) sc_Misreading_str.nd rfl (.inl rfl))) (fun _ _ _ _ _ => pts_nil) (fun _ _ _ _ _ => (pe_joinedT (pj_cons (pe_fmt (pv 1)) (pj_cons pe_str (pj_cons (pe_fmt (pe_dget (hu_of hr) (pe_fldK (K := K) rfl (pv 0) rfl) (pv 1) (fun _ _ => rfl))) pj_nil)))))))))), ?_⟩
    refine ⟨_, rfl, x, CM, dx, _, _, rfl, hx, T.cl, T.nL, f3_L a b c', _, .inr (.inl ⟨_, .inl (.inl ha), rfl⟩), ?_⟩
    rw [lets_isEmpty]
    by_cases e : keysOf u = []
    · have es : strM u = "-" := if_pos e
      rw [e]
      refine iteT ?_
      show Q (V.str "-") H
      rw [← es]
      exact q H (Same.refl H)
    · have es : strM u = Txt.join " " (wordsM u (keysOf u)) := if_neg e
      have ee : (keysOf u).isEmpty = false := by
        cases h : keysOf u with
        | nil => exact absurd h e
        | cons a r => rfl
      rw [ee]
      refine iteF ?_
      refine ⟨⟨_, rfl⟩, _, rfl, x, CM, dx, _, _, rfl, hx, T.cl, T.nL, f3_L a b c', a, rfl, ⟨_, .inl (.inl ha)⟩, fun D nD => lc_it (walk_tup (K := K) (a := a) (xs := lets (keysOf u))) (fun i H2 => H2 = upd H D (.lst ((wordsM u ((keysOf u).take i)).map V.str))) rfl ?_ ?_ ?_⟩
      · rintro i H2 hi rfl
        exact .inl (.inl (by rw [upd_ne (ne_of_none ha nD)]; exact ha))
      · rintro i z H2 H2' hi rfl ⟨rfl, hz⟩
        obtain ⟨hik, rfl⟩ := lets_get hz
        obtain ⟨s2, e2⟩ := Option.isSome_iff_exists.mp (List.mem_filter.mp (List.getElem_mem hik)).2
        have hx2 : upd H D (.lst ((wordsM u ((keysOf u).take i)).map V.str)) x = some (.ins CM dx (f3 a b c')) := by rw [upd_ne (ne_of_none hx nD)]; exact hx
        have hb2 : upd H D (.lst ((wordsM u ((keysOf u).take i)).map V.str)) b = some (.dK (encT (ims u))) := by rw [upd_ne (ne_of_none hb nD)]; exact hb
        have s64 := sm _ _ e2
        have l1 : (Str.empty ++ L1 (keysOf u)[i]) = Sx [(keysOf u)[i]] := by rw [emp, L1_Sx, sx_add]; rfl
        have l2 : ((Str.empty ++ L1 (keysOf u)[i]) ++ (":" : Str)) = Sx [(keysOf u)[i], 58] := by rw [l1, colon, sx_add]; rfl
        have l3 : (((Str.empty ++ L1 (keysOf u)[i]) ++ (":" : Str)) ++ Sx s2) = wordM (keysOf u)[i] s2 := by rw [l2, sx_add]; rfl
        refine ⟨rfl, _, rfl, .inl ⟨L1 (keysOf u)[i], rfl, by show 1 ≤ sizeLine; decide, L1 (keysOf u)[i], rfl, ?_, _, rfl, ?_, ?_⟩⟩
        · rw [l1]
          show 1 ≤ sizeLine
          decide
        · rw [l2]
          show 2 ≤ sizeLine
          decide
        · refine ⟨_, rfl, x, CM, dx, _, _, rfl, hx2, T.cl, T.nI, f3_I a b c', _, rfl, b, V.str (Sx s2), rfl, .inl ⟨_, Sum.inr (L1 (keysOf u)[i]), .inl hb2, rfl, by rw [valV_enc, look_ims_some (List.getElem_mem hik), e2]; rfl⟩, .inl ⟨Sx s2, rfl, ?_, Sx s2, rfl, ?_, _, upd_same, ?_, ?_⟩⟩
          · rw [Sx_len]
            exact Nat.le_of_lt (small1000 (by omega))
          · rw [l3]
            show (Sx _).length ≤ _
            rw [Sx_len, List.length_cons, List.length_cons]
            exact Nat.le_of_lt (small1000 (by omega))
          · rw [List.length_map]
            unfold wordsM
            rw [List.length_map, List.length_take]
            have := keysOf_len u
            exact small1000 (by omega)
          · rw [upd_upd, l3]
            congr 2
            unfold wordsM
            rw [List.take_add_one, List.getElem?_eq_getElem hik, List.map_append, List.map_append]
            show _ ++ [V.str (wordM (keysOf u)[i] s2)] = _ ++ [V.str (wordM (keysOf u)[i] ((lookT u (keysOf u)[i]).getD []))]
            rw [e2]
            rfl
      · rintro H2 rfl
        rw [lets_len, List.take_length]
        refine ⟨_, D, wordsM u (keysOf u), rfl, rfl, .inl (SqL.of upd_same), ?_, ?_⟩
        · have hk := keysOf_len u
          have h1 : ((wordsM u (keysOf u)).map fun x => x.length).sum ≤ _ := sum_le (fun x => x.length) 66 (wordsM u (keysOf u)) fun x hx => by
            obtain ⟨c, hc, rfl⟩ := List.mem_map.mp hx
            obtain ⟨s2, e2⟩ := Option.isSome_iff_exists.mp (keysOf_mem.mp hc).2
            rw [e2]
            show (Sx _).length ≤ _
            rw [Sx_len, List.length_cons, List.length_cons]
            have := sm _ _ e2
            show s2.length + 1 + 1 ≤ _
            omega
          have h2 : (wordsM u (keysOf u)).length = (keysOf u).length := List.length_map ..
          rw [h2] at h1 ⊢
          show _ + _ * 1 ≤ _
          have h3 : 66 * (keysOf u).length ≤ 66 * 26 := Nat.mul_le_mul_left _ hk
          omega
        · rw [← es]
          exact q _ fun b o e => by
            rw [upd_ne (ne_of_none e nD)]
            exact e
end
end V8
set_option Elab.async false
set_option linter.all false
set_option maxRecDepth 100000
set_option maxHeartbeats 16000000
/-! Whether a misreading is right. -/
namespace V8
open PySem PySem.Spec PyProof.Rows L2
theorem ok_sx {cs : List Nat} (h : ∀ c ∈ cs, isLt c) : PyData.strOk (Sx cs) = true := by
  have e : (Sx cs).cps = cs.toArray := rfl
  unfold PyData.strOk
  rw [e, List.all_toArray, List.all_eq_true]
  intro c hc
  have := (h c hc).2
  exact decide_eq_true (show c < 0x110000 by omega)
theorem join_Sx : ∀ ss : List (List Nat), Txt.join Str.empty (ss.map Sx) = Sx ss.flatten := by
  intro ss
  rw [TL.join_eq]
  have h : TL.tl (Str.join Str.empty (ss.map Sx)) = ss.flatten := by
    rw [TL.tl_join]
    have : ∀ l : List (List Nat), TL.joinL (TL.tl Str.empty) ((l.map Sx).map TL.tl) = l.flatten := by
      intro l
      induction l with
      | nil => rfl
      | cons c r ih =>
        cases r with
        | nil =>
          show TL.tl (Sx c) = [c].flatten
          simp
          rfl
        | cons d r =>
          show TL.tl (Sx c) ++ (TL.tl Str.empty ++ TL.joinL (TL.tl Str.empty) ((((d :: r).map Sx).map TL.tl))) = _
          rw [ih]
          rfl
    exact this ss
  have e2 : (Str.join Str.empty (ss.map Sx)).cps.toList = ss.flatten := h
  show Str.join Str.empty (ss.map Sx) = Sx _
  unfold Sx at e2 ⊢
  cases hx : Str.join Str.empty (ss.map fun cs => (⟨cs.toArray⟩ : Str)) with
  | mk a =>
    rw [hx] at e2
    have e3 : a.toList = ss.flatten := e2
    rw [← e3]
/-- iteration of the class's own -/
structure ItM (P : Program) (w : World) (K : PySem.W.Frag) (mg : Str → Option Value) (base : Heap) (k : Nat) (C : Addr) (sn : Nat → Sp) : Prop where
  ex : ∃ (f : Addr) (fd : FuncData) (ps : List Str), FnN P w K mg base CX0 k f fd ps sn ∧ Own K C "__iter__" f ∧ Binds K fd ps []
theorem pi_ownI {X : Cx} {k j : Nat} {C : Addr} {sn : Nat → Sp} {tg l : Expr} {tl : TE} (c : ItM X.prog X.w X.K X.mg X.base k C sn) (hr : Room j X.A) (hk : k ≤ j) (hl : PE X l tl) : PI X tg l (iOwn X.K C X.s_0.heap.objs.size sn E0 tl) := by
  obtain ⟨f, fd, ps, F, o, b⟩ := c.ex
  exact pi_own F b pass0 o (hr.mono hk) hl
end V8
set_option Elab.async false
set_option linter.all false
set_option maxRecDepth 100000
set_option maxHeartbeats 16000000
/-! same; whether a misreading is equal to what has the same images, and to nothing else. -/
namespace V8
open PySem PySem.Spec PyProof.Rows L2
/-! ### tables -/
theorem putT_new {t : Tab} {c : Nat} {s : List Nat} (h : c ∉ t.map (·.1)) : putT t c s = t ++ [(c, s)] := by
  unfold putT
  rw [if_neg]
  intro z
  obtain ⟨q, hq, e⟩ := List.any_eq_true.mp z
  have e' : q.1 = c := by simpa using e
  exact h (List.mem_map.mpr ⟨q, hq, e'⟩)
theorem mergeT_app : ∀ {t a : Tab}, ((a ++ t).map (·.1)).Nodup → mergeT a t = a ++ t
  | [], a, _ => by rw [List.append_nil]; rfl
  | q :: t, a, h => by
    have hq : q.1 ∉ a.map (·.1) := by
      rw [List.map_append, List.nodup_append] at h
      intro z
      exact h.2.2 _ z q.1 (by simp) rfl
    show mergeT (putT a q.1 q.2) t = _
    rw [putT_new hq, mergeT_app (t := t) (a := a ++ [(q.1, q.2)])]
    · rw [List.append_assoc]
      rfl
    · rw [List.append_assoc]
      exact h
theorem mergeT_nil {t : Tab} (h : (t.map (·.1)).Nodup) : mergeT [] t = t := mergeT_app (a := []) h
theorem toldT_nil {t : Tab} (h : (t.map (·.1)).Nodup) : toldT [] t = t := mergeT_nil h
def dropT (t : Tab) (c : Nat) : Tab := t.filter fun q => decide (q.1 ≠ c)
theorem GoodT.drop {cs : List Nat} {t : Tab} (g : GoodT cs t) (c : Nat) : GoodT cs (dropT t c) := ⟨(List.filter_sublist.map _).nodup g.nd, fun q h => g.key q (List.mem_filter.mp h).1, fun q h => g.img q (List.mem_filter.mp h).1⟩
theorem enc_inj {a b : Option (List Nat)} (h : a.map (fun s => V.str (Sx s)) = b.map fun s => V.str (Sx s)) : a = b := by
  cases a with
  | none =>
    cases b with
    | none => rfl
    | some y => cases h
  | some x =>
    cases b with
    | none => cases h
    | some y => rw [Sx_inj (V.str.inj (Option.some.inj h))]
theorem look_put (t : Tab) (c : Nat) (s : List Nat) (c' : Nat) : lookT (putT t c s) c' = if c' = c then some s else lookT t c' := by
  have e := valV_put (encT t) (Sum.inr (L1 c)) (Sum.inr (L1 c')) (V.str (Sx s))
  rw [putK_enc, valV_enc, valV_enc] at e
  refine enc_inj ?_
  rw [e]
  by_cases h : c' = c
  · rw [if_pos h, if_pos ((key_iff _ _).mpr h)]
    rfl
  · rw [if_neg h, if_neg fun z => h ((key_iff _ _).mp z)]
theorem pen_same {H H' : Hp} {p l : Addr} {ns : List Int} {n : Nat} (P : PenAt H p l ns n) (s : Same H H') : PenAt H' p l ns n := by
  obtain ⟨⟨a, g, h1, h2, h3, h4⟩, i, e, sh⟩ := P
  exact ⟨⟨a, g, s _ _ h1, h2, h3, h4⟩, s _ _ i, e, sh⟩
section
variable {P : Program} {w : World} {K : PySem.W.Frag} {mg : Str → Option Value} {base : Heap} {CM CJ : Addr}
theorem MisAt.ins {C : Addr} {H : Hp} {x : Addr} {u : Tab} (m : MisAt C H x u) : ∃ dx fs, H x = some (.ins C dx fs) := by
  obtain ⟨dx, a, b, c, h, _⟩ := m.at_
  exact ⟨dx, _, h⟩
end
end V8
set_option Elab.async false
set_option linter.all false
set_option maxRecDepth 100000
set_option maxHeartbeats 8000000
/-! Misreadings as functions from letters to images. -/
namespace V8
open PySem PySem.Spec PyProof.Rows L2
/-! functions from letters to images -/
abbrev Fu := Nat → Option (List Nat)
def imF (f : Fu) : List Nat → Option (List Nat)
  | [] => some []
  | c :: cs => (f c).bind fun a => (imF f cs).map (a ++ ·)
def cF (f g : Fu) : Fu := fun c => (f c).bind (imF g)
/-- over letters cs alone, in images too -/
structure Ovr (cs : List Nat) (f : Fu) : Prop where
  key : ∀ c s, f c = some s → c ∈ cs
  img : ∀ c s, f c = some s → ∀ d ∈ s, d ∈ cs
theorem imF_over {cs : List Nat} {f : Fu} (o : Ovr cs f) : ∀ {w s : List Nat}, imF f w = some s → ∀ d ∈ s, d ∈ cs
  | [], s, h, d, hd => by
    cases Option.some.inj h
    cases hd
  | c :: w, s, h, d, hd => by
    have h' : (f c).bind (fun a => (imF f w).map (a ++ ·)) = some s := h
    cases e : f c with
    | none =>
      rw [e] at h'
      cases h'
    | some z =>
      cases e2 : imF f w with
      | none =>
        rw [e, e2] at h'
        cases h'
      | some x =>
        rw [e, e2] at h'
        have h3 : z ++ x = s := Option.some.inj h'
        rw [← h3] at hd
        rcases List.mem_append.mp hd with q | q
        · exact o.img c z e d q
        · exact imF_over o e2 d q
/-- images of at most n letters -/
def Bnd (n : Nat) (f : Fu) : Prop := ∀ c s, f c = some s → s.length ≤ n
theorem imF_len {n : Nat} {f : Fu} (b : Bnd n f) : ∀ {w s : List Nat}, imF f w = some s → s.length ≤ n * w.length
  | [], s, h => by
    cases Option.some.inj h
    exact Nat.zero_le _
  | c :: w, s, h => by
    have h' : (f c).bind (fun a => (imF f w).map (a ++ ·)) = some s := h
    cases e : f c with
    | none =>
      rw [e] at h'
      cases h'
    | some z =>
      cases e2 : imF f w with
      | none =>
        rw [e, e2] at h'
        cases h'
      | some x =>
        rw [e, e2] at h'
        have h3 : z ++ x = s := Option.some.inj h'
        have h1 := b c z e
        have h2 := imF_len b e2
        rw [← h3, List.length_append, List.length_cons, Nat.mul_succ]
        omega
theorem Bnd.comp {a b : Nat} {f g : Fu} (hf : Bnd a f) (hg : Bnd b g) : Bnd (b * a) (cF f g) := fun c s h => by
  have h' : (f c).bind (imF g) = some s := h
  cases e : f c with
  | none =>
    rw [e] at h'
    cases h'
  | some z =>
    rw [e] at h'
    exact Nat.le_trans (imF_len hg h') (Nat.mul_le_mul_left _ (hf c z e))
theorem Bnd.le {a b : Nat} {f : Fu} (h : Bnd a f) (l : a ≤ b) : Bnd b f := fun c s e => Nat.le_trans (h c s e) l
theorem imF_none {f : Fu} : ∀ {w : List Nat}, imF f w = none ↔ ∃ c ∈ w, f c = none
  | [] => by
    constructor
    · intro h
      cases h
    · rintro ⟨c, h, _⟩
      cases h
  | c :: w => by
    have ih := imF_none (f := f) (w := w)
    show (f c).bind (fun a => (imF f w).map (a ++ ·)) = none ↔ _
    cases e : f c with
    | none => exact ⟨fun _ => ⟨c, List.mem_cons_self .., e⟩, fun _ => rfl⟩
    | some z =>
      constructor
      · intro h
        cases e2 : imF f w with
        | some x =>
          rw [e2] at h
          cases h
        | none =>
          obtain ⟨d, h1, h2⟩ := ih.mp e2
          exact ⟨d, List.mem_cons_of_mem _ h1, h2⟩
      · rintro ⟨d, h1, h2⟩
        rcases List.mem_cons.mp h1 with q | q
        · rw [q, e] at h2
          cases h2
        · rw [ih.mpr ⟨d, q, h2⟩]
          rfl
theorem imF_some {f : Fu} : ∀ {w : List Nat}, (∀ c ∈ w, (f c).isSome = true) → imF f w = some ((w.map fun c => (f c).getD []).flatten)
  | [], _ => rfl
  | c :: w, h => by
    show (f c).bind (fun a => (imF f w).map (a ++ ·)) = _
    rw [imF_some fun x hx => h x (List.mem_cons_of_mem _ hx)]
    have h1 := h c (List.mem_cons_self ..)
    cases e : f c with
    | none =>
      rw [e] at h1
      cases h1
    | some z =>
      show some (z ++ _) = _
      rw [List.map_cons, List.flatten_cons, e]
      rfl
/-! what a Misreading's table tells -/
def lk (u : Tab) : Fu := fun c => if c ∈ abc then lookT u c else none
theorem lk_mem {u : Tab} {c : Nat} : c ∈ keysOf u ↔ (lk u c).isSome = true := by
  rw [keysOf_mem]
  show _ ↔ (if c ∈ abc then lookT u c else none).isSome = true
  by_cases h : c ∈ abc
  · rw [if_pos h]
    exact ⟨fun z => z.2, fun z => ⟨h, z⟩⟩
  · rw [if_neg h]
    exact ⟨fun z => absurd z.1 h, fun z => by cases z⟩
theorem lk_look {u : Tab} {c : Nat} (h : c ∈ keysOf u) : lookT u c = lk u c := by
  show _ = (if c ∈ abc then lookT u c else none)
  rw [if_pos (keysOf_mem.mp h).1]
theorem lk_some {u : Tab} {c : Nat} {s : List Nat} (h : lk u c = some s) : c ∈ keysOf u ∧ lookT u c = some s := by
  have m : c ∈ keysOf u := lk_mem.mpr (by rw [h]; rfl)
  exact ⟨m, (lk_look m).trans h⟩
theorem lk_not {u : Tab} {c : Nat} (h : c ∉ keysOf u) : lk u c = none := by
  cases e : lk u c with
  | none => rfl
  | some s => exact absurd (lk_some e).1 h
theorem keys_abc {u : Tab} {c : Nat} (h : c ∈ keysOf u) : c ∈ abc := (keysOf_mem.mp h).1
/-- a table told over letters cs -/
theorem good_over {cs : List Nat} {t : Tab} (g : GoodT cs t) : Ovr cs (lk t) := ⟨fun c s h => g.key _ (look_in (lk_some h).2), fun c s h => (g.img _ (look_in (lk_some h).2)).2.2⟩
theorem good_bnd {cs : List Nat} {t : Tab} (g : GoodT cs t) : Bnd 4 (lk t) := fun c s h => (g.img _ (look_in (lk_some h).2)).2.1
theorem imF_look {u : Tab} {cs : List Nat} (h : ∀ c ∈ cs, c ∈ keysOf u) : imF (lk u) cs = some ((cs.map fun c => (lookT u c).getD []).flatten) := by
  rw [imF_some fun c hc => lk_mem.mp (h c hc)]
  have e : (cs.map fun c => (lk u c).getD []) = cs.map fun c => (lookT u c).getD [] := List.map_congr_left fun c hc => by rw [lk_look (h c hc)]
  rw [e]
theorem imF_keys {u : Tab} {cs r : List Nat} (h : imF (lk u) cs = some r) : ∀ c ∈ cs, c ∈ keysOf u := fun c hc => by
  by_cases m : c ∈ keysOf u
  · exact m
  · have e := imF_none.mpr ⟨c, hc, lk_not m⟩
    rw [h] at e
    cases e
/-- tables put together letter by letter -/
theorem look_app {t : Tab} {c : Nat} {s : List Nat} (h : c ∉ t.map (·.1)) (c' : Nat) : lookT (t ++ [(c, s)]) c' = if c' = c then some s else lookT t c' := by
  rw [← putT_new h, look_put]
/-- the table that f makes of the letters ks -/
def mkT (f : Fu) (ks : List Nat) : Tab := ks.filterMap fun c => (f c).map fun s => (c, s)
theorem mkT_keys (f : Fu) (ks : List Nat) : ∀ c ∈ (mkT f ks).map (·.1), c ∈ ks := fun c h => by
  obtain ⟨q, hq, rfl⟩ := List.mem_map.mp h
  obtain ⟨d, hd, e⟩ := List.mem_filterMap.mp hq
  cases z : f d with
  | none =>
    rw [z] at e
    cases e
  | some s =>
    rw [z] at e
    have e' : (d, s) = q := Option.some.inj e
    rw [← e']
    exact hd
theorem mkT_len (f : Fu) (ks : List Nat) : (mkT f ks).length ≤ ks.length := List.length_filterMap_le _ _
theorem mkT_snoc (f : Fu) (ks : List Nat) (c : Nat) : mkT f (ks ++ [c]) = mkT f ks ++ (match f c with | some s => [(c, s)] | none => []) := by
  unfold mkT
  rw [List.filterMap_append]
  congr 1
  cases e : f c with
  | none => simp [e]
  | some s => simp [e]
theorem look_cons (k : Nat) (s : List Nat) (t : Tab) (c : Nat) : lookT ((k, s) :: t) c = if k = c then some s else lookT t c := by
  unfold lookT
  rw [List.find?_cons]
  by_cases h : k = c
  · rw [if_pos h]
    simp [h]
  · rw [if_neg h]
    simp [h]
theorem mkT_cons (f : Fu) (k : Nat) (ks : List Nat) : mkT f (k :: ks) = (match f k with | some s => [(k, s)] | none => []) ++ mkT f ks := by
  unfold mkT
  rw [List.filterMap_cons]
  cases e : f k with
  | none => rfl
  | some s => rfl
theorem mkT_look (f : Fu) : ∀ {ks : List Nat}, ks.Nodup → ∀ c, lookT (mkT f ks) c = if c ∈ ks then f c else none
  | [], _, c => by rw [if_neg List.not_mem_nil]; rfl
  | k :: ks, nd, c => by
    have nd1 := List.nodup_cons.mp nd
    have ih' := mkT_look f nd1.2 c
    rw [mkT_cons]
    cases e : f k with
    | none =>
      show lookT (mkT f ks) c = _
      rw [ih']
      by_cases h2 : c = k
      · rw [h2, if_neg nd1.1, if_pos (List.mem_cons_self ..), e]
      · by_cases h : c ∈ ks
        · rw [if_pos h, if_pos (List.mem_cons_of_mem _ h)]
        · rw [if_neg h, if_neg (fun z => (List.mem_cons.mp z).elim h2 h)]
    | some s =>
      show lookT ((k, s) :: mkT f ks) c = _
      rw [look_cons, ih']
      by_cases h2 : k = c
      · rw [if_pos h2, ← h2, if_pos (List.mem_cons_self ..), e]
      · rw [if_neg h2]
        by_cases h : c ∈ ks
        · rw [if_pos h, if_pos (List.mem_cons_of_mem _ h)]
        · rw [if_neg h, if_neg (fun z => (List.mem_cons.mp z).elim (fun y => h2 y.symm) h)]
theorem mkT_lk {f : Fu} {ks : List Nat} (nd : ks.Nodup) (h : ∀ c s, f c = some s → c ∈ ks ∧ c ∈ abc) : lk (mkT f ks) = f := by
  funext c
  show (if c ∈ abc then lookT (mkT f ks) c else none) = f c
  rw [mkT_look f nd]
  cases e : f c with
  | none => by_cases a : c ∈ abc <;> by_cases b : c ∈ ks <;> simp [a, b, e]
  | some s =>
    obtain ⟨a, b⟩ := h c s e
    rw [if_pos b, if_pos a]
end V8
set_option Elab.async false
set_option linter.all false
set_option maxRecDepth 100000
set_option maxHeartbeats 8000000
/-! The program's small tests; a Misreading of what other ones have joined. -/
namespace V8
open PySem PySem.Spec PyProof.Rows L2
abbrev s_check_other : Stmt := topS 36
theorem sc_check_other : FnScope ["other"] ["other"] (defScope s_check_other) := ⟨rfl, rfl, rfl, by decide +kernel, rfl, by decide +kernel, by decide +kernel⟩
abbrev s_Joined_init : Stmt := inClass (topS 31) 0
theorem sc_Joined_init : FnScope ["self", "images"] ["self", "images"] (defScope s_Joined_init) := ⟨rfl, rfl, rfl, by decide +kernel, rfl, by decide +kernel, by decide +kernel⟩
abbrev s_Misreading_first_barred : Stmt := inClass (topS 32) 7
theorem sc_Misreading_first_barred : FnScope ["self", "text", "at", "letter"] ["self", "text"] (defScope s_Misreading_first_barred) := ⟨rfl, rfl, rfl, by decide +kernel, rfl, by decide +kernel, by decide +kernel⟩
abbrev s_Misreading_image : Stmt := inClass (topS 32) 8
abbrev n_Misreading_image : List Str := ["self", "text", "letter"]
theorem sc_Misreading_image : FnScope ["self", "text", "letter"] ["self", "text"] (defScope s_Misreading_image) := ⟨rfl, rfl, rfl, by decide +kernel, rfl, by decide +kernel, by decide +kernel⟩
structure Tz (K : PySem.W.Frag) (mg : Str → Option Value) (CM CJ : Addr) : Prop extends Ty K mg CM CJ where
  enumerate : mg "enumerate" = none
  all : mg "all" = none
  bool : mg "bool" = none
  gLONGEST_JOINED : GV mg "LONGEST_JOINED" (.int 64)
  clJ : Cls K CJ
  nJ : NoAttr K CJ "images"
  jA : PySem.W.findIn K (.ref CJ) "__class__" = some (some (.builtin "object.__class__"))
  jD : PySem.W.mroIn K CJ (.type "object") = some true
  ip : IntP K CM
  JJ : PySem.W.kitOne K (.ref CJ) (.ref CJ) = some true
def spChkO (CM : Addr) : Sp := fun vs H Q _ => ∃ z u, vs = [.ref z] ∧ MisAt CM H z u ∧ Q .non H
def fJ (d : Addr) : List (Str × V) := putF "images" (.ref d) []
theorem fJ_i (d : Addr) : (fJ d).lookup ("images" : Str) = some (.ref d) := by
  unfold fJ
  rw [lookup_putF, if_pos rfl]
def spJ (CJ : Addr) : Sp := fun vs H Q _ => ∃ (j dj d : Addr), vs = [.ref j, .ref d] ∧ H j = some (.ins CJ dj []) ∧ Q .non (upd H j (.ins CJ dj (fJ d)))
def spInitJ (CM CJ : Addr) : Sp := fun vs H Q _ => ∃ (x dx j dj d : Addr) (t : Tab), vs = [.ref x, .ref j, .str (Sx [])] ∧ H x = some (.ins CM dx []) ∧ H j = some (.ins CJ dj (fJ d)) ∧ H d = some (.dK (encT t)) ∧ t.length ≤ 12 ∧
  ∀ H', MisN CM H H' x t → (∀ b o, H b = some o → b ≠ x → H' b = some o) → Q .non H'
def spFB (CM : Addr) : Sp := fun vs H Q _ => ∃ (x : Addr) (u : Tab) (cs : List Nat), vs = [.ref x, .str (Sx cs)] ∧ MisAt CM H x u ∧ cs.length ≤ 4000 ∧ (∀ r H', imF (lk u) cs = some r → Same H H' → Q .non H') ∧ (∀ (i : Nat) H', i < cs.length → imF (lk u) cs = none → Same H H' → Q (.int i) H')
def spImg (CM : Addr) : Sp := fun vs H Q _ => ∃ (x : Addr) (u : Tab) (cs r : List Nat), vs = [.ref x, .str (Sx cs)] ∧ MisAt CM H x u ∧ Bnd 64 (lk u) ∧ imF (lk u) cs = some r ∧ cs.length ≤ 2000 ∧ ∀ H', Same H H' → Q (.str (Sx r)) H'
section
variable {P : Program} {w : World} {K : PySem.W.Frag} {mg : Str → Option Value} {base : Heap} {CM CJ : Addr}
theorem ok_check_other {f : Addr} {fd : FuncData} (F : Fun K "check_other" "check_other" s_check_other f fd) (T : Ty K mg CM CJ) : FnOk P w K mg base CX0 1 f fd ["other"] (spChkO CM) := by
  refine F.ok sc_check_other (fun vs H Q E h => ?_) (fun cdv A outer s H vs Q E hr h => ?_)
  · obtain ⟨z, u, rfl, _⟩ := h
    rfl
  · obtain ⟨z, u, rfl, M, q⟩ := h
    refine ⟨_, (pss_one (ps_if (pt_not (pt_val (pe_callB call_isi (by rfl) T.isinstance (by decide +kernel) (pa_cons (pv 0) (pa_cons (pe_gv T.gMisreading (by rfl)) pa_nil)))))
        (pss_one ps_never)
        pss_nil)), ?_⟩
    obtain ⟨dx, fs, hx⟩ := M.ins
    exact ⟨_, rfl, _, .ref CM, .ref CM, .ref CM, true, rfl, .own _, .base (.ins hx T.cl T.tA T.tB T.tC T.tD), T.mM, true, rfl, iteF q⟩
theorem ok_Joined {f : Addr} {fd : FuncData} (F : Fun K "__init__" "Joined.__init__" s_Joined_init f fd) (T : Tz K mg CM CJ) : FnOk P w K mg base CX0 1 f fd ["self", "images"] (spJ CJ) := by
  refine F.ok sc_Joined_init (fun vs H Q E h => ?_) (fun cdv A outer s H vs Q E hr h => ?_)
  · obtain ⟨j, dj, d, rfl, _⟩ := h
    rfl
  · obtain ⟨j, dj, d, rfl, hj, q⟩ := h
    refine ⟨_, (pss_one (ps_fld (pv 0) (pv 1) rfl)), ?_⟩
    exact ⟨_, rfl, _, rfl, j, CJ, dj, [], rfl, hj, T.clJ, T.nJ, by decide, q⟩
theorem ok_initJ {f : Addr} {fd : FuncData} {dvs : List V} (F : FunD K "__init__" "Misreading.__init__" (defArgs s_Misreading_init) (defBody s_Misreading_init) (defScope s_Misreading_init) dvs [] f fd) (T : Tz K mg CM CJ) (D_told_images : Df P w K mg base 4 "told_images" spTold) : FnOk P w K mg base CX0 5 f fd ["self", "images", "keeps"] (spInitJ CM CJ) := by
  refine F.ok sc_Misreading_init (fun vs H Q E h => ?_) (fun cdv A outer s H vs Q E hr h => ?_)
  · obtain ⟨x, dx, j, dj, d, t, rfl, _⟩ := h
    rfl
  · obtain ⟨x, dx, j, dj, r, u, rfl, hx, hj, hr1, lu, q⟩ := h
    refine ⟨_, (pss_cons (ps_set (i := 3) sc_Misreading_init.nd rfl (.inr rfl) (pe_ifExp (pt_val (pe_callB call_isi (by rfl) T.isinstance (by decide +kernel) (pa_cons (pv 1) (pa_cons (pe_gv T.gJoined (by rfl)) pa_nil)))) (pe_fldK (K := K) rfl (pv 1) rfl) (pe_c D_told_images hr (by decide) (by rfl) (pa_cons (pv 1) (pa_cons (pv 2) pa_nil)))))
      (pss_cons (ps_if (pt_cmpR op_gt (pe_callB call_lenD (by rfl) T.len (by decide +kernel) (pa_cons (pv 3) pa_nil)) (pe_gv T.gMOST_LETTERS (by rfl)) (nomark _))
        (pss_one ps_never)
        pss_nil)
      (pss_cons (ps_fld (pv 0) (pe_callTy (call_tuple_ofK (K := K) rfl) (by rfl) T.tuple (by decide +kernel) (pa_cons (pe_lc (own := [("letter", 4)]) (g := gName 4) (by rfl) sc_Misreading_init.nd (pi_str (pe_gv T.gLETTERS (by rfl))) (blkOk_by (own := [("letter", 4)]) (N := n_Misreading_init) (sc := defScope s_Misreading_init) (by decide +kernel)) (fun _ _ _ _ _ => (pg_name (i := 4) sc_Misreading_init.nd rfl (.inl rfl))) (fun _ _ _ _ _ => (pts_one (pt_cmp (pc_din (hu_of hr) (pv 4) (pv 3))))) (fun _ _ _ _ _ => (pv 4))) pa_nil)) rfl)
      (pss_cons (ps_fld (pv 0) (pe_dc (own := [("letter", 4)]) (g := gName 4) (by rfl) sc_Misreading_init.nd (pi_tup (pe_fldK (K := K) rfl (pv 0) rfl)) (blkOk_by (own := [("letter", 4)]) (N := n_Misreading_init) (sc := defScope s_Misreading_init) (by decide +kernel)) (fun _ _ _ _ _ => (pg_name (i := 4) sc_Misreading_init.nd rfl (.inl rfl))) (fun _ _ _ _ _ => pts_nil) (fun _ _ _ _ _ => (pv 4)) (fun _ _ _ _ _ => (pe_dget (hu_of hr) (pv 3) (pv 4) (fun _ _ => rfl)))) rfl)
      (pss_one (ps_fld (pv 0) (pe_callTy (call_tuple_ofK (K := K) rfl) (by rfl) T.tuple (by decide +kernel) (pa_cons (pe_lc (own := [("letter", 4)]) (g := gName 4) (by rfl) sc_Misreading_init.nd (pi_tup (pe_fldK (K := K) rfl (pv 0) rfl)) (blkOk_by (own := [("letter", 4)]) (N := n_Misreading_init) (sc := defScope s_Misreading_init) (by decide +kernel)) (fun _ _ _ _ _ => (pg_name (i := 4) sc_Misreading_init.nd rfl (.inl rfl))) (fun _ _ _ _ _ => (pts_one (pt_cmpR op_ne (pe_dget (hu_of hr) (pv 3) (pv 4) (fun _ _ => rfl)) (pv 4) (nomark _)))) (fun _ _ _ _ _ => (pv 4))) pa_nil)) rfl)))))), ?_⟩
    refine ⟨_, rfl, _, .ref CJ, .ref CJ, .ref CJ, true, rfl, .own _, .base (.ins hj T.clJ T.jA T.tB T.tC T.jD), T.JJ, true, rfl, ?_⟩
    refine iteT ?_
    refine ⟨_, rfl, j, CJ, dj, _, _, rfl, hj, T.clJ, T.nJ, fJ_i r, ?_⟩
    obtain ⟨H1, e1⟩ : ∃ H1, H1 = H := ⟨H, rfl⟩
    have sm : Same H H1 := by
      rw [e1]
      exact Same.refl H
    have hx1 := sm _ _ hx
    replace hr1 := sm _ _ hr1
    have h12 : (12 : Nat) ≤ 12 := Nat.le_refl _
    show tSeq _ _ _ _ H
    rw [show tSeq _ _ _ _ H = tSeq _ _ _ _ H1 from by rw [e1]]
    clear e1
    -- len(told) > 12
    refine ⟨_, rfl, r, _, rfl, hr1, _, _, rfl, rfl, _, rfl, ?_⟩
    rw [encT_len, decide_eq_false (by show ¬ ((12 : Int) < (u.length : Int)); omega)]
    refine iteF ?_
    have hx0 : ∀ b o, H b = some o → b ≠ x → H1 b = some o := fun b o e _ => sm b o e
    -- self._letters
    refine ⟨abcS, rfl, fun D nD => lc_it walk_str (fun i H2 => H2 = upd H1 D (.lst (lets ((abc.take i).filter fun c => (lookT u c).isSome)))) rfl (fun _ _ _ _ => trivial) ?_ ?_⟩
    · rintro i z H2 H2' hi rfl ⟨rfl, c, hc, rfl⟩
      have hc' : abc[i]? = some c := by
        rw [← abcS_cps]
        simpa using hc
      have hrD : r ≠ D := ne_of_none hr1 nD
      refine ⟨rfl, _, rfl, _, rfl, r, _, rfl, DGet.k (k := Sum.inr (L1 c)) (by rw [upd_ne hrD]; exact hr1), _, rfl, ?_⟩
      rw [valV_enc]
      have hs := some_put u i c hc'
      by_cases e : (lookT u c).isSome = true
      · have e2 : (Option.map (fun s => V.str (Sx s)) (lookT u c)).isSome = true := by rw [Option.isSome_map]; exact e
        rw [e2]
        refine iteT ?_
        rw [if_pos e] at hs
        refine ⟨_, rfl, lets ((abc.take i).filter fun c => (lookT u c).isSome), upd_same, ?_, ?_⟩
        · rw [lets_len]
          have h1 := List.length_filter_le (fun c => (lookT u c).isSome) (abc.take i)
          have h2 : (abc.take i).length ≤ 26 := by rw [List.length_take, abc_len]; omega
          exact small1000 (by omega)
        · rw [upd_upd, hs, lets_snoc]
          rfl
      · have e2 : (Option.map (fun s => V.str (Sx s)) (lookT u c)).isSome = false := by
          rw [Option.isSome_map]
          exact Bool.eq_false_iff.mpr e
        rw [e2]
        refine iteF ?_
        rw [if_neg e, List.append_nil] at hs
        rw [hs]
    · rintro H2 rfl
      have hsz : abcS.cps.size = 26 := by decide +kernel
      rw [hsz]
      have ek : (abc.take 26).filter (fun c => (lookT u c).isSome) = keysOf u := by
        rw [List.take_of_length_le (by rw [abc_len]; exact Nat.le_refl _)]
        rfl
      rw [ek]
      refine ⟨D, _, rfl, .inl ⟨SqL.of upd_same, fun a na => ?_⟩⟩
      have hxD : x ≠ D := ne_of_none hx1 nD
      have hxa : x ≠ a := ne_of_none (H := upd H1 D (.lst (lets (keysOf u)))) (o := .ins CM dx []) (by rw [upd_ne hxD]; exact hx1) na
      have hrD : r ≠ D := ne_of_none hr1 nD
      have hra : r ≠ a := ne_of_none (H := upd H1 D (.lst (lets (keysOf u)))) (o := .dK (encT u)) (by rw [upd_ne hrD]; exact hr1) na
      have hrx : r ≠ x := ne_of hr1 hx1 (fun z => nomatch z)
      refine ⟨_, rfl, x, CM, dx, [], rfl, by rw [upd_ne hxa, upd_ne hxD]; exact hx1, T.cl, T.nL, by show 0 < 1000; decide, ?_⟩
      have fr3 : ∀ b o, H b = some o → b ≠ x → upd (upd (upd H1 D (.lst (lets (keysOf u)))) a (.tup (lets (keysOf u)))) x (.ins CM dx (f1 a)) b = some o := fun b o e hb => by
        have e1 := sm b o e
        have hbD := ne_of_none e1 nD
        rw [upd_ne hb, upd_ne (ne_of_none (H := upd H1 D (.lst (lets (keysOf u)))) (o := o) (by rw [upd_ne hbD]; exact e1) na), upd_ne hbD]
        exact e1
      have hx3 : upd (upd (upd H1 D (.lst (lets (keysOf u)))) a (.tup (lets (keysOf u)))) x (.ins CM dx (f1 a)) x = some (.ins CM dx (f1 a)) := upd_same
      have ha3 : upd (upd (upd H1 D (.lst (lets (keysOf u)))) a (.tup (lets (keysOf u)))) x (.ins CM dx (f1 a)) a = some (.tup (lets (keysOf u))) := by rw [upd_ne (Ne.symm hxa), upd_same]
      have hr3 : upd (upd (upd H1 D (.lst (lets (keysOf u)))) a (.tup (lets (keysOf u)))) x (.ins CM dx (f1 a)) r = some (.dK (encT u)) := by rw [upd_ne hrx, upd_ne hra, upd_ne hrD]; exact hr1
      show tSeq _ _ _ _ (upd (upd (upd H1 D (.lst (lets (keysOf u)))) a (.tup (lets (keysOf u)))) x (.ins CM dx (f1 a)))
      generalize upd (upd (upd H1 D (.lst (lets (keysOf u)))) a (.tup (lets (keysOf u)))) x (.ins CM dx (f1 a)) = H3 at fr3 hx3 ha3 hr3 ⊢
      have naH : H a = none := by
        cases e : H a with
        | none => rfl
        | some o =>
          have e1 := sm _ _ e
          have e2 : upd H1 D (.lst (lets (keysOf u))) a = some o := by rw [upd_ne (ne_of_none e1 nD)]; exact e1
          rw [e2] at na
          cases na
      clear na nD hxD hxa hrD hra
      -- self._images
      refine ⟨_, rfl, x, CM, dx, _, _, rfl, hx3, T.cl, T.nL, f1_L a, a, rfl, ⟨_, .inl (.inl ha3)⟩, fun D2 nD2 => dc_it (walk_tup (K := K) (a := a) (xs := lets (keysOf u))) (fun i H4 => H4 = upd H3 D2 (.dK (encT (((keysOf u).take i).map fun c => (c, (lookT u c).getD []))))) rfl ?_ ?_ ?_⟩
      · rintro i H4 hi rfl
        exact .inl (.inl (by rw [upd_ne (ne_of_none ha3 nD2)]; exact ha3))
      · rintro i z H4 H4' hi rfl ⟨rfl, hz⟩
        obtain ⟨hik, rfl⟩ := lets_get hz
        obtain ⟨s, es⟩ := Option.isSome_iff_exists.mp (List.mem_filter.mp (List.getElem_mem hik)).2
        refine ⟨rfl, _, rfl, _, rfl, _, rfl, r, V.str (Sx s), rfl, .inl ⟨_, Sum.inr (L1 (keysOf u)[i]), .inl (by rw [upd_ne (ne_of_none hr3 nD2)]; exact hr3), rfl, by rw [valV_enc, es]; rfl⟩, _, Sum.inr (L1 (keysOf u)[i]), rfl, upd_same, ?_, ?_⟩
        · rw [encT_len, List.length_map, List.length_take]
          have := keysOf_len u
          exact small1000 (by omega)
        · rw [upd_upd, putK_enc]
          congr 3
          exact ims_succ (keysOf_nd u) hik (by rw [es]; rfl)
      · rintro H4 rfl
        rw [lets_len, List.take_length]
        have hxD2 : x ≠ D2 := ne_of_none hx3 nD2
        have haD2 : a ≠ D2 := ne_of_none ha3 nD2
        have hrD2 : r ≠ D2 := ne_of_none hr3 nD2
        refine ⟨_, rfl, x, CM, dx, f1 a, rfl, by rw [upd_ne hxD2]; exact hx3, T.cl, T.nI, f1_len a, ?_⟩
        have hax : a ≠ x := ne_of ha3 hx3 (fun z => nomatch z)
        have nbH : H D2 = none := by
          cases e : H D2 with
          | none => rfl
          | some o =>
            have e1 := fr3 _ _ e (Ne.symm hxD2)
            rw [e1] at nD2
            cases nD2
        have fr5 : ∀ b o, H b = some o → b ≠ x → upd (upd H3 D2 (.dK (encT (ims u)))) x (.ins CM dx (f2 a D2)) b = some o := fun b o e hb => by
          have e1 := fr3 b o e hb
          rw [upd_ne hb, upd_ne (ne_of_none e1 nD2)]
          exact e1
        have hx5 : upd (upd H3 D2 (.dK (encT (ims u)))) x (.ins CM dx (f2 a D2)) x = some (.ins CM dx (f2 a D2)) := upd_same
        have ha5 : upd (upd H3 D2 (.dK (encT (ims u)))) x (.ins CM dx (f2 a D2)) a = some (.tup (lets (keysOf u))) := by rw [upd_ne hax, upd_ne haD2]; exact ha3
        have hr5 : upd (upd H3 D2 (.dK (encT (ims u)))) x (.ins CM dx (f2 a D2)) r = some (.dK (encT u)) := by rw [upd_ne hrx, upd_ne hrD2]; exact hr3
        have hd5 : upd (upd H3 D2 (.dK (encT (ims u)))) x (.ins CM dx (f2 a D2)) D2 = some (.dK (encT (ims u))) := by rw [upd_ne (Ne.symm hxD2), upd_same]
        show Ends.nx _ _ (upd (upd H3 D2 (.dK (encT (ims u)))) x (.ins CM dx (f2 a D2)))
        generalize upd (upd H3 D2 (.dK (encT (ims u)))) x (.ins CM dx (f2 a D2)) = H5 at fr5 hx5 ha5 hr5 hd5 ⊢
        -- self.changed
        refine ⟨_, rfl, x, CM, dx, _, _, rfl, hx5, T.cl, T.nL, f2_L a D2, a, rfl, ⟨_, .inl (.inl ha5)⟩, fun D3 nD3 => lc_it (walk_tup (K := K) (a := a) (xs := lets (keysOf u))) (fun i H6 => H6 = upd H5 D3 (.lst (lets (((keysOf u).take i).filter fun c => decide (lookT u c ≠ some [c]))))) rfl ?_ ?_ ?_⟩
        · rintro i H6 hi rfl
          exact .inl (.inl (by rw [upd_ne (ne_of_none ha5 nD3)]; exact ha5))
        · rintro i z H6 H6' hi rfl ⟨rfl, hz⟩
          obtain ⟨hik, rfl⟩ := lets_get hz
          obtain ⟨s, es⟩ := Option.isSome_iff_exists.mp (List.mem_filter.mp (List.getElem_mem hik)).2
          refine ⟨rfl, _, rfl, _, rfl, r, V.str (Sx s), rfl, .inl ⟨_, Sum.inr (L1 (keysOf u)[i]), .inl (by rw [upd_ne (ne_of_none hr5 nD3)]; exact hr5), rfl, by rw [valV_enc, es]; rfl⟩, _, rfl, rfl, _, rfl, ?_⟩
          have hs := chg_succ (u := u) hik
          by_cases e : s = [(keysOf u)[i]]
          · have e1 : lookT u (keysOf u)[i] = some [(keysOf u)[i]] := by rw [es, e]
            rw [if_neg (by simp [e1]), List.append_nil] at hs
            rw [decide_eq_true (show V.str (Sx s) = V.str (L1 (keysOf u)[i]) by rw [e]; rfl)]
            refine iteF ?_
            rw [hs]
          · have e1 : ¬ lookT u (keysOf u)[i] = some [(keysOf u)[i]] := by
              rw [es]
              exact fun z => e (Option.some.inj z)
            rw [if_pos (by simpa using e1)] at hs
            rw [decide_eq_false (show ¬ V.str (Sx s) = V.str (L1 (keysOf u)[i]) from fun z => e (Sx_inj (V.str.inj z)))]
            refine iteT ?_
            refine ⟨_, rfl, _, upd_same, ?_, ?_⟩
            · rw [lets_len]
              have h1 := List.length_filter_le (fun c => decide (lookT u c ≠ some [c])) ((keysOf u).take i)
              have h2 := keysOf_len u
              have h3 : ((keysOf u).take i).length ≤ (keysOf u).length := by rw [List.length_take]; omega
              exact small1000 (by omega)
            · rw [upd_upd, hs, lets_snoc]
        · rintro H6 rfl
          rw [lets_len, List.take_length]
          refine ⟨D3, _, rfl, .inl ⟨SqL.of upd_same, fun c nc => ?_⟩⟩
          have hxD3 : x ≠ D3 := ne_of_none hx5 nD3
          have up : ∀ b o, H5 b = some o → upd (upd H5 D3 (.lst (lets (chg u)))) c (.tup (lets (chg u))) b = some o := fun b o e => by
            have hb := ne_of_none e nD3
            rw [upd_ne (ne_of_none (H := upd H5 D3 (.lst (lets (chg u)))) (o := o) (by rw [upd_ne hb]; exact e) nc), upd_ne hb]
            exact e
          have hxc : x ≠ c := ne_of_none (H := upd H5 D3 (.lst (lets (chg u)))) (o := .ins CM dx (f2 a D2)) (by rw [upd_ne hxD3]; exact hx5) nc
          refine ⟨_, rfl, x, CM, dx, f2 a D2, rfl, up _ _ hx5, T.cl, T.nC, f2_len a D2, ?_⟩
          have ncH : H c = none := by
            have nc' : upd H5 D3 (.lst (lets (chg u))) c = none := nc
            cases e : H c with
            | none => rfl
            | some o =>
              have e3 := fr5 _ _ e (Ne.symm hxc)
              have e2 : upd H5 D3 (.lst (lets (chg u))) c = some o := by
                rw [upd_ne (ne_of_none e3 nD3)]
                exact e3
              rw [e2] at nc'
              cases nc'
          have hD2x : D2 ≠ x := ne_of hd5 hx5 (fun z => nomatch z)
          refine q _ ⟨dx, a, D2, c, upd_same, ?_, ?_, ?_, naH, nbH, ncH⟩ fun b o e hb => ?_
          · rw [upd_ne hax]
            exact up _ _ ha5
          · rw [upd_ne hD2x]
            exact up _ _ hd5
          · rw [upd_ne (Ne.symm hxc)]
            exact upd_same
          · rw [upd_ne hb]
            exact up _ _ (fr5 b o e hb)
end
end V8
set_option Elab.async false
set_option linter.all false
set_option maxRecDepth 100000
set_option maxHeartbeats 8000000
/-! first_barred, image. -/
namespace V8
open PySem PySem.Spec PyProof.Rows L2
section
variable {P : Program} {w : World} {K : PySem.W.Frag} {mg : Str → Option Value} {base : Heap} {CM CJ : Addr}
theorem ok_first_barred {f : Addr} {fd : FuncData} (F : Fun K "first_barred" "Misreading.first_barred" s_Misreading_first_barred f fd) (T : Tz K mg CM CJ) : FnOk P w K mg base CX0 1 f fd ["self", "text"] (spFB CM) := by
  refine F.ok sc_Misreading_first_barred (fun vs H Q E h => ?_) (fun cdv A outer s H vs Q E hr h => ?_)
  · obtain ⟨x, u, cs, rfl, _⟩ := h
    rfl
  · obtain ⟨x, u, cs, rfl, ⟨dx, a, b, c', hx, ha, hb, hc⟩, h4, q1, q2⟩ := h
    refine ⟨_, (pss_cons (ps_for PassesOwn.never rfl (pi_enumS (by rfl) T.enumerate (pa_cons (pv 1) pa_nil)) (pg_tup (by rfl) (pgs_cons (pg_name (i := 2) sc_Misreading_first_barred.nd rfl (.inl rfl)) (pgs_cons (pg_name (i := 3) sc_Misreading_first_barred.nd rfl (.inl rfl)) pgs_nil)))
        (pss_one (ps_if (pt_cmp (pc_dnotin (hu_of hr) (pv 3) (pe_fldK (K := K) rfl (pv 0) rfl)))
          (pss_one (ps_ret (pv 2)))
          pss_nil)))
      (pss_one (ps_ret pe_non))), ?_⟩
    refine ⟨_, rfl, Sx cs, rfl, for_it walk_enumS (fun i σ H2 => (∃ v2 v3 : Option V, σ = [some (.ref x), some (.str (Sx cs)), v2, v3]) ∧ Same H H2 ∧ ∀ c ∈ cs.take i, c ∈ keysOf u) ⟨⟨none, none, rfl⟩, Same.refl H, fun c h => by simp at h⟩ (fun _ _ _ _ _ => trivial) ?_ ?_⟩
    · rintro i z σ H2 H2' hi ⟨⟨v2, v3, rfl⟩, s2, hk⟩ ⟨tq, c, rfl, ntq, rfl, hc0⟩
      have hc1 := sx_at hc0
      obtain ⟨hi', ec⟩ := List.getElem?_eq_some_iff.mp hc1
      refine ⟨tq, _, rfl, .inl (.inl upd_same), rfl, _, _, rfl, _, _, rfl, rfl, ?_⟩
      have s3 := same_put (s := s2) (o := .tup [.int (i : Nat), .str ⟨#[c]⟩]) ntq
      refine ⟨_, rfl, _, rfl, x, CM, dx, _, _, rfl, s3 _ _ hx, T.cl, T.nI, f3_I a b c', b, _, rfl, DGet.k (k := Sum.inr (L1 c)) (s3 _ _ hb), _, rfl, ?_⟩
      rw [valV_enc, Option.isSome_map, look_ims]
      by_cases m : c ∈ keysOf u
      · rw [if_pos m]
        refine iteF ⟨⟨_, _, rfl⟩, s3, fun d hd => ?_⟩
        rw [List.take_add_one, hc1] at hd
        rcases List.mem_append.mp hd with h | h
        · exact hk d h
        · rw [List.mem_singleton.mp h]
          exact m
      · rw [if_neg m]
        refine iteT ⟨_, rfl, q2 i _ hi' ?_ s3⟩
        exact imF_none.mpr ⟨c, ec ▸ List.getElem_mem hi', lk_not m⟩
    · rintro σ H2 ⟨⟨v2, v3, rfl⟩, s2, hk⟩
      rw [sx_size, List.take_length] at hk
      exact q1 _ H2 (imF_look hk) s2
theorem ok_image {f : Addr} {fd : FuncData} (F : Fun K "image" "Misreading.image" s_Misreading_image f fd) (T : Tz K mg CM CJ) : FnOk P w K mg base CX0 1 f fd ["self", "text"] (spImg CM) := by
  refine F.ok sc_Misreading_image (fun vs H Q E h => ?_) (fun cdv A outer s H vs Q E hr h => ?_)
  · obtain ⟨x, u, cs, r, rfl, _⟩ := h
    rfl
  · obtain ⟨x, u, cs, r, rfl, ⟨dx, a, b, c', hx, ha, hb, hc⟩, sm, er, h2, q⟩ := h
    refine ⟨_, (pss_one (ps_ret (pe_joinK (K := K) rfl pe_str (pe_lc (own := [("letter", 2)]) (g := gName 2) (by rfl) sc_Misreading_image.nd (pi_str (pv 1)) (blkOk_by (own := [("letter", 2)]) (N := n_Misreading_image) (sc := defScope s_Misreading_image) (by decide +kernel)) (fun _ _ _ _ _ => (pg_name (i := 2) sc_Misreading_image.nd rfl (.inl rfl))) (fun _ _ _ _ _ => pts_nil) (fun _ _ _ _ _ => (pe_dget (hu_of hr) (pe_fldK (K := K) rfl (pv 0) rfl) (pv 2) (fun _ _ => rfl))))))), ?_⟩
    have hin := imF_keys er
    have e0 := imF_look hin
    rw [e0] at er
    have e1 := Option.some.inj er
    obtain ⟨ss, ess⟩ : ∃ ss, ss = cs.map fun c => (lookT u c).getD [] := ⟨_, rfl⟩
    rw [← ess] at e1
    have hz : ∀ (i : Nat) (hi : i < cs.length), ((ss.map Sx).map V.str)[i]? = some (V.str (Sx ((lookT u cs[i]).getD []))) := fun i hi => by
      rw [ess, List.getElem?_map, List.getElem?_map, List.getElem?_map, List.getElem?_eq_getElem hi]
      rfl
    have hl : ((ss.map Sx).map V.str).length = cs.length := by
      rw [ess, List.length_map, List.length_map, List.length_map]
    refine ⟨⟨_, rfl⟩, _, rfl, Sx cs, rfl, fun D nD => lc_it walk_str (fun i H2 => H2 = upd H D (.lst (((ss.map Sx).map V.str).take i))) rfl (fun _ _ _ _ => trivial) ?_ ?_⟩
    · rintro i z H2 H2' hi rfl ⟨rfl, c, hc0, rfl⟩
      have hc1 := sx_at hc0
      obtain ⟨hi', ec⟩ := List.getElem?_eq_some_iff.mp hc1
      have hm : c ∈ keysOf u := hin c (ec ▸ List.getElem_mem hi')
      obtain ⟨s2, e2⟩ := Option.isSome_iff_exists.mp (keysOf_mem.mp hm).2
      have s1 : Same H (upd H D (.lst (((ss.map Sx).map V.str).take i))) := same_put (s := fun _ _ e => e) nD
      have hz2 := hz i hi'
      rw [ec, e2] at hz2
      refine ⟨rfl, _, rfl, x, CM, dx, _, _, rfl, s1 _ _ hx, T.cl, T.nI, f3_I a b c', _, rfl, b, V.str (Sx s2), rfl, .inl ⟨_, Sum.inr (L1 c), .inl (s1 _ _ hb), rfl, by rw [valV_enc, look_ims_some hm, e2]; rfl⟩, ?_⟩
      refine ⟨_, upd_same, ?_, ?_⟩
      · rw [List.length_take, sizeLine_eq]
        omega
      · rw [upd_upd, List.take_add_one, hz2]
        rfl
    · rintro H2 rfl
      rw [sx_size, List.take_of_length_le (by rw [hl]; exact Nat.le_refl _)]
      refine ⟨Str.empty, D, ss.map Sx, rfl, rfl, .inl (SqL.of upd_same), ?_, ?_⟩
      · have h1 : ((ss.map Sx).map fun x => x.length).sum ≤ _ := sum_le (fun x => x.length) 64 _ fun y hy => by
          obtain ⟨s3, hs3, rfl⟩ := List.mem_map.mp hy
          rw [ess] at hs3
          obtain ⟨c, hc, rfl⟩ := List.mem_map.mp hs3
          obtain ⟨s2, e2⟩ := Option.isSome_iff_exists.mp (keysOf_mem.mp (hin c hc)).2
          rw [Sx_len, e2]
          exact sm c _ (by rw [← lk_look (hin c hc)]; exact e2)
        have h3 : (ss.map Sx).length = cs.length := by
          rw [ess, List.length_map, List.length_map]
        rw [h3] at h1 ⊢
        show _ + _ * 0 ≤ _
        have h4 : 64 * cs.length ≤ 64 * 2000 := Nat.mul_le_mul_left _ h2
        omega
      · rw [join_Sx, e1]
        exact q _ (same_put (s := fun _ _ e => e) nD)
end
end V8
set_option Elab.async false
set_option linter.all false
set_option maxRecDepth 100000
set_option maxHeartbeats 8000000
/-! Joined and Misreadings of it made. -/
namespace V8
open PySem PySem.Spec PyProof.Rows L2
structure MkrJ (P : Program) (w : World) (K : PySem.W.Frag) (mg : Str → Option Value) (base : Heap) (CJ : Addr) : Prop where
  ex : ∃ (f : Addr) (fd : FuncData), Mk K CJ f ∧ FnOk P w K mg base CX0 1 f fd ["self", "images"] (spJ CJ) ∧ mg "Joined" = some (.ref CJ) ∧ Binds K fd ["self", "images"] []
structure MkrM (P : Program) (w : World) (K : PySem.W.Frag) (mg : Str → Option Value) (base : Heap) (CM CJ : Addr) : Prop where
  ex : ∃ (f : Addr) (fd : FuncData), Mk K CM f ∧ FnOk P w K mg base CX0 5 f fd pI (spInitJ CM CJ) ∧ mg "Misreading" = some (.ref CM) ∧ ∃ ds, Vals [.str (Sx [])] ds ∧ Binds K fd pI ds
def tMkJ (CJ : Addr) (t : TA) : TE := fun σ H Q => t σ H fun vs H1 => ∃ d, vs = [.ref d] ∧ ∀ j dj H', H1 j = none → H' j = some (.ins CJ dj (fJ d)) → Same H1 H' → Q (.ref j) H'
def tMkMJ (CM CJ : Addr) (t : TA) : TE := fun σ H Q => t σ H fun vs H1 => ∃ j dj d tb, vs = [.ref j] ∧ H1 j = some (.ins CJ dj (fJ d)) ∧ H1 d = some (.dK (encT tb)) ∧ tb.length ≤ 12 ∧ ∀ x H', H1 x = none → MisAt CM H' x tb → Same H1 H' → Q (.ref x) H'
section
variable {X : Cx} {j : Nat} {CM CJ : Addr} {p pos : Pos} {e : Expr} {es : List Expr} {t : TA}
theorem pe_mkJ (M : MkrJ X.prog X.w X.K X.mg X.base CJ) (hr : Room j X.A) (hj : 2 ≤ j) (hg : Gl X "Joined") (ha : PA X (e :: es) t) (he : starEach (e :: es) X.env = (false, eval e X.env) :: starEach es X.env := by rfl) (hpl : (backTo pos (starEach es X.env)).any (·.1) = false := by rfl) :
    PE X (.Call (.Name "Joined" p) (e :: es) [] pos) (tMkJ CJ t) := by
  obtain ⟨f, fd, M, F, hm, b0⟩ := M.ex
  refine ⟨fun pins s σ H Q I h => ?_⟩
  refine wpAny_Call_Name_kw (ld_glob I hg hm ?_ (by decide))
  refine PySem.W.callWith_K (h₀ := X.base) I.ok.mod.kin M.kp (thn (ha.run pos pins s σ H _ I h) fun us s1 ⟨vs, H1, I1, r, q⟩ => ⟨I1.kIn, ?_⟩) he hpl
  obtain ⟨d, rfl, q⟩ := q
  refine run_make (dvs := []) (ds := []) M F (hr.mono hj) b0 .nil pass0 I1 r fun x dx hx hdx ne => ?_
  rw [List.append_nil]
  refine ⟨x, dx, d, rfl, upd_same, rfl, q x dx _ hx upd_same fun b o eo => ?_⟩
  have b1 := ne_of_none eo hx
  rw [upd_ne b1, upd_ne b1, upd_ne (ne_of_none eo hdx)]
  exact eo
theorem pe_mkMJ (M : MkrM X.prog X.w X.K X.mg X.base CM CJ) (hr : Room j X.A) (hj : 6 ≤ j) (hg : Gl X "Misreading") (ha : PA X (e :: es) t) (he : starEach (e :: es) X.env = (false, eval e X.env) :: starEach es X.env := by rfl) (hpl : (backTo pos (starEach es X.env)).any (·.1) = false := by rfl) :
    PE X (.Call (.Name "Misreading" p) (e :: es) [] pos) (tMkMJ CM CJ t) := by
  obtain ⟨f, fd, M, F, hm, ds, hd, b1⟩ := M.ex
  refine ⟨fun pins s σ H Q I h => ?_⟩
  refine wpAny_Call_Name_kw (ld_glob I hg hm ?_ (by decide))
  refine PySem.W.callWith_K (h₀ := X.base) I.ok.mod.kin M.kp (thn (ha.run pos pins s σ H _ I h) fun us s1 ⟨vs, H1, I1, r, q⟩ => ⟨I1.kIn, ?_⟩) he hpl
  obtain ⟨j, dj, d, tb, rfl, hj1, hd1, l12, q⟩ := q
  refine run_make M F (hr.mono hj) b1 hd pass0 I1 r fun x dx hx hdx ne => ?_
  have up : ∀ b o, H1 b = some o → upd (upd H1 dx (.own x)) x (.ins CM dx []) b = some o := fun b o eo => by
    rw [upd_ne (ne_of_none eo hx), upd_ne (ne_of_none eo hdx)]
    exact eo
  refine ⟨x, dx, j, dj, d, tb, rfl, upd_same, up _ _ hj1, up _ _ hd1, l12, fun H' m fr => ⟨rfl, q x H' hx m.mis fun b o eo => fr b o (up _ _ eo) (ne_of_none eo hx)⟩⟩
end
/-- what K holds of the def, as the rule above wants it -/
theorem mkrM_of {P : Program} {w : World} {K : PySem.W.Frag} {mg : Str → Option Value} {base : Heap} {CM CJ f : Addr} {fd : FuncData} (F : FunD K "__init__" "Misreading.__init__" (defArgs s_Misreading_init) (defBody s_Misreading_init) (defScope s_Misreading_init) [.str (Sx [])] [] f fd) (T : Tz K mg CM CJ)
    (D_told_images : Df P w K mg base 4 "told_images" spTold) (M : Mk K CM f) (hm : mg "Misreading" = some (.ref CM)) : MkrM P w K mg base CM CJ := by
  refine ⟨f, fd, M, ok_initJ F T D_told_images, hm, ?_⟩
  obtain ⟨ds, h1, h2⟩ := F.binds1 (ps := pI) 2 0 (fun z => nomatch z) rfl (fun T kV doc pm an cdv ct us its h1 h2 => match us, its, h1, h2 with | [_, _], [_], _, _ => ⟨_, rfl, rfl⟩)
  exact ⟨ds, h1, h2⟩
end V8
set_option Elab.async false
set_option linter.all false
set_option maxRecDepth 100000
set_option maxHeartbeats 8000000
/-! one >> other. -/
namespace V8
open PySem PySem.Spec PyProof.Rows L2
abbrev s_Misreading_rshift : Stmt := inClass (topS 32) 9
theorem sc_Misreading_rshift : FnScope ["self", "other", "images", "letter", "middle"] ["self", "other"] (defScope s_Misreading_rshift) := ⟨rfl, rfl, rfl, by decide +kernel, rfl, by decide +kernel, by decide +kernel⟩
theorem f3_no {a b c : Addr} {m : Str} (h1 : ¬ m = "_letters") (h2 : ¬ m = "_images") (h3 : ¬ m = "changed") : (f3 a b c).lookup m = none := by
  unfold f3 f2 f1
  rw [lookup_putF, if_neg h3, lookup_putF, if_neg h2, lookup_putF, if_neg h1]
  rfl
theorem keys_le {u : Tab} {cs : List Nat} (o : Ovr cs (lk u)) : (keysOf u).length ≤ cs.length := nd_len (keysOf_nd u) fun c hc => by
  obtain ⟨s, e⟩ := Option.isSome_iff_exists.mp (lk_mem.mp hc)
  exact o.key c s e
/-- a Misreading made anew of f -/
def Makes (CM : Addr) (H : Hp) (f : Fu) (Q : VK) : Prop := ∀ z H' t, H z = none → MisAt CM H' z t → lk t = f → Same H H' → Q (.ref z) H'
def spRsh (CM : Addr) : Sp := fun vs H Q _ => ∃ (x y : Addr) (u v : Tab) (cs : List Nat), vs = [.ref x, .ref y] ∧ MisAt CM H x u ∧ MisAt CM H y v ∧ Bnd 64 (lk u) ∧ Bnd 64 (lk v) ∧ Bnd 64 (cF (lk u) (lk v)) ∧ Ovr cs (lk u) ∧ cs.length ≤ 12 ∧ Makes CM H (cF (lk u) (lk v)) Q
section
variable {P : Program} {w : World} {K : PySem.W.Frag} {mg : Str → Option Value} {base : Heap} {CM CJ : Addr}
theorem ok_rshift {f : Addr} {fd : FuncData} (F : Fun K "__rshift__" "Misreading.__rshift__" s_Misreading_rshift f fd) (T : Tz K mg CM CJ) (D_check_other : Df P w K mg base 1 "check_other" (spChkO CM)) (D_first_barred : Mf P w K mg base 1 CM "first_barred" (spFB CM)) (D_image : Mf P w K mg base 1 CM "image" (spImg CM))
    (D_mkJ : MkrJ P w K mg base CJ) (D_mkMJ : MkrM P w K mg base CM CJ) : FnOk P w K mg base CX0 7 f fd ["self", "other"] (spRsh CM) := by
  refine F.ok sc_Misreading_rshift (fun vs H Q E h => ?_) (fun cdv A outer s H vs Q E hr h => ?_)
  · obtain ⟨x, y, u, v, cs, rfl, _⟩ := h
    rfl
  · obtain ⟨x, y, u, v, cs, rfl, mx, my, bu, bv, bc, ov, h12, q⟩ := h
    refine ⟨_, (pss_cons (ps_expr (pe_c D_check_other hr (by decide) (by rfl) (pa_cons (pv 1) pa_nil)))
      (pss_cons (ps_set (i := 2) sc_Misreading_rshift.nd rfl (.inl rfl) pe_dnewK)
      (pss_cons (ps_for PassesOwn.never rfl (pi_tup (pe_fldK (K := K) rfl (pv 0) rfl)) (pg_name (i := 3) sc_Misreading_rshift.nd rfl (.inl rfl))
        (pss_cons (ps_set (i := 4) sc_Misreading_rshift.nd rfl (.inl rfl) (pe_dget (hu_of hr) (pe_fldK (K := K) rfl (pv 0) rfl) (pv 3) (fun _ _ => rfl)))
        (pss_one (ps_if (pt_cmpR op_isN (pe_mt T.cl D_first_barred hr (by decide) (pv 1) (pa_cons (pv 4) pa_nil)) pe_non (nomark _))
          (pss_cons (ps_dput (hu_of hr) (pv 2) (pv 3) (pe_mt T.cl D_image hr (by decide) (pv 1) (pa_cons (pv 4) pa_nil)) rfl)
          (pss_one (ps_if (pt_cmpR op_gt (pe_callB call_len_str (by rfl) T.len (by decide +kernel) (pa_cons (pe_dget (hu_of hr) (pv 2) (pv 3) (fun _ _ => rfl)) pa_nil)) (pe_gv T.gLONGEST_JOINED (by rfl)) (nomark _))
            (pss_one ps_never)
            pss_nil)))
          pss_nil))))
      (pss_one (ps_ret (pe_mkMJ D_mkMJ hr (by decide) (by rfl) (pa_cons (pe_mkJ D_mkJ hr (by decide) (by rfl) (pa_cons (pv 2) pa_nil)) pa_nil))))))), ?_⟩
    have kl := keys_le ov
    obtain ⟨dx, a, b, c', hx, ha, hb, hc⟩ := id mx.at_
    refine ⟨_, rfl, y, v, rfl, my, fun D nD => ?_⟩
    have s0 := same_put (s := Same.refl H) (o := .dK (encT [])) nD
    refine ⟨_, rfl, x, CM, dx, _, _, rfl, s0 _ _ hx, T.cl, T.nL, f3_L a b c', a, rfl, ⟨_, .inl (.inl (s0 _ _ ha))⟩, for_it (walk_tup (K := K) (a := a) (xs := lets (keysOf u))) (fun i σ H2 => (∃ v3 v4 : Option V, σ = [some (.ref x), some (.ref y), some (.ref D), v3, v4]) ∧ Same H H2 ∧ H2 D = some (.dK (encT (mkT (cF (lk u) (lk v)) ((keysOf u).take i))))) ⟨⟨none, none, rfl⟩, s0, upd_same⟩ ?_ ?_ ?_⟩
    · rintro i σ H2 hi ⟨_, s2, _⟩
      exact .inl (.inl (s2 _ _ ha))
    · rintro i z σ H2 H2' hi ⟨⟨v3, v4, rfl⟩, s2, hD⟩ ⟨rfl, hz⟩
      obtain ⟨hik, rfl⟩ := lets_get hz
      have hm := List.getElem_mem hik
      obtain ⟨s, e2⟩ := Option.isSome_iff_exists.mp (keysOf_mem.mp hm).2
      have e3 : lk u (keysOf u)[i] = some s := by rw [← lk_look hm]; exact e2
      have s64 := bu _ _ e3
      refine ⟨_, rfl, x, CM, dx, _, _, rfl, s2 _ _ hx, T.cl, T.nI, f3_I a b c', _, rfl, b, V.str (Sx s), rfl, .inl ⟨_, Sum.inr (L1 (keysOf u)[i]), .inl (s2 _ _ hb), rfl, by rw [valV_enc, look_ims_some hm, e2]; rfl⟩, ?_⟩
      obtain ⟨dy, a2, b2, c2, hy, ha2, hb2, hc2⟩ := id my.at_
      refine ⟨_, rfl, y, dy, _, rfl, s2 _ _ hy, f3_no (by decide +kernel) (by decide +kernel) (by decide +kernel), _, rfl, y, v, s, rfl, my.same s2, by omega, fun r H3 er s3 => ?_, fun k H3 hk en s3 => ?_⟩
      · -- the image is let
        have hn2 := mkT_snoc (cF (lk u) (lk v)) ((keysOf u).take i) (keysOf u)[i]
        have hcf : cF (lk u) (lk v) (keysOf u)[i] = some r := by
          show (lk u (keysOf u)[i]).bind (imF (lk v)) = some r
          rw [e3]
          exact er
        have r64 := bc _ _ hcf
        rw [hcf] at hn2
        refine ⟨rfl, true, rfl, iteT ?_⟩
        refine ⟨_, rfl, y, dy, _, rfl, s3 _ _ (s2 _ _ hy), f3_no (by decide +kernel) (by decide +kernel) (by decide +kernel), _, rfl, y, v, s, r, rfl, (my.same s2).same s3, bv, er, by omega, fun H4 s4 => ?_⟩
        have hD4 := s4 _ _ (s3 _ _ hD)
        have tl := mkT_len (cF (lk u) (lk v)) ((keysOf u).take i)
        rw [List.length_take] at tl
        refine ⟨_, rfl, _, rfl, D, _, rfl, DPut.k (k := Sum.inr (L1 (keysOf u)[i])) hD4 (by rw [encT_len]; exact small1000 (by omega)), ?_⟩
        have eT : (keysOf u).take (i + 1) = (keysOf u).take i ++ [(keysOf u)[i]] := by
          rw [List.take_add_one, List.getElem?_eq_getElem hik]
          rfl
        have nk : (keysOf u)[i] ∉ (mkT (cF (lk u) (lk v)) ((keysOf u).take i)).map (·.1) := fun z => by
          have h1 := mkT_keys _ _ _ z
          have nd := keysOf_nd u
          rw [← List.take_append_drop (i + 1) (keysOf u), eT] at nd
          exact (List.nodup_append.mp (List.nodup_append.mp nd).1).2.2 _ h1 _ (by simp) rfl
        have ep : putK (encT (mkT (cF (lk u) (lk v)) ((keysOf u).take i))) (Sum.inr (L1 (keysOf u)[i])) (V.str (Sx r)) = encT (mkT (cF (lk u) (lk v)) ((keysOf u).take (i + 1))) := by
          rw [putK_enc, putT_new nk, eT, hn2]
        rw [ep]
        have s5 : Same H (upd H4 D (.dK (encT (mkT (cF (lk u) (lk v)) ((keysOf u).take (i + 1)))))) := same_over (s := fun b o e => s4 _ _ (s3 _ _ (s2 _ _ e))) nD
        have hD5 : upd H4 D (.dK (encT (mkT (cF (lk u) (lk v)) ((keysOf u).take (i + 1))))) D = some (.dK (encT (mkT (cF (lk u) (lk v)) ((keysOf u).take (i + 1))))) := upd_same
        have lkn : lookT (mkT (cF (lk u) (lk v)) ((keysOf u).take (i + 1))) (keysOf u)[i] = some r := by
          rw [eT, hn2, look_app nk, if_pos rfl]
        refine ⟨_, rfl, _, rfl, D, V.str (Sx r), rfl, .inl ⟨_, Sum.inr (L1 (keysOf u)[i]), .inl hD5, rfl, by rw [valV_enc, lkn]; rfl⟩, _, rfl, by rw [Sx_len, sizeLine_eq]; omega, _, _, rfl, rfl, _, rfl, ?_⟩
        rw [Sx_len, decide_eq_false (by show ¬ ((64 : Int) < (r.length : Int)); omega)]
        exact iteF ⟨⟨_, _, rfl⟩, s5, hD5⟩
      · -- it is barred
        refine ⟨rfl, false, rfl, iteF ⟨⟨_, _, rfl⟩, fun b o e => s3 _ _ (s2 _ _ e), ?_⟩⟩
        have hcf : cF (lk u) (lk v) (keysOf u)[i] = none := by
          show (lk u (keysOf u)[i]).bind (imF (lk v)) = none
          rw [e3]
          exact en
        rw [List.take_add_one, List.getElem?_eq_getElem hik]
        show H3 D = some (.dK (encT (mkT _ ((keysOf u).take i ++ [(keysOf u)[i]]))))
        rw [mkT_snoc, hcf]
        show H3 D = some (.dK (encT (mkT _ ((keysOf u).take i) ++ [])))
        rw [List.append_nil]
        exact s3 _ _ hD
    · rintro σ H2 ⟨⟨v3, v4, rfl⟩, s2, hD⟩
      rw [lets_len, List.take_length] at hD
      have tl := mkT_len (cF (lk u) (lk v)) (keysOf u)
      refine ⟨_, rfl, D, rfl, fun j dj H3 nj hj s3 => ?_⟩
      refine ⟨j, dj, D, _, rfl, hj, s3 _ _ hD, by omega, fun z H4 nz mz s4 => ?_⟩
      refine q z H4 _ (same_none (s := fun b o e => s3 _ _ (s2 _ _ e)) nz) mz (mkT_lk (keysOf_nd u) fun c s h => ?_) fun b o e => s4 _ _ (s3 _ _ (s2 _ _ e))
      have hm : c ∈ keysOf u := lk_mem.mpr (by
        have h' : (lk u c).bind (imF (lk v)) = some s := h
        cases e : lk u c with
        | none =>
          rw [e] at h'
          cases h'
        | some z => rfl)
      exact ⟨hm, keys_abc hm⟩
end
end V8
set_option Elab.async false
set_option linter.all false
set_option maxRecDepth 100000
set_option maxHeartbeats 8000000
/-! Values of any kind copied. -/
namespace V8
open PySem PySem.Spec PyProof.Rows L2
abbrev s_copied : Stmt := topS 2
abbrev n_copied : List Str := ["value", "part", "key"]
theorem sc_copied : FnScope ["value", "part", "key"] ["value"] (defScope s_copied) := ⟨rfl, rfl, rfl, by decide +kernel, rfl, by decide +kernel, by decide +kernel⟩
theorem valV_at : ∀ {kvs : List (Key × V)} {i : Nat} {k : Key} {v : V}, (kvs.map (·.1)).Nodup → kvs[i]? = some (k, v) → valV kvs k = some v
  | [], i, k, v, _, h => by simp at h
  | p :: r, 0, k, v, _, h => by
    obtain rfl : p = (k, v) := by simpa using h
    simp [valV]
  | p :: r, i + 1, k, v, nd, h => by
    have h2 : r[i]? = some (k, v) := by simpa using h
    have nd2 := List.nodup_cons.mp (by simpa using nd : (p.1 :: r.map (·.1)).Nodup)
    have ne : ¬ p.1 = k := fun z => nd2.1 (z ▸ List.mem_map.mpr ⟨(k, v), List.mem_of_getElem? h2, rfl⟩)
    have ih := valV_at nd2.2 h2
    unfold valV at ih ⊢
    rw [List.find?_cons_of_neg (by simpa using ne)]
    exact ih
theorem not_take {kvs : List (Key × V)} {i : Nat} {k : Key} {v : V} (nd : (kvs.map (·.1)).Nodup) (h : kvs[i]? = some (k, v)) : k ∉ (kvs.take i).map (·.1) := by
  obtain ⟨hi, e⟩ := List.getElem?_eq_some_iff.mp h
  intro z
  rw [← List.take_append_drop i kvs, List.map_append, List.drop_eq_getElem_cons hi, e, List.map_cons] at nd
  exact (List.nodup_append.mp nd).2.2 _ z _ List.mem_cons_self rfl
/-- names that the text does not take -/
structure Tq (mg : Str → Option Value) : Prop extends Blt mg where
  isinstance : mg "isinstance" = none
  repr : mg "repr" = none
  enumerate : mg "enumerate" = none
/-- no list, tuple, dict, object -/
def Flat (x : V) : Prop := (∃ z, x = .str z) ∨ (∃ i, x = .int i) ∨ x = .non ∨ ∃ b, x = .bl b
theorem Flat.ty {K : PySem.W.Frag} {x : V} (f : Flat x) : ∃ t, (∀ H : Hp, TyX K H x t) ∧ PySem.W.kitOne K t (.type "list") = some false ∧ PySem.W.kitOne K t (.type "tuple") = some false ∧ PySem.W.kitOne K t (.type "dict") = some false := by
  rcases f with ⟨z, rfl⟩ | ⟨i, rfl⟩ | rfl | ⟨b, rfl⟩
  · exact ⟨_, fun _ => ty_str _, kit_ty (by decide +kernel), kit_ty (by decide +kernel), kit_ty (by decide +kernel)⟩
  · exact ⟨_, fun _ => .base (.int i), kit_ty (by decide +kernel), kit_ty (by decide +kernel), kit_ty (by decide +kernel)⟩
  · exact ⟨_, fun _ => .base .non, kit_ty (by decide +kernel), kit_ty (by decide +kernel), kit_ty (by decide +kernel)⟩
  · exact ⟨_, fun _ => .base (.bl b), kit_ty (by decide +kernel), kit_ty (by decide +kernel), kit_ty (by decide +kernel)⟩
theorem Flat.pyw {H H2 : Hp} {x : V} {d : PyData} (f : Flat x) (p : PyW H x d) : PyW H2 x d := by
  rcases f with ⟨z, rfl⟩ | ⟨i, rfl⟩ | rfl | ⟨b, rfl⟩ <;> cases p <;> constructor
theorem flats_pyw {H H2 : Hp} : ∀ {xs : List V} {ds : List PyData}, (∀ y ∈ xs, Flat y) → PyWs H xs ds → PyWs H2 xs ds
  | _, _, _, .nil => .nil
  | _, _, f, .cons h r => .cons ((f _ (List.mem_cons_self ..)).pyw h) (flats_pyw (fun y hy => f y (List.mem_cons_of_mem _ hy)) r)
/-- a flat value is handed back as it is -/
def spCopied (K : PySem.W.Frag) : Sp := fun vs H Q _ => ∃ (x : V) (t : Value), vs = [x] ∧ TyX K H x t ∧ PySem.W.kitOne K t (.type "list") = some false ∧ PySem.W.kitOne K t (.type "tuple") = some false ∧ PySem.W.kitOne K t (.type "dict") = some false ∧ Q x H
/-- flat, or a tuple, list or dict of such -/
def Told2 (H : Hp) (x : V) : Prop := Flat x ∨ (∃ a xs, x = .ref a ∧ (H a = some (.tup xs) ∨ H a = some (.lst xs)) ∧ xs.length ≤ 100 ∧ ∀ y ∈ xs, Flat y) ∨ ∃ a kvs, x = .ref a ∧ H a = some (.dK kvs) ∧ kvs.length ≤ 15 ∧ (kvs.map (·.1)).Nodup ∧ ∀ y ∈ kvs.map (·.2), Flat y
theorem Told2.same {H H2 : Hp} {x : V} (t : Told2 H x) (s : Same H H2) : Told2 H2 x := by
  rcases t with f | ⟨a, xs, e, h, l, g⟩ | ⟨a, kvs, e, h, l, n, g⟩
  · exact .inl f
  · exact .inr (.inl ⟨a, xs, e, h.imp (s _ _) (s _ _), l, g⟩)
  · exact .inr (.inr ⟨a, kvs, e, s _ _ h, l, n, g⟩)
theorem putK_new {kvs : List (Key × V)} {k : Key} {v : V} (h : k ∉ kvs.map (·.1)) : putK kvs k v = kvs ++ [(k, v)] := by
  unfold putK
  rw [if_neg]
  intro z
  obtain ⟨p, hp, e⟩ := List.any_eq_true.mp z
  have e2 : p.1 = k := by simpa using e
  exact h (e2 ▸ List.mem_map.mpr ⟨p, hp, rfl⟩)
def spCopyW : Sp := fun vs H Q _ => ∃ (x : V) (d : PyData), vs = [x] ∧ Told2 H x ∧ PyW H x d ∧ ∀ y H', Same H H' → PyW H' y d → Q y H'
section
variable {P : Program} {w : World} {K : PySem.W.Frag} {mg : Str → Option Value} {base : Heap}
theorem ok_copied {f : Addr} {fd : FuncData} (F : Fun K "copied" "copied" s_copied f fd) (T : Tq mg) (D_copied : Df P w K mg base 0 "copied" fun _ _ _ _ => False) : FnOk P w K mg base CX0 1 f fd ["value"] (spCopied K) := by
  refine F.ok sc_copied (fun vs H Q E h => ?_) (fun cdv A outer s H vs Q E hr h => ?_)
  · obtain ⟨x, t, rfl, _⟩ := h
    rfl
  · obtain ⟨x, t, rfl, ty, e1, e2, e3, q⟩ := h
    refine ⟨_, (pss_cons (ps_if (pt_val (pe_callB call_isi (by rfl) T.isinstance (by decide +kernel) (pa_cons (pv 0) (pa_cons (pe_bltn (v := .ty "list") (by rfl) T.list (by decide +kernel) rfl) pa_nil))))
        (pss_one (ps_ret (pe_lc (own := [("part", 1)]) (g := gName 1) (by rfl) sc_copied.nd (pi_list (pv 0)) (blkOk_by (own := [("part", 1)]) (N := n_copied) (sc := defScope s_copied) (by decide +kernel)) (fun _ _ _ _ _ => (pg_name (i := 1) sc_copied.nd rfl (.inl rfl))) (fun _ _ _ _ _ => pts_nil) (fun _ _ _ _ _ => (pe_c D_copied hr (by decide) (by rfl) (pa_cons (pv 1) pa_nil))))))
        pss_nil)
      (pss_cons (ps_if (pt_val (pe_callB call_isi (by rfl) T.isinstance (by decide +kernel) (pa_cons (pv 0) (pa_cons (pe_bltn (v := .ty "tuple") (by rfl) T.tuple (by decide +kernel) rfl) pa_nil))))
        (pss_one (ps_ret (pe_callTy (call_tuple_ofK (K := K) rfl) (by rfl) T.tuple (by decide +kernel) (pa_cons (pe_lc (own := [("part", 1)]) (g := gName 1) (by rfl) sc_copied.nd (pi_tup (pv 0)) (blkOk_by (own := [("part", 1)]) (N := n_copied) (sc := defScope s_copied) (by decide +kernel)) (fun _ _ _ _ _ => (pg_name (i := 1) sc_copied.nd rfl (.inl rfl))) (fun _ _ _ _ _ => pts_nil) (fun _ _ _ _ _ => (pe_c D_copied hr (by decide) (by rfl) (pa_cons (pv 1) pa_nil)))) pa_nil))))
        pss_nil)
      (pss_cons (ps_if (pt_val (pe_callB call_isi (by rfl) T.isinstance (by decide +kernel) (pa_cons (pv 0) (pa_cons (pe_bltn (v := .ty "dict") (by rfl) T.dict (by decide +kernel) rfl) pa_nil))))
        (pss_one (ps_ret (pe_lock (pe_dc (own := [("key", 2)]) (g := gName 2) (by rfl) sc_copied.nd (pi_keys (pv 0)) (blkOk_by (own := [("key", 2)]) (N := n_copied) (sc := defScope s_copied) (by decide +kernel)) (fun _ _ _ _ _ => (pg_name (i := 2) sc_copied.nd rfl (.inl rfl))) (fun _ _ _ _ _ => pts_nil) (fun _ _ _ _ _ => (pv 2)) (fun _ _ _ _ _ => (pe_c D_copied hr (by decide) (by rfl) (pa_cons (pe_dget (hu_of hr) (pv 0) (pv 2) (fun _ _ => rfl)) pa_nil)))))))
        pss_nil)
      (pss_one (ps_ret (pv 0)))))), ?_⟩
    refine ⟨_, rfl, _, .ty "list", t, .type "list", false, rfl, .ty _, ty, e1, false, rfl, iteF ?_⟩
    refine ⟨_, rfl, _, .ty "tuple", t, .type "tuple", false, rfl, .ty _, ty, e2, false, rfl, iteF ?_⟩
    refine ⟨_, rfl, _, .ty "dict", t, .type "dict", false, rfl, .ty _, ty, e3, false, rfl, iteF ?_⟩
    exact ⟨_, rfl, q⟩
theorem ok_copyW {f : Addr} {fd : FuncData} (F : Fun K "copied" "copied" s_copied f fd) (T : Tq mg) (D_copied : Df P w K mg base 1 "copied" (spCopied K)) : FnOk P w K mg base CX0 2 f fd ["value"] spCopyW := by
  refine F.ok sc_copied (fun vs H Q E h => ?_) (fun cdv A outer s H vs Q E hr h => ?_)
  · obtain ⟨x, d, rfl, _⟩ := h
    rfl
  · obtain ⟨x, d, rfl, tl, pv0, q⟩ := h
    refine ⟨_, (pss_cons (ps_if (pt_val (pe_callB call_isi (by rfl) T.isinstance (by decide +kernel) (pa_cons (pv 0) (pa_cons (pe_bltn (v := .ty "list") (by rfl) T.list (by decide +kernel) rfl) pa_nil))))
        (pss_one (ps_ret (pe_lc (own := [("part", 1)]) (g := gName 1) (by rfl) sc_copied.nd (pi_list (pv 0)) (blkOk_by (own := [("part", 1)]) (N := n_copied) (sc := defScope s_copied) (by decide +kernel)) (fun _ _ _ _ _ => (pg_name (i := 1) sc_copied.nd rfl (.inl rfl))) (fun _ _ _ _ _ => pts_nil) (fun _ _ _ _ _ => (pe_c D_copied hr (by decide) (by rfl) (pa_cons (pv 1) pa_nil))))))
        pss_nil)
      (pss_cons (ps_if (pt_val (pe_callB call_isi (by rfl) T.isinstance (by decide +kernel) (pa_cons (pv 0) (pa_cons (pe_bltn (v := .ty "tuple") (by rfl) T.tuple (by decide +kernel) rfl) pa_nil))))
        (pss_one (ps_ret (pe_callTy (call_tuple_ofK (K := K) rfl) (by rfl) T.tuple (by decide +kernel) (pa_cons (pe_lc (own := [("part", 1)]) (g := gName 1) (by rfl) sc_copied.nd (pi_tup (pv 0)) (blkOk_by (own := [("part", 1)]) (N := n_copied) (sc := defScope s_copied) (by decide +kernel)) (fun _ _ _ _ _ => (pg_name (i := 1) sc_copied.nd rfl (.inl rfl))) (fun _ _ _ _ _ => pts_nil) (fun _ _ _ _ _ => (pe_c D_copied hr (by decide) (by rfl) (pa_cons (pv 1) pa_nil)))) pa_nil))))
        pss_nil)
      (pss_cons (ps_if (pt_val (pe_callB call_isi (by rfl) T.isinstance (by decide +kernel) (pa_cons (pv 0) (pa_cons (pe_bltn (v := .ty "dict") (by rfl) T.dict (by decide +kernel) rfl) pa_nil))))
        (pss_one (ps_ret (pe_lock (pe_dc (own := [("key", 2)]) (g := gName 2) (by rfl) sc_copied.nd (pi_keys (pv 0)) (blkOk_by (own := [("key", 2)]) (N := n_copied) (sc := defScope s_copied) (by decide +kernel)) (fun _ _ _ _ _ => (pg_name (i := 2) sc_copied.nd rfl (.inl rfl))) (fun _ _ _ _ _ => pts_nil) (fun _ _ _ _ _ => (pv 2)) (fun _ _ _ _ _ => (pe_c D_copied hr (by decide) (by rfl) (pa_cons (pe_dget (hu_of hr) (pv 0) (pv 2) (fun _ _ => rfl)) pa_nil)))))))
        pss_nil)
      (pss_one (ps_ret (pv 0)))))), ?_⟩
    rcases tl with f | ⟨a, xs, rfl, ha | ha, l, fl⟩ | ⟨a, kvs, rfl, ha, l, nd, fl⟩
    · obtain ⟨t, ty, e1, e2, e3⟩ := f.ty (K := K)
      refine ⟨_, rfl, _, .ty "list", t, .type "list", false, rfl, .ty _, ty _, e1, false, rfl, iteF ?_⟩
      refine ⟨_, rfl, _, .ty "tuple", t, .type "tuple", false, rfl, .ty _, ty _, e2, false, rfl, iteF ?_⟩
      refine ⟨_, rfl, _, .ty "dict", t, .type "dict", false, rfl, .ty _, ty _, e3, false, rfl, iteF ?_⟩
      exact ⟨_, rfl, q _ _ (Same.refl H) pv0⟩
    · refine ⟨_, rfl, _, .ty "list", .type "tuple", .type "list", false, rfl, .ty _, .base (.tup ha), kit_ty (by decide +kernel), false, rfl, iteF ?_⟩
      refine ⟨_, rfl, _, .ty "tuple", .type "tuple", .type "tuple", true, rfl, .ty _, .base (.tup ha), kit_ty (by decide +kernel), true, rfl, iteT ?_⟩
      refine ⟨_, rfl, a, rfl, ⟨_, .inl (.inl ha)⟩, fun D nD => lc_it (walk_tup (K := K) (a := a) (xs := xs)) (fun i H2 => H2 = upd H D (.lst (xs.take i))) rfl ?_ ?_ ?_⟩
      · rintro i H2 hi rfl
        exact .inl (.inl (by rw [upd_ne (ne_of_none ha nD)]; exact ha))
      · rintro i y H2 H3 hi rfl ⟨rfl, hy⟩
        obtain ⟨hi', ey⟩ := List.getElem?_eq_some_iff.mp hy
        obtain ⟨t, ty, e1, e2, e3⟩ := (fl y (ey ▸ List.getElem_mem hi')).ty (K := K)
        refine ⟨rfl, _, rfl, y, t, rfl, ty _, e1, e2, e3, _, upd_same, ?_, ?_⟩
        · rw [List.length_take, sizeLine_eq]
          omega
        · rw [upd_upd, List.take_add_one, hy]
          rfl
      · rintro H2 rfl
        rw [List.take_length]
        refine ⟨D, xs, rfl, .inl ⟨SqL.of upd_same, fun b nb => ?_⟩⟩
        cases pv0 with
        | tup h r =>
          rw [ha] at h
          cases h
          exact q _ _ (same_put (s := same_put (s := Same.refl H) nD) nb) (.tup upd_same (flats_pyw fl r))
        | lst h r =>
          rw [ha] at h
          cases h
        | dic h r =>
          rw [ha] at h
          cases h
    · refine ⟨_, rfl, _, .ty "list", .type "list", .type "list", true, rfl, .ty _, .base (.lst ha), kit_ty (by decide +kernel), true, rfl, iteT ?_⟩
      refine ⟨_, rfl, a, rfl, ⟨_, SqL.of ha⟩, fun D nD => lc_it (walk_list (K := K) (a := a) (xs := xs)) (fun i H2 => H2 = upd H D (.lst (xs.take i))) rfl ?_ ?_ ?_⟩
      · rintro i H2 hi rfl
        exact SqL.of (by rw [upd_ne (ne_of_none ha nD)]; exact ha)
      · rintro i y H2 H3 hi rfl ⟨rfl, hy⟩
        obtain ⟨hi', ey⟩ := List.getElem?_eq_some_iff.mp hy
        obtain ⟨t, ty, e1, e2, e3⟩ := (fl y (ey ▸ List.getElem_mem hi')).ty (K := K)
        refine ⟨rfl, _, rfl, y, t, rfl, ty _, e1, e2, e3, _, upd_same, ?_, ?_⟩
        · rw [List.length_take, sizeLine_eq]
          omega
        · rw [upd_upd, List.take_add_one, hy]
          rfl
      · rintro H2 rfl
        rw [List.take_length]
        cases pv0 with
        | tup h r =>
          rw [ha] at h
          cases h
        | lst h r =>
          rw [ha] at h
          cases h
          exact q _ _ (same_put (s := Same.refl H) nD) (.lst upd_same (flats_pyw fl r))
        | dic h r =>
          rw [ha] at h
          cases h
    · refine ⟨_, rfl, _, .ty "list", .type "dict", .type "list", false, rfl, .ty _, .base (.dK ha), kit_ty (by decide +kernel), false, rfl, iteF ?_⟩
      refine ⟨_, rfl, _, .ty "tuple", .type "dict", .type "tuple", false, rfl, .ty _, .base (.dK ha), kit_ty (by decide +kernel), false, rfl, iteF ?_⟩
      refine ⟨_, rfl, _, .ty "dict", .type "dict", .type "dict", true, rfl, .ty _, .base (.dK ha), kit_ty (by decide +kernel), true, rfl, iteT ?_⟩
      refine ⟨a, _, ha, True.intro, fun od => ⟨_, rfl, a, od, rfl, .inl ⟨_, upd_same, fun D nD => dc_it (walk_keys (d := a) (o := od) (kvs := kvs)) (fun i H2 => H2 = upd (upd H a (.frz od (.dK kvs))) D (.dK (kvs.take i))) rfl ?_ ?_ ?_⟩⟩⟩
      · rintro i H2 hi rfl
        rw [upd_ne (ne_of_none upd_same nD)]
        exact upd_same
      · rintro i x H2 H3 hi rfl ⟨rfl, k, v, hk, rfl⟩
        obtain ⟨hi', ek⟩ := List.getElem?_eq_some_iff.mp hk
        obtain ⟨t, ty, e1, e2, e3⟩ := (fl v (List.mem_map.mpr ⟨(k, v), ek ▸ List.getElem_mem hi', rfl⟩)).ty (K := K)
        have ad : a ≠ D := ne_of_none (show upd H a (.frz od (.dK kvs)) a = _ from upd_same) nD
        refine ⟨rfl, _, rfl, _, rfl, _, rfl, a, v, rfl, .inl ⟨kvs, k, .inr ⟨od, by rw [upd_ne ad]; exact upd_same⟩, rfl, (valV_at nd hk).symm⟩, v, t, rfl, ty _, e1, e2, e3, kvs.take i, k, rfl, upd_same, ?_, ?_⟩
        · rw [List.length_take, sizeLine_eq]
          omega
        · rw [upd_upd, putK_new (not_take nd hk), List.take_add_one, hk]
          rfl
      · rintro H2 rfl
        rw [List.take_length]
        have ad : a ≠ D := ne_of_none (show upd H a (.frz od (.dK kvs)) a = _ from upd_same) nD
        have nD2 : H D = none := by
          rw [upd_ne (Ne.symm ad)] at nD
          exact nD
        have eH : upd (upd (upd H a (.frz od (.dK kvs))) D (.dK kvs)) a (.dK kvs) = upd H D (.dK kvs) := by
          funext b
          by_cases h1 : b = a
          · rw [h1, upd_same, upd_ne ad, ha]
          · by_cases h2 : b = D
            · rw [h2, upd_ne (Ne.symm ad), upd_same, upd_same]
            · rw [upd_ne h1, upd_ne h2, upd_ne h1, upd_ne h2]
        refine ⟨by rw [upd_ne ad]; exact upd_same, ?_⟩
        rw [eH]
        cases pv0 with
        | tup h r =>
          rw [ha] at h
          cases h
        | lst h r =>
          rw [ha] at h
          cases h
        | dic h r =>
          rw [ha] at h
          cases h
          exact q _ _ (same_put (s := Same.refl H) nD2) (.dic upd_same (flats_pyw fl r))
end
end V8
set_option Elab.async false
set_option linter.all false
set_option maxRecDepth 100000
set_option maxHeartbeats 4000000
/-! ~ by an own __invert__. -/
namespace L2
open PySem PySem.Spec PyProof.Rows
end L2
set_option Elab.async false
set_option linter.all false
set_option maxRecDepth 100000
set_option maxHeartbeats 4000000
/-! Own errors made and kept as values. -/
namespace L2
open PySem PySem.Spec PyProof.Rows
end L2
set_option Elab.async false
set_option linter.all false
set_option maxRecDepth 100000
set_option maxHeartbeats 4000000
/-! Own errors made by keywords. -/
namespace PySem
end PySem
namespace L2
open PySem PySem.Spec PyProof.Rows
end L2
set_option Elab.async false
set_option linter.all false
set_option maxRecDepth 100000
set_option maxHeartbeats 8000000
/-! The errors filled. -/
namespace V8
open PySem PySem.Spec PyProof.Rows L2
abbrev s_BadTable_init : Stmt := inClass (topS 12) 0
theorem sc_BadTable_init : FnScope ["self", "part"] ["self", "part"] (defScope s_BadTable_init) := ⟨rfl, rfl, rfl, by decide +kernel, rfl, by decide +kernel, by decide +kernel⟩
abbrev s_TooMany_init : Stmt := inClass (topS 15) 0
theorem sc_TooMany_init : FnScope ["self", "what", "most"] ["self", "what", "most"] (defScope s_TooMany_init) := ⟨rfl, rfl, rfl, by decide +kernel, rfl, by decide +kernel, by decide +kernel⟩
theorem len_app9 (a b : Str) : (a ++ b).length = a.length + b.length := strLen_append a b
/-- the base of the errors, by its name -/
structure Tb (K : PySem.W.Frag) (mg : Str → Option Value) (CE : Addr) : Prop where
  bE : mg "RepairError" = some (.ref CE)
  bR : ClX.CRead K CE (.type "type")
  bV : PySem.W.findCls K (.ref CE) (.type "type") "__init__" = some (.val (.builtin "ValueError.__init__"))
/-- a thing told to an error -/
structure Th1 (H : Hp) (x : V) (d : PyData) : Prop where
  tl : Told2 H x
  pw : PyW H x d
  te : Tells d
  sz : d.shown.length ≤ 3000
  dp : d.depth ≤ 1
theorem Told2.but {H H2 : Hp} {a : Addr} {x : V} {f : Heap → Prop} (t : Told2 H x) (s : ∀ b o, H b = some o → b ≠ a → H2 b = some o) (ha : H a = some (.ext f)) : Told2 H2 x := by
  have st : ∀ {b : Addr} {o : HO}, H b = some o → (∀ f, o ≠ .ext f) → H2 b = some o := fun {b o} e n => s b o e fun z => by
    rw [z, ha] at e
    exact n _ (Option.some.inj e).symm
  rcases t with f | ⟨b, xs, e, h, l, g⟩ | ⟨b, kvs, e, h, l, n, g⟩
  · exact .inl f
  · exact .inr (.inl ⟨b, xs, e, h.imp (fun h => st h fun _ z => nomatch z) (fun h => st h fun _ z => nomatch z), l, g⟩)
  · exact .inr (.inr ⟨b, kvs, e, st h (fun _ z => nomatch z), l, n, g⟩)
theorem Th1.same {H H2 : Hp} {x : V} {d : PyData} (t : Th1 H x d) (s : Same H H2) : Th1 H2 x d := ⟨t.tl.same s, t.pw.same s, t.te, t.sz, t.dp⟩
theorem Th1.but {H H2 : Hp} {a : Addr} {x : V} {d : PyData} {f : Heap → Prop} (t : Th1 H x d) (s : ∀ b o, H b = some o → b ≠ a → H2 b = some o) (ha : H a = some (.ext f)) : Th1 H2 x d := ⟨t.tl.but s ha, t.pw.but s ha, t.te, t.sz, t.dp⟩
def spErrW (K : PySem.W.Frag) (C : Addr) (fld : Str) : Sp := fun vs H Q _ => ∃ (a : Addr) (x : V) (d : PyData), vs = [.ref a, x] ∧ H a = some (exo a C none) ∧ OexC K C ∧ PySem.W.findIn K (.ref C) fld = some none ∧ Th1 H x d ∧
  ∀ y dx H1, Same H H1 → PyW H1 y d → H1 dx = none → dx ≠ a → Q .non (upd (upd H1 dx (exd dx [(fld, y)])) a (exo a C (some dx)))
def spErrW2 (K : PySem.W.Frag) (C : Addr) (f1 f2 : Str) : Sp := fun vs H Q _ => ∃ (a : Addr) (x1 x2 : V) (d1 d2 : PyData), vs = [.ref a, x1, x2] ∧ H a = some (exo a C none) ∧ OexC K C ∧ PySem.W.findIn K (.ref C) f1 = some none ∧ PySem.W.findIn K (.ref C) f2 = some none ∧ Th1 H x1 d1 ∧ Th1 H x2 d2 ∧
  ∀ y1 y2 dx H2, (∀ b o, H b = some o → b ≠ a → H2 b = some o) → PyW H2 y1 d1 → PyW H2 y2 d2 → H dx = none → dx ≠ a → H2 dx = some (exd dx [(f1, y1)]) → H2 a = some (exo a C (some dx)) → Q .non (upd H2 dx (exd dx [(f2, y2), (f1, y1)]))
theorem two_at {H H1 : Hp} {a dx : Addr} {o1 o2 : HO} (s : Same H H1) (n : H1 dx = none) : ∀ b o, H b = some o → b ≠ a → upd (upd H1 dx o1) a o2 b = some o := fun b o e nb => by
  rw [upd_ne nb, upd_ne (ne_of_none (s _ _ e) n)]
  exact s _ _ e
section
variable {P : Program} {w : World} {K : PySem.W.Frag} {mg : Str → Option Value} {base : Heap} {CE C : Addr}
theorem ok_BadTable {f : Addr} {fd : FuncData} (F : Fun K "__init__" "BadTable.__init__" s_BadTable_init f fd) (T : Tb K mg CE) (sys : SysIn base) (D_copied : Df P w K mg base 2 "copied" spCopyW) : FnG P w K mg base CX0 3 f fd ["self", "part"] (spErrW K C "part") := by
  refine F.okG sc_BadTable_init (fun vs H Q E h => ?_) (fun cdv A outer s H vs Q E quiet hr h => ?_)
  · obtain ⟨a, x, d, rfl, _⟩ := h
    rfl
  · obtain ⟨a, x1, d1, rfl, ha, oc, no, t1, q⟩ := h
    refine ⟨_, (pss_cons (ps_expr (pe_baseinit (by rfl) T.bE T.bR T.bV (pa_cons (pv 0) (pa_cons (pe_joinedT (pj_cons (pe_fmtW sys quiet hr (pv 1)) (pj_cons pe_str pj_nil))) pa_nil))))
      (pss_one (ps_ost (pv 0) (pe_c D_copied hr (by decide) (by rfl) (pa_cons (pv 1) pa_nil)) rfl))), ?_⟩
    have z1 := t1.sz
    have h0 : (" is not of the kind that it should be" : Str).length ≤ 1000 := by decide +kernel
    have he : Str.empty.length ≤ 1000 := by decide +kernel
    refine ⟨_, rfl, _, rfl, d1, t1.pw, t1.te, d1.shown, rfl, ?_, _, rfl, ?_, a, C, _, rfl, (by show 1 ≤ 1000; decide), oc, ha, ?_⟩
    · simp only [len_app9, sizeLine_eq]
      try simp only [len_app9] at *
      omega
    · simp only [len_app9, sizeLine_eq]
      try simp only [len_app9] at *
      omega
    · exact ⟨_, rfl, x1, d1, rfl, t1.tl, t1.pw, fun y H1 s1 p1 => ⟨_, rfl, a, C, rfl, oc, no, .inl ⟨s1 _ _ ha, fun dx n ne => q y dx H1 s1 p1 n ne⟩⟩⟩
theorem ok_TooMany {f : Addr} {fd : FuncData} (F : Fun K "__init__" "TooMany.__init__" s_TooMany_init f fd) (T : Tb K mg CE) (sys : SysIn base) (D_copied : Df P w K mg base 2 "copied" spCopyW) : FnG P w K mg base CX0 3 f fd ["self", "what", "most"] (spErrW2 K C "what" "most") := by
  refine F.okG sc_TooMany_init (fun vs H Q E h => ?_) (fun cdv A outer s H vs Q E quiet hr h => ?_)
  · obtain ⟨a, x1, x2, d1, d2, rfl, _⟩ := h
    rfl
  · obtain ⟨a, x1, x2, d1, d2, rfl, ha, oc, n1, n2, t1, t2, q⟩ := h
    refine ⟨_, (pss_cons (ps_expr (pe_baseinit (by rfl) T.bE T.bR T.bV (pa_cons (pv 0) (pa_cons (pe_joinedT (pj_cons pe_str (pj_cons (pe_fmtW sys quiet hr (pv 1)) (pj_cons pe_str (pj_cons (pe_fmtW sys quiet hr (pv 2)) pj_nil))))) pa_nil))))
      (pss_cons (ps_ost (pv 0) (pe_c D_copied hr (by decide) (by rfl) (pa_cons (pv 1) pa_nil)) rfl)
      (pss_one (ps_ost (pv 0) (pe_c D_copied hr (by decide) (by rfl) (pa_cons (pv 2) pa_nil)) rfl)))), ?_⟩
    have z1 := t1.sz
    have z2 := t2.sz
    have h0 : (Str.empty ++ ("too many: " : Str)).length ≤ 1000 := by decide +kernel
    have h1 : (", of which there can be " : Str).length ≤ 1000 := by decide +kernel
    refine ⟨_, rfl, _, rfl, ?_, _, rfl, d1, t1.pw, t1.te, d1.shown, rfl, ?_, _, rfl, ?_, _, rfl, d2, t2.pw, t2.te, d2.shown, rfl, ?_, a, C, _, rfl, (by show 1 ≤ 1000; decide), oc, ha, ?_⟩
    · simp only [len_app9, sizeLine_eq]
      try simp only [len_app9] at *
      omega
    · simp only [len_app9, sizeLine_eq]
      try simp only [len_app9] at *
      omega
    · simp only [len_app9, sizeLine_eq]
      try simp only [len_app9] at *
      omega
    · simp only [len_app9, sizeLine_eq]
      try simp only [len_app9] at *
      omega
    · refine ⟨_, rfl, x1, d1, rfl, t1.tl, t1.pw, fun y1 H1 s1 p1 => ⟨_, rfl, a, C, rfl, oc, n1, .inl ⟨s1 _ _ ha, fun dx n ne => ?_⟩⟩⟩
      have tt := two_at (a := a) (o1 := exd dx [("what", y1)]) (o2 := exo a C (some dx)) s1 n
      have t2' := t2.but tt ha
      have p1' := p1.but (H2 := upd (upd H1 dx (exd dx [("what", y1)])) a (exo a C (some dx))) (two_at (Same.refl H1) n) (s1 _ _ ha)
      refine ⟨_, rfl, x2, d2, rfl, t2'.tl, t2'.pw, fun y2 H2 s2 p2 => ⟨_, rfl, a, C, rfl, oc, n2, .inr ⟨dx, [("what", y1)], s2 _ _ upd_same, s2 _ _ (by rw [upd_ne ne]; exact upd_same), (by show 1 ≤ 900; decide), ?_⟩⟩⟩
      exact q y1 y2 dx H2 (fun b o e nb => s2 _ _ (tt b o e nb)) (p1'.same s2) p2 (same_none s1 n) ne (s2 _ _ (by rw [upd_ne ne]; exact upd_same)) (s2 _ _ upd_same)
end
end V8
set_option Elab.async false
set_option linter.all false
set_option maxRecDepth 100000
set_option maxHeartbeats 8000000
/-! Errors made and kept: their fields. -/
namespace V8
open PySem PySem.Spec PyProof.Rows L2
section
variable (P : Program) (w : World) (K : PySem.W.Frag) (mg : Str → Option Value) (base : Heap)
structure Er1 (x fld : Str) (C : Addr) : Prop where
  oc : OexC K C
  xc : ExcC K C
  no : PySem.W.findIn K (.ref C) fld = some none
  hm : mg x = some (.ref C)
  ex : ∃ (fI : Addr) (fd : FuncData) (ps : List Str), PySem.W.findIn K (.ref C) "__init__" = some (some (.ref fI)) ∧ PySem.W.typeIn K (.ref fI) = some (.type "function") ∧ FnG P w K mg base CX0 3 fI fd ps (spErrW K C fld) ∧ Binds K fd ps [] ∧ KBn K fd ps 1 [fld] (fun us ws => us ++ ws) (fun vs zs => vs ++ zs)
structure Er2 (x f1 f2 : Str) (C : Addr) : Prop where
  oc : OexC K C
  xc : ExcC K C
  n1 : PySem.W.findIn K (.ref C) f1 = some none
  n2 : PySem.W.findIn K (.ref C) f2 = some none
  hm : mg x = some (.ref C)
  ex : ∃ (fI : Addr) (fd : FuncData) (ps : List Str), PySem.W.findIn K (.ref C) "__init__" = some (some (.ref fI)) ∧ PySem.W.typeIn K (.ref fI) = some (.type "function") ∧ FnG P w K mg base CX0 3 fI fd ps (spErrW2 K C f1 f2) ∧ Binds K fd ps [] ∧ KBn K fd ps 1 [f2, f1] (fun us ws => us ++ ws.reverse) (fun vs zs => vs ++ zs.reverse)
end
/-! isinstance of such an error -/
structure KeptN (K : PySem.W.Frag) (H : Hp) (a D : Addr) : Prop where
  at_ : H a = some (CaughtO (.ref D) none a)
  cl : ExcC K D
/-- an error of the class D -/
def ErrAt (K : PySem.W.Frag) (H : Hp) (a D : Addr) : Prop := (∃ fs, KeptX K H a D fs) ∨ KeptN K H a D
theorem ErrAt.same {K : PySem.W.Frag} {H H2 : Hp} {a D : Addr} (e : ErrAt K H a D) (s : Same H H2) : ErrAt K H2 a D := by
  rcases e with ⟨fs, ⟨d, h1, h2⟩, c⟩ | ⟨h, c⟩
  · exact .inl ⟨fs, ⟨d, s _ _ h1, s _ _ h2⟩, c⟩
  · exact .inr ⟨s _ _ h, c⟩
/-! Such an error raised. -/
theorem pmk_one {X : Cx} {j : Nat} {x f1 : Str} {C : Addr} {p pos : Pos} {e : Expr} {es : List Expr} {ta : TA} (c : Er1 X.prog X.w X.K X.mg X.base x f1 C) (g : Quiet X.A) (r : Room j X.A) (hj : 4 ≤ j) (hg : Gl X x) (ha : PA X (e :: es) ta)
    (hdb : (x == ("__debug__" : Str)) = false := by decide) (he : starEach (e :: es) X.env = (false, eval e X.env) :: starEach es X.env := by rfl) (hpl : (backTo pos (starEach es X.env)).any (·.1) = false := by rfl) : PMk X (.Call (.Name x p) (e :: es) [] pos) (tMkO C (spErrW X.K C f1) [] ta) := by
  obtain ⟨fI, fd, ps, iC, tI, Fn, b, kb⟩ := c.ex
  exact (pmk_oexG c.oc iC tI Fn g (r.mono hj) b pass0 hg c.hm ha hdb he hpl).pmk
theorem pmk_two {X : Cx} {j : Nat} {x f1 f2 : Str} {C : Addr} {p pos : Pos} {e : Expr} {es : List Expr} {ta : TA} (c : Er2 X.prog X.w X.K X.mg X.base x f1 f2 C) (g : Quiet X.A) (r : Room j X.A) (hj : 4 ≤ j) (hg : Gl X x) (ha : PA X (e :: es) ta)
    (hdb : (x == ("__debug__" : Str)) = false := by decide) (he : starEach (e :: es) X.env = (false, eval e X.env) :: starEach es X.env := by rfl) (hpl : (backTo pos (starEach es X.env)).any (·.1) = false := by rfl) : PMk X (.Call (.Name x p) (e :: es) [] pos) (tMkO C (spErrW2 X.K C f1 f2) [] ta) := by
  obtain ⟨fI, fd, ps, iC, tI, Fn, b, kb⟩ := c.ex
  exact (pmk_oexG c.oc iC tI Fn g (r.mono hj) b pass0 hg c.hm ha hdb he hpl).pmk
/-- what is raised: an error of class C, its field told -/
def Rz1 (C : Addr) (fld : Str) (x : V) (H : Hp) (E : XK) : Prop := ∃ d, Th1 H x d ∧ ∀ dx y H2, Same H H2 → PyW H2 y d → H2 dx = some (.xd [(fld, y)]) → E (.ref C) (some dx) H2
theorem rz1 {K : PySem.W.Frag} {C : Addr} {fld : Str} {x : V} {H : Hp} {E : XK} {E0 : XK} (oc : OexC K C) (no : PySem.W.findIn K (.ref C) fld = some none) (h : Rz1 C fld x H E) (a : Addr) (na : H a = none) :
    spErrW K C fld (.ref a :: ([x] ++ [])) (upd H a (exo a C none)) (fun v H2 => v = .non ∧ ∃ (d : Addr) (fs : List (Str × V)), H2 a = some (exo a C (some d)) ∧ H2 d = some (exd d fs) ∧ H d = none ∧ E (.ref C) (some d) (upd (del H2 a) d (.xd fs))) E0 := by
  obtain ⟨d, t, q⟩ := h
  have s0 : Same H (upd H a (exo a C none)) := same_put (s := Same.refl H) na
  refine ⟨a, x, d, rfl, upd_same, oc, no, t.same s0, fun y dx H2 s2 p2 ndx ne => ⟨rfl, dx, [(fld, y)], upd_same, by rw [upd_ne ne]; exact upd_same, ?_, ?_⟩⟩
  · exact same_none (fun b o e => s2 _ _ (s0 _ _ e)) ndx
  · have keep : ∀ b o, H b = some o → upd (del (upd (upd H2 dx (exd dx [(fld, y)])) a (exo a C (some dx))) a) dx (.xd [(fld, y)]) b = some o := fun b o e => by
      have e2 : H2 b = some o := s2 _ _ (s0 _ _ e)
      rw [upd_ne (ne_of_none e2 ndx), del_ne (ne_of_none e na), upd_ne (ne_of_none e na), upd_ne (ne_of_none e2 ndx)]
      exact e2
    refine q dx y _ keep (p2.keep fun b o e k => ?_) upd_same
    have nd : b ≠ dx := ne_of_none e ndx
    have nb : b ≠ a := fun z => by
      rw [z, s2 _ _ upd_same] at e
      cases e
      rcases k with ⟨xs, k⟩ | ⟨xs, k⟩ | ⟨xs, k⟩ <;> cases k
    rw [upd_ne nd, del_ne nb, upd_ne nb, upd_ne nd]
    exact e
end V8
set_option Elab.async false
set_option linter.all false
/-! Meetings of two lists of words with labels, and words told apart: no program yet. -/
namespace MZ
abbrev Wd := List Nat
/-- a word and its label -/
abbrev Pr := Wd × Nat
def cat (xs : List Pr) : Wd := (xs.map (·.1)).flatten
def lab (xs : List Pr) : List Nat := xs.map (·.2)
theorem cat_nil : cat [] = [] := rfl
theorem cat_cons (x : Pr) (xs : List Pr) : cat (x :: xs) = x.1 ++ cat xs := rfl
theorem cat_app (xs ys : List Pr) : cat (xs ++ ys) = cat xs ++ cat ys := by
  unfold cat
  rw [List.map_append, List.flatten_append]
theorem lab_app (xs ys : List Pr) : lab (xs ++ ys) = lab xs ++ lab ys := List.map_append ..
theorem cat_one (x : Pr) : cat [x] = x.1 := by rw [cat_cons, cat_nil, List.append_nil]
/-- where a row comes to, or the start, or the end -/
inductive Pl where
  | start
  | fin
  | rest (one : Bool) (w : Wd)
  deriving DecidableEq
/-- where the row that is not ahead comes to with a word -/
def behind (a : Bool) (r w : Wd) : Option Pl :=
  if w = r then some .fin
  else if w.isPrefixOf r then some (.rest a (r.drop w.length))
  else if r.isPrefixOf w then some (.rest (!a) (w.drop r.length))
  else none
/-- a step: who takes, its label, where to -/
abbrev Mo := Bool × Nat × Pl
def moves (P S : List Pr) : Pl → List Mo
  | .fin => []
  | .start => P.map fun q => (true, q.2, .rest true q.1)
  | .rest a r => (if a = true then S else P).filterMap fun q => (behind a r q.1).map fun t => (!a, q.2, t)
/-- the labels of both rows with one more -/
def put (t : Bool) (l : Nat) (w : List Nat × List Nat) : List Nat × List Nat := if t = true then (w.1 ++ [l], w.2) else (w.1, w.2 ++ [l])
/-- a way from a place to another one, with its labels behind some -/
inductive Way (P S : List Pr) (o : Pl) : Pl → List Nat × List Nat → Prop where
  | nil : Way P S o o ([], [])
  | step {p : Pl} {w : List Nat × List Nat} {t : Bool} {l : Nat} {q : Pl} : Way P S o p w → (t, l, q) ∈ moves P S p → Way P S o q (put t l w)
theorem behind_cases {a : Bool} {r w : Wd} {t : Pl} (h : behind a r w = some t) : (w = r ∧ t = .fin) ∨ (∃ z, z ≠ [] ∧ r = w ++ z ∧ t = .rest a z) ∨ ∃ z, z ≠ [] ∧ w = r ++ z ∧ t = .rest (!a) z := by
  unfold behind at h
  split at h
  · exact .inl ⟨by assumption, (Option.some.inj h).symm⟩
  · rename_i ne
    split at h
    · rename_i p
      obtain ⟨z, rfl⟩ := List.isPrefixOf_iff_prefix.mp p
      refine .inr (.inl ⟨z, fun e => ?_, rfl, ?_⟩)
      · subst e
        exact ne (List.append_nil _).symm
      · rw [← Option.some.inj h, List.drop_left]
    · split at h
      · rename_i p
        obtain ⟨z, rfl⟩ := List.isPrefixOf_iff_prefix.mp p
        refine .inr (.inr ⟨z, fun e => ?_, rfl, ?_⟩)
        · subst e
          exact ne (List.append_nil _)
        · rw [← Option.some.inj h, List.drop_left]
      · cases h
theorem behind_eq (a : Bool) (r : Wd) : behind a r r = some .fin := if_pos rfl
theorem behind_lt (a : Bool) {r w z : Wd} (h : r = w ++ z) (hz : z ≠ []) : behind a r w = some (.rest a z) := by
  subst h
  unfold behind
  rw [if_neg, if_pos (List.isPrefixOf_iff_prefix.mpr ⟨z, rfl⟩), List.drop_left]
  intro e
  exact hz (List.append_cancel_left ((List.append_nil w).trans e)).symm
theorem behind_gt (a : Bool) {r w z : Wd} (h : w = r ++ z) (hz : z ≠ []) : behind a r w = some (.rest (!a) z) := by
  subst h
  unfold behind
  rw [if_neg, if_neg, if_pos (List.isPrefixOf_iff_prefix.mpr ⟨z, rfl⟩), List.drop_left]
  · intro p
    obtain ⟨y, e⟩ := List.isPrefixOf_iff_prefix.mp p
    rw [List.append_assoc] at e
    have e2 := List.append_cancel_left (e.trans (List.append_nil r).symm)
    exact hz (List.append_eq_nil_iff.mp e2).1
  · intro e
    exact hz (List.append_cancel_left (e.trans (List.append_nil r).symm))
/-- what stands at a place: the rows' texts so far -/
def At (p : Pl) (x y : Wd) : Prop := match p with
  | .start => x = [] ∧ y = []
  | .fin => x = y
  | .rest true r => x = y ++ r
  | .rest false r => y = x ++ r
/-- the words behind the labels of a way -/
theorem way_words {P S : List Pr} {p : Pl} {w : List Nat × List Nat} (h : Way P S .start p w) : ∃ xs ys, (∀ x ∈ xs, x ∈ P) ∧ (∀ y ∈ ys, y ∈ S) ∧ lab xs = w.1 ∧ lab ys = w.2 ∧ At p (cat xs) (cat ys) := by
  induction h with
  | nil => exact ⟨[], [], by simp, by simp, rfl, rfl, rfl, rfl⟩
  | @step p w t l q h m ih =>
    obtain ⟨xs, ys, hx, hy, lx, ly, at_⟩ := ih
    cases p with
    | fin => cases m
    | start =>
      obtain ⟨x, hxP, e⟩ := List.mem_map.mp m
      cases e
      obtain ⟨e1, e2⟩ := at_
      refine ⟨xs ++ [x], ys, fun z hz => ?_, hy, by rw [lab_app, lx]; rfl, ly, ?_⟩
      · rcases List.mem_append.mp hz with h | h
        · exact hx z h
        · rw [List.mem_singleton.mp h]
          exact hxP
      · show cat (xs ++ [x]) = cat ys ++ x.1
        rw [cat_app, e1, e2, cat_one]
    | rest a r =>
      obtain ⟨z, hz, e⟩ := List.mem_filterMap.mp m
      obtain ⟨q', eb, e2⟩ := Option.map_eq_some_iff.mp e
      cases e2
      cases a with
      | true =>
        have hz : z ∈ S := hz
        have at_ : cat xs = cat ys ++ r := at_
        refine ⟨xs, ys ++ [z], hx, fun y hy2 => ?_, lx, by rw [lab_app, ly]; rfl, ?_⟩
        · rcases List.mem_append.mp hy2 with h | h
          · exact hy y h
          · rw [List.mem_singleton.mp h]
            exact hz
        · rw [cat_app, cat_one]
          rcases behind_cases eb with ⟨e3, rfl⟩ | ⟨v, _, e3, rfl⟩ | ⟨v, _, e3, rfl⟩
          · show cat xs = _
            rw [at_, e3]
          · show cat xs = _ ++ v
            rw [at_, e3, List.append_assoc]
          · show _ = cat xs ++ v
            rw [at_, e3, List.append_assoc]
      | false =>
        have hz : z ∈ P := hz
        have at_ : cat ys = cat xs ++ r := at_
        refine ⟨xs ++ [z], ys, fun y hy2 => ?_, hy, by rw [lab_app, lx]; rfl, ly, ?_⟩
        · rcases List.mem_append.mp hy2 with h | h
          · exact hx y h
          · rw [List.mem_singleton.mp h]
            exact hz
        · rw [cat_app, cat_one]
          rcases behind_cases eb with ⟨e3, rfl⟩ | ⟨v, _, e3, rfl⟩ | ⟨v, _, e3, rfl⟩
          · show _ = cat ys
            rw [at_, e3]
          · show cat ys = _ ++ v
            rw [at_, e3, List.append_assoc]
          · show _ = cat ys ++ v
            rw [at_, e3, List.append_assoc]
theorem Way.trans {P S : List Pr} {o p q : Pl} {w v : List Nat × List Nat} (h : Way P S o p w) (k : Way P S p q v) : Way P S o q (w.1 ++ v.1, w.2 ++ v.2) := by
  induction k with
  | nil =>
    rw [List.append_nil, List.append_nil]
    exact h
  | @step r v t l q k m ih =>
    have z := ih.step m
    cases t with
    | true =>
      have e : put true l (w.1 ++ v.1, w.2 ++ v.2) = (w.1 ++ (put true l v).1, w.2 ++ (put true l v).2) := by
        show ((w.1 ++ v.1) ++ [l], _) = (w.1 ++ (v.1 ++ [l]), _)
        rw [List.append_assoc]
        rfl
      exact e ▸ z
    | false =>
      have e : put false l (w.1 ++ v.1, w.2 ++ v.2) = (w.1 ++ (put false l v).1, w.2 ++ (put false l v).2) := by
        show (_, (w.2 ++ v.2) ++ [l]) = (_, w.2 ++ (v.2 ++ [l]))
        rw [List.append_assoc]
        rfl
      exact e ▸ z
/-- from a rest on: the rows' words lead to the end, if what is ahead is taken up -/
theorem way_on {P S : List Pr} (hP : ∀ q ∈ P, q.1 ≠ []) (hS : ∀ q ∈ S, q.1 ≠ []) : ∀ (n : Nat) (a : Bool) (r : Wd) (xs ys : List Pr), xs.length + ys.length ≤ n → r ≠ [] → (∀ x ∈ xs, x ∈ P) → (∀ y ∈ ys, y ∈ S) → (if a = true then r ++ cat xs = cat ys else r ++ cat ys = cat xs) →
    ∃ xs1 xs2 ys1 ys2, xs = xs1 ++ xs2 ∧ ys = ys1 ++ ys2 ∧ Way P S (.rest a r) .fin (lab xs1, lab ys1) ∧ cat xs2 = cat ys2
  | 0, a, r, xs, ys, hn, hr, hx, hy, e => by
    have e1 : xs = [] := List.eq_nil_of_length_eq_zero (by omega)
    have e2 : ys = [] := List.eq_nil_of_length_eq_zero (by omega)
    subst e1 e2
    cases a with
    | true =>
      have e : r ++ [] = [] := e
      rw [List.append_nil] at e
      exact absurd e hr
    | false =>
      have e : r ++ [] = [] := e
      rw [List.append_nil] at e
      exact absurd e hr
  | n + 1, true, r, xs, ys, hn, hr, hx, hy, e => by
    have e : r ++ cat xs = cat ys := e
    cases ys with
    | nil =>
      rw [cat_nil] at e
      exact absurd (List.append_eq_nil_iff.mp e).1 hr
    | cons y ys =>
      rw [cat_cons] at e
      have hyS := hy y List.mem_cons_self
      have hys := fun z hz => hy z (List.mem_cons_of_mem _ hz)
      rw [List.length_cons] at hn
      have mv : ∀ {t : Pl}, behind true r y.1 = some t → (false, y.2, t) ∈ moves P S (.rest true r) := fun {t} h => List.mem_filterMap.mpr ⟨y, hyS, by rw [h]; rfl⟩
      rcases List.append_eq_append_iff.mp e with ⟨z, e1, e2⟩ | ⟨z, e1, e2⟩
      · -- y.1 = r ++ z
        by_cases hz : z = []
        · subst hz
          rw [List.append_nil] at e1
          refine ⟨[], xs, [y], ys, rfl, rfl, ?_, by rw [e2]; rfl⟩
          have h := Way.step (P := P) (S := S) (.nil (o := .rest true r)) (mv (by rw [e1]; exact behind_eq true r))
          exact h
        · obtain ⟨x1, x2, y1, y2, ex, ey, k, e3⟩ := way_on hP hS n false z xs ys (by omega) hz hx hys (by show z ++ cat ys = cat xs; exact e2.symm)
          refine ⟨x1, x2, y :: y1, y2, ex, by rw [ey]; rfl, ?_, e3⟩
          have h := (Way.step (P := P) (S := S) (.nil (o := .rest true r)) (mv (behind_gt true e1 hz))).trans k
          exact h
      · -- r = y.1 ++ z
        by_cases hz : z = []
        · subst hz
          rw [List.append_nil] at e1
          refine ⟨[], xs, [y], ys, rfl, rfl, ?_, e2.symm⟩
          have h := Way.step (P := P) (S := S) (.nil (o := .rest true r)) (mv (by rw [← e1]; exact behind_eq true r))
          exact h
        · obtain ⟨x1, x2, y1, y2, ex, ey, k, e3⟩ := way_on hP hS n true z xs ys (by omega) hz hx hys (by show z ++ cat xs = cat ys; exact e2.symm)
          refine ⟨x1, x2, y :: y1, y2, ex, by rw [ey]; rfl, ?_, e3⟩
          have h := (Way.step (P := P) (S := S) (.nil (o := .rest true r)) (mv (behind_lt true e1 hz))).trans k
          exact h
  | n + 1, false, r, xs, ys, hn, hr, hx, hy, e => by
    have e : r ++ cat ys = cat xs := e
    cases xs with
    | nil =>
      rw [cat_nil] at e
      exact absurd (List.append_eq_nil_iff.mp e).1 hr
    | cons x xs =>
      rw [cat_cons] at e
      have hxP := hx x List.mem_cons_self
      have hxs := fun z hz => hx z (List.mem_cons_of_mem _ hz)
      rw [List.length_cons] at hn
      have mv : ∀ {t : Pl}, behind false r x.1 = some t → (true, x.2, t) ∈ moves P S (.rest false r) := fun {t} h => List.mem_filterMap.mpr ⟨x, hxP, by rw [h]; rfl⟩
      rcases List.append_eq_append_iff.mp e with ⟨z, e1, e2⟩ | ⟨z, e1, e2⟩
      · by_cases hz : z = []
        · subst hz
          rw [List.append_nil] at e1
          refine ⟨[x], xs, [], ys, rfl, rfl, ?_, by rw [e2]; rfl⟩
          have h := Way.step (P := P) (S := S) (.nil (o := .rest false r)) (mv (by rw [e1]; exact behind_eq false r))
          exact h
        · obtain ⟨x1, x2, y1, y2, ex, ey, k, e3⟩ := way_on hP hS n true z xs ys (by omega) hz hxs hy (by show z ++ cat xs = cat ys; exact e2.symm)
          refine ⟨x :: x1, x2, y1, y2, by rw [ex]; rfl, ey, ?_, e3⟩
          have h := (Way.step (P := P) (S := S) (.nil (o := .rest false r)) (mv (behind_gt false e1 hz))).trans k
          exact h
      · by_cases hz : z = []
        · subst hz
          rw [List.append_nil] at e1
          refine ⟨[x], xs, [], ys, rfl, rfl, ?_, e2⟩
          have h := Way.step (P := P) (S := S) (.nil (o := .rest false r)) (mv (by rw [← e1]; exact behind_eq false r))
          exact h
        · obtain ⟨x1, x2, y1, y2, ex, ey, k, e3⟩ := way_on hP hS n false z xs ys (by omega) hz hxs hy (by show z ++ cat ys = cat xs; exact e2.symm)
          refine ⟨x :: x1, x2, y1, y2, by rw [ex]; rfl, ey, ?_, e3⟩
          have h := (Way.step (P := P) (S := S) (.nil (o := .rest false r)) (mv (behind_lt false e1 hz))).trans k
          exact h
/-- all meetings are alike -/
def Alike (P S : List Pr) : Prop := ∀ w, Way P S .start .fin w → w.1 = w.2
/-- the words tell the labels -/
def Uni (P S : List Pr) : Prop := ∀ xs ys : List Pr, (∀ x ∈ xs, x ∈ P) → (∀ y ∈ ys, y ∈ S) → cat xs = cat ys → lab xs = lab ys
theorem cat_empty {ys : List Pr} (h : ∀ y ∈ ys, y.1 ≠ []) (e : cat ys = []) : ys = [] := by
  cases ys with
  | nil => rfl
  | cons y ys =>
    rw [cat_cons] at e
    exact absurd (List.append_eq_nil_iff.mp e).1 (h y List.mem_cons_self)
theorem uni_of {P S : List Pr} (hP : ∀ q ∈ P, q.1 ≠ []) (hS : ∀ q ∈ S, q.1 ≠ []) (h : Alike P S) : ∀ (n : Nat) (xs ys : List Pr), xs.length + ys.length ≤ n → (∀ x ∈ xs, x ∈ P) → (∀ y ∈ ys, y ∈ S) → cat xs = cat ys → lab xs = lab ys
  | n, [], ys, hn, hx, hy, e => by
    have e2 : ys = [] := cat_empty (fun y m => hS y (hy y m)) e.symm
    rw [e2]
  | 0, x :: xs, ys, hn, hx, hy, e => by
    rw [List.length_cons] at hn
    omega
  | n + 1, x :: xs, ys, hn, hx, hy, e => by
    have hxP := hx x List.mem_cons_self
    have hxs := fun z hz => hx z (List.mem_cons_of_mem _ hz)
    rw [cat_cons] at e
    obtain ⟨x1, x2, y1, y2, ex, ey, k, e2⟩ := way_on hP hS (xs.length + ys.length) true x.1 xs ys (Nat.le_refl _) (hP x hxP) hxs hy (by show x.1 ++ cat xs = cat ys; exact e)
    have h0 : Way P S .start (.rest true x.1) ([x.2], []) := Way.step (P := P) (S := S) (.nil (o := .start)) (t := true) (l := x.2) (q := .rest true x.1) (List.mem_map.mpr ⟨x, hxP, rfl⟩)
    have e3 : [x.2] ++ lab x1 = [] ++ lab y1 := h _ (h0.trans k)
    have hl : x1.length + x2.length = xs.length := by rw [ex, List.length_append]
    have hl2 : y1.length + y2.length = ys.length := by rw [ey, List.length_append]
    rw [List.length_cons] at hn
    have ih := uni_of hP hS h n x2 y2 (by omega) (fun z m => hxs z (by rw [ex]; exact List.mem_append_right _ m)) (fun z m => hy z (by rw [ey]; exact List.mem_append_right _ m)) e2
    show x.2 :: lab xs = lab ys
    rw [ex, ey, lab_app, lab_app, ih]
    show ([x.2] ++ lab x1) ++ _ = _
    rw [e3]
    rfl
theorem alike_iff {P S : List Pr} (hP : ∀ q ∈ P, q.1 ≠ []) (hS : ∀ q ∈ S, q.1 ≠ []) : Alike P S ↔ Uni P S := by
  constructor
  · exact fun h xs ys hx hy e => uni_of hP hS h (xs.length + ys.length) xs ys (Nat.le_refl _) hx hy e
  · intro h w k
    obtain ⟨xs, ys, hx, hy, lx, ly, e⟩ := way_words k
    rw [← lx, ← ly]
    exact h xs ys hx hy e
/-! ### leads -/
def lead (w : List Nat × List Nat) : Option (Bool × List Nat) :=
  if w.2.isPrefixOf w.1 then some (true, w.1.drop w.2.length) else if w.1.isPrefixOf w.2 then some (false, w.2.drop w.1.length) else none
theorem lead_one (b d : List Nat) : lead (b ++ d, b) = some (true, d) := by
  unfold lead
  rw [if_pos (List.isPrefixOf_iff_prefix.mpr ⟨d, rfl⟩), List.drop_left]
theorem lead_two (a : List Nat) {d : List Nat} (h : d ≠ []) : lead (a, a ++ d) = some (false, d) := by
  unfold lead
  rw [if_neg, if_pos (List.isPrefixOf_iff_prefix.mpr ⟨d, rfl⟩), List.drop_left]
  intro p
  obtain ⟨y, e⟩ := List.isPrefixOf_iff_prefix.mp p
  have e : a ++ d ++ y = a := e
  rw [List.append_assoc] at e
  exact h (List.append_eq_nil_iff.mp (List.append_cancel_left (e.trans (List.append_nil a).symm))).1
theorem lead_some {w : List Nat × List Nat} {k : Bool × List Nat} (h : lead w = some k) : (k.1 = true ∧ w.1 = w.2 ++ k.2) ∨ (k.1 = false ∧ k.2 ≠ [] ∧ w.2 = w.1 ++ k.2) := by
  obtain ⟨a, b⟩ := w
  unfold lead at h
  split at h
  · rename_i p
    obtain ⟨y, e⟩ := List.isPrefixOf_iff_prefix.mp p
    have e : b ++ y = a := e
    subst e
    rw [← Option.some.inj h]
    exact .inl ⟨rfl, by show b ++ y = b ++ (b ++ y).drop b.length; rw [List.drop_left]⟩
  · rename_i np
    split at h
    · rename_i p
      obtain ⟨y, e⟩ := List.isPrefixOf_iff_prefix.mp p
      have e : a ++ y = b := e
      subst e
      rw [← Option.some.inj h]
      refine .inr ⟨rfl, ?_, by show a ++ y = a ++ (a ++ y).drop a.length; rw [List.drop_left]⟩
      show (a ++ y).drop a.length ≠ []
      rw [List.drop_left]
      intro e
      subst e
      exact np (List.isPrefixOf_iff_prefix.mpr ⟨[], by show a ++ [] ++ [] = a; simp⟩)
    · cases h
theorem lead_cancel (c a b : List Nat) : lead (c ++ a, c ++ b) = lead (a, b) := by
  unfold lead
  have e : ∀ x y : List Nat, (c ++ x).isPrefixOf (c ++ y) = x.isPrefixOf y := fun x y => by
    rw [Bool.eq_iff_iff, List.isPrefixOf_iff_prefix, List.isPrefixOf_iff_prefix, List.prefix_append_right_inj]
  have e2 : ∀ x y : List Nat, (c ++ x).drop (c ++ y).length = x.drop y.length := fun x y => by
    rw [List.length_append, ← List.drop_drop, List.drop_left]
  show (if (c ++ b).isPrefixOf (c ++ a) = true then some (true, (c ++ a).drop (c ++ b).length) else if (c ++ a).isPrefixOf (c ++ b) = true then some (false, (c ++ b).drop (c ++ a).length) else none) = _
  rw [e, e, e2, e2]
/-- with one more, a lead tells the next -/
def nextL (t : Bool) (l : Nat) (k : Bool × List Nat) : Option (Bool × List Nat) := lead (put t l (if k.1 = true then (k.2, []) else ([], k.2)))
theorem lead_put {w : List Nat × List Nat} {k : Bool × List Nat} (h : lead w = some k) (t : Bool) (l : Nat) : lead (put t l w) = nextL t l k := by
  obtain ⟨a, b⟩ := w
  obtain ⟨k1, d⟩ := k
  rcases lead_some h with ⟨e1, e2⟩ | ⟨e1, _, e2⟩
  · obtain rfl : k1 = true := e1
    obtain rfl : a = b ++ d := e2
    cases t with
    | true =>
      show lead ((b ++ d) ++ [l], b) = lead (d ++ [l], [])
      rw [List.append_assoc]
      have := lead_cancel b (d ++ [l]) []
      rw [List.append_nil] at this
      exact this
    | false => exact lead_cancel b d [l]
  · obtain rfl : k1 = false := e1
    obtain rfl : b = a ++ d := e2
    cases t with
    | true => exact lead_cancel a [l] d
    | false =>
      show lead (a, (a ++ d) ++ [l]) = lead ([], d ++ [l])
      rw [List.append_assoc]
      have := lead_cancel a [] (d ++ [l])
      rw [List.append_nil] at this
      exact this
theorem lead_even {w : List Nat × List Nat} (h : lead w = some (true, [])) : w.1 = w.2 := by
  rcases lead_some h with ⟨_, e⟩ | ⟨e, _⟩
  · rw [e]
    exact List.append_nil _
  · cases e
theorem even_lead {w : List Nat × List Nat} (h : w.1 = w.2) : lead w = some (true, []) := by
  obtain ⟨a, b⟩ := w
  have h : a = b := h
  subst h
  have := lead_one a []
  rw [List.append_nil] at this
  exact this
/-- what is known of a place by the way that is kept to it -/
def known (W : Pl → List Nat × List Nat) : Pl → Option (Bool × List Nat)
  | .fin => some (true, [])
  | p => lead (W p)
/-- where every step into a living place has the lead that is known, all meetings are alike -/
theorem alike_of {P S : List Pr} {W : Pl → List Nat × List Nat} {L : Pl → Prop} (h0 : W .start = ([], [])) (hL : ∀ p v, Way P S p .fin v → L p)
    (hc : ∀ p w, Way P S .start p w → ∀ t l q, (t, l, q) ∈ moves P S p → L q → ∃ k, lead (put t l (W p)) = some k ∧ known W q = some k) : Alike P S := by
  have key : ∀ p w, Way P S .start p w → ∀ v, Way P S p .fin v → ∃ k, lead w = some k ∧ known W p = some k := by
    intro p w h
    induction h with
    | nil =>
      intro v _
      exact ⟨(true, []), even_lead rfl, by show lead (W .start) = _; rw [h0]; exact even_lead rfl⟩
    | @step p w t l q h m ih =>
      intro v k
      have hp : Way P S p .fin _ := (Way.step (P := P) (S := S) (.nil (o := p)) m).trans k
      obtain ⟨k0, e1, e2⟩ := ih _ hp
      have pf : known W p = lead (W p) := by
        cases p with
        | fin => cases m
        | start => rfl
        | rest a r => rfl
      rw [pf] at e2
      obtain ⟨k1, e3, e4⟩ := hc p w h t l q m (hL q v k)
      exact ⟨k1, by rw [lead_put e1, ← lead_put e2, e3], e4⟩
  intro w h
  obtain ⟨k, e1, e2⟩ := key .fin w h _ .nil
  have e2 : some (true, []) = some k := e2
  rw [← Option.some.inj e2] at e1
  exact lead_even e1
/-- labels that end alike behind the same rest have the same lead -/
theorem lead_back {a b v : List Nat × List Nat} (h1 : a.1 ++ v.1 = a.2 ++ v.2) (h2 : b.1 ++ v.1 = b.2 ++ v.2) : ∃ k, lead a = some k ∧ lead b = some k := by
  obtain ⟨a1, a2⟩ := a
  obtain ⟨b1, b2⟩ := b
  obtain ⟨v1, v2⟩ := v
  have h1 : a1 ++ v1 = a2 ++ v2 := h1
  have h2 : b1 ++ v1 = b2 ++ v2 := h2
  rcases List.append_eq_append_iff.mp h1 with ⟨z, e1, e2⟩ | ⟨z, e1, e2⟩
  · -- a2 = a1 ++ z, v1 = z ++ v2
    subst e1 e2
    rw [← List.append_assoc] at h2
    have e3 : b2 = b1 ++ z := (List.append_cancel_right h2).symm
    subst e3
    by_cases hz : z = []
    · subst hz
      exact ⟨(true, []), even_lead (by show a1 = a1 ++ []; rw [List.append_nil]), even_lead (by show b1 = b1 ++ []; rw [List.append_nil])⟩
    · exact ⟨_, lead_two a1 hz, lead_two b1 hz⟩
  · -- a1 = a2 ++ z, v2 = z ++ v1
    subst e1 e2
    rw [← List.append_assoc] at h2
    have e3 : b1 = b2 ++ z := List.append_cancel_right h2
    subst e3
    exact ⟨_, lead_one a2 z, lead_one b2 z⟩
/-! ### what is left where words begin with one another -/
inductive Dg (ws : List Wd) : Wd → Prop where
  | init {a b r : Wd} : a ∈ ws → b ∈ ws → r ≠ [] → a = b ++ r → Dg ws r
  | cut {r w z : Wd} : Dg ws r → w ∈ ws → r = w ++ z → z ≠ [] → Dg ws z
  | ext {r w z : Wd} : Dg ws r → w ∈ ws → w = r ++ z → z ≠ [] → Dg ws z
/-- rows of words that begin with unlike ones and differ by a rest -/
theorem dg_rows {P : List Pr} {r : Wd} (h : Dg (P.map (·.1)) r) : r ≠ [] ∧ ∃ (x y : Pr) (xs ys : List Pr), x ∈ P ∧ y ∈ P ∧ x.1 ≠ y.1 ∧ (∀ z ∈ xs, z ∈ P) ∧ (∀ z ∈ ys, z ∈ P) ∧ cat (x :: xs) = cat (y :: ys) ++ r := by
  induction h with
  | @init a b r ha hb hr e =>
    obtain ⟨x, hx, rfl⟩ := List.mem_map.mp ha
    obtain ⟨y, hy, rfl⟩ := List.mem_map.mp hb
    refine ⟨hr, x, y, [], [], hx, hy, fun z => ?_, by simp, by simp, by rw [cat_one, cat_one, e]⟩
    rw [z] at e
    exact hr (List.append_cancel_left (e.symm.trans (List.append_nil _).symm))
  | @cut r w z _ hw e hz ih =>
    obtain ⟨_, x, y, xs, ys, hx, hy, ne, hxs, hys, ec⟩ := ih
    obtain ⟨q, hq, rfl⟩ := List.mem_map.mp hw
    refine ⟨hz, x, y, xs, ys ++ [q], hx, hy, ne, hxs, fun v hv => ?_, ?_⟩
    · rcases List.mem_append.mp hv with h | h
      · exact hys v h
      · rw [List.mem_singleton.mp h]
        exact hq
    · show _ = cat ((y :: ys) ++ [q]) ++ z
      rw [cat_app, cat_one, ec, e, List.append_assoc]
  | @ext r w z _ hw e hz ih =>
    obtain ⟨_, x, y, xs, ys, hx, hy, ne, hxs, hys, ec⟩ := ih
    obtain ⟨q, hq, rfl⟩ := List.mem_map.mp hw
    refine ⟨hz, y, x, ys ++ [q], xs, hy, hx, fun e => ne e.symm, fun v hv => ?_, hxs, ?_⟩
    · rcases List.mem_append.mp hv with h | h
      · exact hys v h
      · rw [List.mem_singleton.mp h]
        exact hq
    · show cat ((y :: ys) ++ [q]) = _ ++ z
      rw [cat_app, cat_one, ec, e, List.append_assoc]
/-- no rest that is a word: nothing can end -/
theorem dg_on {P : List Pr} (hn : ∀ r, Dg (P.map (·.1)) r → r ∉ P.map (·.1)) : ∀ (n : Nat) (r : Wd) (xs ys : List Pr), xs.length + ys.length ≤ n → r ≠ [] → Dg (P.map (·.1)) r → (∀ z ∈ xs, z ∈ P) → (∀ z ∈ ys, z ∈ P) → r ++ cat xs = cat ys → False
  | n, r, xs, [], _, hr, _, _, _, e => hr (List.append_eq_nil_iff.mp e).1
  | 0, r, xs, y :: ys, hn2, _, _, _, _, _ => by
    rw [List.length_cons] at hn2
    omega
  | n + 1, r, xs, y :: ys, hn2, hr, hd, hx, hy, e => by
    have hyP := hy y List.mem_cons_self
    have hys := fun z hz => hy z (List.mem_cons_of_mem _ hz)
    have hw : y.1 ∈ P.map (·.1) := List.mem_map_of_mem hyP
    rw [cat_cons] at e
    rw [List.length_cons] at hn2
    rcases List.append_eq_append_iff.mp e with ⟨z, e1, e2⟩ | ⟨z, e1, e2⟩
    · by_cases hz : z = []
      · subst hz
        rw [List.append_nil] at e1
        exact hn r hd (e1 ▸ hw)
      · exact dg_on hn n z ys xs (by omega) hz (.ext hd hw e1 hz) hys hx e2.symm
    · by_cases hz : z = []
      · subst hz
        rw [List.append_nil] at e1
        exact hn r hd (e1 ▸ hw)
      · exact dg_on hn n z xs ys (by omega) hz (.cut hd hw e1 hz) hx hys e2.symm
/-- the labels of P are unlike -/
def Lbl (P : List Pr) : Prop := ∀ x ∈ P, ∀ y ∈ P, x.2 = y.2 → x = y
theorem uni_sp {P : List Pr} (hP : ∀ q ∈ P, q.1 ≠ []) (hd : ∀ x ∈ P, ∀ y ∈ P, x.1 = y.1 → x = y) (hn : ∀ r, Dg (P.map (·.1)) r → r ∉ P.map (·.1)) : ∀ xs ys : List Pr, (∀ x ∈ xs, x ∈ P) → (∀ y ∈ ys, y ∈ P) → cat xs = cat ys → xs = ys
  | [], ys, _, hy, e => (cat_empty (fun y m => hP y (hy y m)) e.symm).symm
  | x :: xs, [], hx, _, e => by
    rw [cat_cons] at e
    exact absurd (List.append_eq_nil_iff.mp e).1 (hP x (hx x List.mem_cons_self))
  | x :: xs, y :: ys, hx, hy, e => by
    have hxP := hx x List.mem_cons_self
    have hyP := hy y List.mem_cons_self
    have hxs := fun z hz => hx z (List.mem_cons_of_mem _ hz)
    have hys := fun z hz => hy z (List.mem_cons_of_mem _ hz)
    rw [cat_cons, cat_cons] at e
    rcases List.append_eq_append_iff.mp e with ⟨z, e1, e2⟩ | ⟨z, e1, e2⟩
    · by_cases hz : z = []
      · subst hz
        rw [List.append_nil] at e1
        rw [hd x hxP y hyP e1.symm, uni_sp hP hd hn xs ys hxs hys e2]
      · exact (dg_on hn _ z ys xs (Nat.le_refl _) hz (.init (List.mem_map_of_mem hyP) (List.mem_map_of_mem hxP) hz e1) hys hxs e2.symm).elim
    · by_cases hz : z = []
      · subst hz
        rw [List.append_nil] at e1
        rw [hd x hxP y hyP e1, uni_sp hP hd hn xs ys hxs hys e2.symm]
      · exact (dg_on hn _ z xs ys (Nat.le_refl _) hz (.init (List.mem_map_of_mem hxP) (List.mem_map_of_mem hyP) hz e1) hxs hys e2.symm).elim
/-- words that are told apart by what is left, and by no rest that is a word -/
theorem uni_iff {P : List Pr} (hP : ∀ q ∈ P, q.1 ≠ []) (hl : Lbl P) : Uni P P ↔ (∀ x ∈ P, ∀ y ∈ P, x.1 = y.1 → x = y) ∧ ∀ r, Dg (P.map (·.1)) r → r ∉ P.map (·.1) := by
  constructor
  · intro h
    refine ⟨fun x hx y hy e => ?_, fun r hd hm => ?_⟩
    · have e2 := h [x] [y] (fun z hz => by rw [List.mem_singleton.mp hz]; exact hx) (fun z hz => by rw [List.mem_singleton.mp hz]; exact hy) (by rw [cat_one, cat_one, e])
      exact hl x hx y hy (List.head_eq_of_cons_eq e2)
    · obtain ⟨hr, x, y, xs, ys, hx, hy, ne, hxs, hys, e⟩ := dg_rows hd
      obtain ⟨q, hq, rfl⟩ := List.mem_map.mp hm
      have e2 := h (x :: xs) ((y :: ys) ++ [q]) (fun z hz => ?_) (fun z hz => ?_) (by rw [cat_app, cat_one]; exact e)
      · have e3 : x.2 :: lab xs = y.2 :: lab (ys ++ [q]) := e2
        exact ne (congrArg (·.1) (hl x hx y hy (List.head_eq_of_cons_eq e3)))
      · rcases List.mem_cons.mp hz with rfl | h
        · exact hx
        · exact hxs z h
      · rcases List.mem_append.mp hz with h | h
        · rcases List.mem_cons.mp h with rfl | h
          · exact hy
          · exact hys z h
        · rw [List.mem_singleton.mp h]
          exact hq
  · intro ⟨hd, hn⟩ xs ys hx hy e
    rw [uni_sp hP hd hn xs ys hx hy e]
end MZ
set_option Elab.async false
set_option linter.all false
/-! Places gone through one by one, as the program goes through them. -/
namespace MZ
/-- the places met, with those of some steps behind them -/
def addTo (Q : List Pl) (f : List Mo) : List Pl := f.foldl (fun Q m => if m.2.2 ∈ Q then Q else Q ++ [m.2.2]) Q
theorem addTo_cons (Q : List Pl) (m : Mo) (f : List Mo) : addTo Q (m :: f) = addTo (if m.2.2 ∈ Q then Q else Q ++ [m.2.2]) f := rfl
theorem addTo_has : ∀ (f : List Mo) (Q : List Pl) (p : Pl), p ∈ addTo Q f ↔ p ∈ Q ∨ ∃ m ∈ f, m.2.2 = p
  | [], Q, p => by
    show p ∈ Q ↔ _
    simp
  | m :: f, Q, p => by
    rw [addTo_cons, addTo_has f]
    by_cases h : m.2.2 ∈ Q
    · rw [if_pos h]
      constructor
      · rintro (a | ⟨x, hx, e⟩)
        · exact .inl a
        · exact .inr ⟨x, List.mem_cons_of_mem _ hx, e⟩
      · rintro (a | ⟨x, hx, e⟩)
        · exact .inl a
        · rcases List.mem_cons.mp hx with rfl | hx
          · exact .inl (e ▸ h)
          · exact .inr ⟨x, hx, e⟩
    · rw [if_neg h]
      constructor
      · rintro (a | ⟨x, hx, e⟩)
        · rcases List.mem_append.mp a with a | a
          · exact .inl a
          · exact .inr ⟨m, List.mem_cons_self, (List.mem_singleton.mp a).symm⟩
        · exact .inr ⟨x, List.mem_cons_of_mem _ hx, e⟩
      · rintro (a | ⟨x, hx, e⟩)
        · exact .inl (List.mem_append_left _ a)
        · rcases List.mem_cons.mp hx with rfl | hx
          · exact .inl (List.mem_append_right _ (by rw [e]; exact List.mem_singleton_self _))
          · exact .inr ⟨x, hx, e⟩
theorem addTo_nd : ∀ (f : List Mo) (Q : List Pl), Q.Nodup → (addTo Q f).Nodup
  | [], Q, h => h
  | m :: f, Q, h => by
    rw [addTo_cons]
    refine addTo_nd f _ ?_
    by_cases z : m.2.2 ∈ Q
    · rw [if_pos z]
      exact h
    · rw [if_neg z]
      refine List.nodup_append.mpr ⟨h, by simp, fun x hx y hy e => ?_⟩
      rw [List.mem_singleton.mp hy] at e
      exact z (e ▸ hx)
theorem addTo_pre : ∀ (f : List Mo) (Q : List Pl), ∃ R, addTo Q f = Q ++ R
  | [], Q => ⟨[], (List.append_nil Q).symm⟩
  | m :: f, Q => by
    rw [addTo_cons]
    by_cases z : m.2.2 ∈ Q
    · rw [if_pos z]
      exact addTo_pre f Q
    · rw [if_neg z]
      obtain ⟨R, e⟩ := addTo_pre f (Q ++ [m.2.2])
      exact ⟨m.2.2 :: R, by rw [e, List.append_assoc]; rfl⟩
/-- the first n places of Q are gone through -/
structure Bfs (P S : List Pr) (o : Pl) (Q : List Pl) (n : Nat) : Prop where
  nd : Q.Nodup
  head : Q[0]? = some o
  le : n ≤ Q.length
  reach : ∀ p ∈ Q, ∃ w, Way P S o p w
  closed : ∀ i, i < n → ∀ p, Q[i]? = some p → ∀ m ∈ moves P S p, m.2.2 ∈ Q
theorem Bfs.start (P S : List Pr) (o : Pl) : Bfs P S o [o] 0 := ⟨by simp, rfl, Nat.zero_le _, fun p h => by rw [List.mem_singleton.mp h]; exact ⟨_, .nil⟩, fun i h => absurd h (Nat.not_lt_zero _)⟩
theorem Bfs.step {P S : List Pr} {o p : Pl} {Q : List Pl} {n : Nat} (b : Bfs P S o Q n) (h : Q[n]? = some p) : Bfs P S o (addTo Q (moves P S p)) (n + 1) := by
  obtain ⟨hn, ep⟩ := List.getElem?_eq_some_iff.mp h
  obtain ⟨R, eR⟩ := addTo_pre (moves P S p) Q
  have hp : p ∈ Q := ep ▸ List.getElem_mem hn
  have low : ∀ i, i < Q.length → (addTo Q (moves P S p))[i]? = Q[i]? := fun i hi => by rw [eR, List.getElem?_append_left hi]
  refine ⟨addTo_nd _ _ b.nd, ?_, ?_, fun q hq => ?_, fun i hi q e m hm => ?_⟩
  · rw [low 0 (by omega)]
    exact b.head
  · rw [eR, List.length_append]
    omega
  · rcases (addTo_has _ _ _).mp hq with a | ⟨m, hm, rfl⟩
    · exact b.reach q a
    · obtain ⟨w, k⟩ := b.reach p hp
      exact ⟨_, k.step (t := m.1) (l := m.2.1) (q := m.2.2) hm⟩
  · rw [low i (by omega)] at e
    by_cases hi2 : i < n
    · exact (addTo_has _ _ _).mpr (.inl (b.closed i hi2 q e m hm))
    · have : i = n := by omega
      subst this
      rw [h] at e
      cases e
      exact (addTo_has _ _ _).mpr (.inr ⟨m, hm, rfl⟩)
theorem Bfs.all {P S : List Pr} {o : Pl} {Q : List Pl} (b : Bfs P S o Q Q.length) (p : Pl) : p ∈ Q ↔ ∃ w, Way P S o p w := by
  constructor
  · exact b.reach p
  · rintro ⟨w, h⟩
    induction h with
    | nil => exact (List.getElem?_eq_some_iff.mp b.head).2 ▸ List.getElem_mem _
    | @step p w t l q _ m ih =>
      obtain ⟨i, hi, e⟩ := List.getElem_of_mem ih
      exact b.closed i hi p (by rw [List.getElem?_eq_getElem hi, e]) _ m
/-! ### how many places there are -/
def tails : Wd → List Wd
  | [] => []
  | c :: r => (c :: r) :: tails r
theorem tails_len : ∀ w : Wd, (tails w).length = w.length
  | [] => rfl
  | c :: r => by
    show (tails r).length + 1 = r.length + 1
    rw [tails_len r]
theorem tails_has : ∀ (w a z : Wd), w = a ++ z → z ≠ [] → z ∈ tails w
  | [], a, z, e, hz => absurd (List.append_eq_nil_iff.mp e.symm).2 hz
  | c :: r, [], z, e, hz => by
    have e : c :: r = z := e
    rw [← e]
    exact List.mem_cons_self
  | c :: r, d :: a, z, e, hz => List.mem_cons_of_mem _ (tails_has r a z (List.cons.inj e).2 hz)
/-- all places there may be -/
def uni (P S : List Pr) : List Pl := .start :: .fin :: ((P.flatMap fun q => (tails q.1).map (.rest true)) ++ S.flatMap fun q => (tails q.1).map (.rest false))
def sumL (P : List Pr) : Nat := (P.map fun q => q.1.length).sum
theorem flat_len (P : List Pr) (a : Bool) : (P.flatMap fun q => (tails q.1).map (Pl.rest a)).length = sumL P := by
  rw [List.length_flatMap]
  unfold sumL
  congr 1
  exact List.map_congr_left fun q _ => by rw [List.length_map, tails_len]
theorem uni_len (P S : List Pr) : (uni P S).length = 2 + sumL P + sumL S := by
  show (_ ++ _ : List Pl).length + 1 + 1 = _
  rw [List.length_append, flat_len, flat_len]
  omega
theorem reach_uni {P S : List Pr} (hP : ∀ q ∈ P, q.1 ≠ []) {p : Pl} {w : List Nat × List Nat} (h : Way P S .start p w) : p ∈ uni P S ∧ match p with
    | .rest true r => r ≠ [] ∧ ∃ q ∈ P, ∃ a, q.1 = a ++ r
    | .rest false r => r ≠ [] ∧ ∃ q ∈ S, ∃ a, q.1 = a ++ r
    | _ => True := by
  have key : (match p with
    | .rest true r => r ≠ [] ∧ ∃ q ∈ P, ∃ a, q.1 = a ++ r
    | .rest false r => r ≠ [] ∧ ∃ q ∈ S, ∃ a, q.1 = a ++ r
    | _ => True) := by
    induction h with
    | nil => trivial
    | @step p w t l q _ m ih =>
      cases p with
      | fin => cases m
      | start =>
        obtain ⟨x, hx, e⟩ := List.mem_map.mp m
        cases e
        exact ⟨hP x hx, x, hx, [], rfl⟩
      | rest a r =>
        obtain ⟨z, hz, e⟩ := List.mem_filterMap.mp m
        obtain ⟨q', eb, e2⟩ := Option.map_eq_some_iff.mp e
        cases e2
        cases a with
        | true =>
          have hz : z ∈ S := hz
          obtain ⟨_, q0, hq0, a0, e0⟩ := ih
          rcases behind_cases eb with ⟨e3, rfl⟩ | ⟨v, nv, e3, rfl⟩ | ⟨v, nv, e3, rfl⟩
          · trivial
          · exact ⟨nv, q0, hq0, a0 ++ z.1, by rw [e0, e3, List.append_assoc]⟩
          · exact ⟨nv, z, hz, r, e3⟩
        | false =>
          have hz : z ∈ P := hz
          obtain ⟨_, q0, hq0, a0, e0⟩ := ih
          rcases behind_cases eb with ⟨e3, rfl⟩ | ⟨v, nv, e3, rfl⟩ | ⟨v, nv, e3, rfl⟩
          · trivial
          · exact ⟨nv, q0, hq0, a0 ++ z.1, by rw [e0, e3, List.append_assoc]⟩
          · exact ⟨nv, z, hz, r, e3⟩
  refine ⟨?_, key⟩
  cases p with
  | start => exact List.mem_cons_self
  | fin => exact List.mem_cons_of_mem _ List.mem_cons_self
  | rest a r =>
    refine List.mem_cons_of_mem _ (List.mem_cons_of_mem _ ?_)
    cases a with
    | true =>
      obtain ⟨nr, q, hq, a, e⟩ := key
      exact List.mem_append_left _ (List.mem_flatMap.mpr ⟨q, hq, List.mem_map.mpr ⟨r, tails_has _ a r e nr, rfl⟩⟩)
    | false =>
      obtain ⟨nr, q, hq, a, e⟩ := key
      exact List.mem_append_right _ (List.mem_flatMap.mpr ⟨q, hq, List.mem_map.mpr ⟨r, tails_has _ a r e nr, rfl⟩⟩)
theorem nd_le {α : Type} [DecidableEq α] : ∀ {a b : List α}, a.Nodup → (∀ x ∈ a, x ∈ b) → a.length ≤ b.length
  | [], _, _, _ => Nat.zero_le _
  | x :: a, b, nd, h => by
    have hx := h x List.mem_cons_self
    have z := nd_le (a := a) (b := b.erase x) (List.nodup_cons.mp nd).2 fun y hy => (List.mem_erase_of_ne (fun e => (List.nodup_cons.mp nd).1 (by rw [← e]; exact hy))).mpr (h y (List.mem_cons_of_mem _ hy))
    rw [List.length_erase_of_mem hx] at z
    have := List.length_pos_of_mem hx
    rw [List.length_cons]
    omega
theorem Bfs.few {P S : List Pr} {Q : List Pl} {n : Nat} (hP : ∀ q ∈ P, q.1 ≠ []) (b : Bfs P S .start Q n) : Q.length ≤ 2 + sumL P + sumL S := by
  rw [← uni_len]
  exact nd_le b.nd fun p hp => by
    obtain ⟨w, h⟩ := b.reach p hp
    exact (reach_uni hP h).1
/-! ### what lives -/
theorem way_first {P S : List Pr} {o q : Pl} {w : List Nat × List Nat} (h : Way P S o q w) : o = q ∨ ∃ m ∈ moves P S o, ∃ v, Way P S m.2.2 q v := by
  induction h with
  | nil => exact .inl rfl
  | @step p w t l q _ m ih =>
    rcases ih with rfl | ⟨m0, h0, v, k⟩
    · exact .inr ⟨_, m, _, .nil⟩
    · exact .inr ⟨m0, h0, _, k.step m⟩
/-- some places that live; the end among them -/
structure Liv (P S : List Pr) (L : List Pl) : Prop where
  fin : Pl.fin ∈ L
  live : ∀ p ∈ L, ∃ v, Way P S p .fin v
theorem Liv.start (P S : List Pr) : Liv P S [.fin] := ⟨List.mem_singleton_self _, fun p h => by rw [List.mem_singleton.mp h]; exact ⟨_, .nil⟩⟩
theorem Liv.add {P S : List Pr} {L : List Pl} {p : Pl} {m : Mo} (h : Liv P S L) (hm : m ∈ moves P S p) (hl : m.2.2 ∈ L) : Liv P S (L ++ [p]) := by
  refine ⟨List.mem_append_left _ h.fin, fun q hq => ?_⟩
  rcases List.mem_append.mp hq with a | a
  · exact h.live q a
  · rw [List.mem_singleton.mp a]
    obtain ⟨v, k⟩ := h.live _ hl
    exact ⟨_, (Way.step (P := P) (S := S) (.nil (o := p)) (t := m.1) (l := m.2.1) (q := m.2.2) hm).trans k⟩
/-- where nothing is left to add, all that lives is there -/
theorem Liv.all {P S : List Pr} {Q L : List Pl} (b : Bfs P S .start Q Q.length) (h : Liv P S L) (c : ∀ p ∈ Q, p ∉ L → ∀ m ∈ moves P S p, m.2.2 ∉ L) {p : Pl} (hp : p ∈ Q) {v : List Nat × List Nat} (k : Way P S p .fin v) : p ∈ L := by
  have key : ∀ {q : Pl} {v : List Nat × List Nat}, Way P S p q v → q ∈ L → p ∈ L := by
    intro q v k
    induction k with
    | nil => exact id
    | @step r w t l q k2 m ih =>
      intro hq
      refine ih (Classical.byContradiction fun np => c r ?_ np _ m hq)
      obtain ⟨w0, k0⟩ := (b.all p).mp hp
      exact (b.all r).mpr ⟨_, k0.trans k2⟩
  exact key k h.fin
/-! ### ways kept -/
/-- the places of a search in their order, each with a way to it -/
structure Wys (P S : List Pr) (o : Pl) (Q : List Pl) (W : List (Pl × (List Nat × List Nat))) : Prop where
  keys : W.map (·.1) = Q
  way : ∀ q ∈ W, Way P S o q.1 q.2
/-- with the steps of a place that is reached by a way -/
def addW (w : List Nat × List Nat) (W : List (Pl × (List Nat × List Nat))) (f : List Mo) : List (Pl × (List Nat × List Nat)) :=
  f.foldl (fun W m => if m.2.2 ∈ W.map (·.1) then W else W ++ [(m.2.2, put m.1 m.2.1 w)]) W
theorem addW_cons (w : List Nat × List Nat) (W : List (Pl × (List Nat × List Nat))) (m : Mo) (f : List Mo) : addW w W (m :: f) = addW w (if m.2.2 ∈ W.map (·.1) then W else W ++ [(m.2.2, put m.1 m.2.1 w)]) f := rfl
theorem addW_keys (w : List Nat × List Nat) : ∀ (f : List Mo) (W : List (Pl × (List Nat × List Nat))), (addW w W f).map (·.1) = addTo (W.map (·.1)) f
  | [], W => rfl
  | m :: f, W => by
    rw [addW_cons, addTo_cons, addW_keys w f]
    by_cases h : m.2.2 ∈ W.map (·.1)
    · rw [if_pos h, if_pos h]
    · rw [if_neg h, if_neg h, List.map_append]
      rfl
theorem addW_way {P S : List Pr} {o p : Pl} {w : List Nat × List Nat} (h : Way P S o p w) : ∀ (f : List Mo) (W : List (Pl × (List Nat × List Nat))), (∀ m ∈ f, m ∈ moves P S p) → (∀ q ∈ W, Way P S o q.1 q.2) → ∀ q ∈ addW w W f, Way P S o q.1 q.2
  | [], W, _, hW => hW
  | m :: f, W, hf, hW => by
    rw [addW_cons]
    refine addW_way h f _ (fun x hx => hf x (List.mem_cons_of_mem _ hx)) ?_
    by_cases z : m.2.2 ∈ W.map (·.1)
    · rw [if_pos z]
      exact hW
    · rw [if_neg z]
      intro q hq
      rcases List.mem_append.mp hq with a | a
      · exact hW q a
      · rw [List.mem_singleton.mp a]
        exact h.step (hf m List.mem_cons_self)
theorem Wys.start (P S : List Pr) (o : Pl) : Wys P S o [o] [(o, ([], []))] := ⟨rfl, fun q h => by rw [List.mem_singleton.mp h]; exact .nil⟩
theorem Wys.step {P S : List Pr} {o p : Pl} {Q : List Pl} {W : List (Pl × (List Nat × List Nat))} {w : List Nat × List Nat} (h : Wys P S o Q W) (hw : (p, w) ∈ W) : Wys P S o (addTo Q (moves P S p)) (addW w W (moves P S p)) :=
  ⟨by rw [addW_keys, h.keys], addW_way (h.way _ hw) _ _ (fun _ z => z) h.way⟩
/-- the way that is kept to a place -/
def wayTo (W : List (Pl × (List Nat × List Nat))) (p : Pl) : List Nat × List Nat := ((W.find? fun q => decide (q.1 = p)).map (·.2)).getD ([], [])
theorem wayTo_has {P S : List Pr} {o p : Pl} {Q : List Pl} {W : List (Pl × (List Nat × List Nat))} (h : Wys P S o Q W) (hp : p ∈ Q) : (p, wayTo W p) ∈ W ∧ Way P S o p (wayTo W p) := by
  have m : (p, wayTo W p) ∈ W := by
    rw [← h.keys] at hp
    obtain ⟨q, hq, rfl⟩ := List.mem_map.mp hp
    unfold wayTo
    cases e : W.find? fun z => decide (z.1 = q.1) with
    | none =>
      have := List.find?_eq_none.mp e q hq
      simp at this
    | some z =>
      have h1 : z.1 = q.1 := by simpa using List.find?_some e
      have h2 := List.mem_of_find?_eq_some e
      show (q.1, z.2) ∈ W
      rw [← h1]
      exact h2
  exact ⟨m, h.way _ m⟩
/-! ### a meeting that is not alike -/
/-- a step into a living place whose lead is not known there -/
def oddM (W : List (Pl × (List Nat × List Nat))) (p : Pl) (m : Mo) : Bool :=
  match lead (put m.1 m.2.1 (wayTo W p)) with
  | none => true
  | some k => decide (known (wayTo W) m.2.2 ≠ some k)
/-- none at all: all meetings are alike -/
theorem alike_no {P S : List Pr} {Q L : List Pl} {W : List (Pl × (List Nat × List Nat))} (b : Bfs P S .start Q Q.length) (h : Wys P S .start Q W) (h0 : wayTo W .start = ([], [])) (hL : ∀ p ∈ Q, ∀ v, Way P S p .fin v → p ∈ L)
    (c : ∀ p ∈ Q, ∀ m ∈ moves P S p, m.2.2 ∈ L → oddM W p m = false) : Alike P S := by
  refine alike_of (W := wayTo W) (L := fun p => p ∈ Q → p ∈ L) h0 (fun p v k hq => hL p hq v k) fun p w k t l q m hl => ?_
  have hp : p ∈ Q := (b.all p).mpr ⟨w, k⟩
  have hq : q ∈ Q := (b.all q).mpr ⟨_, k.step m⟩
  have z := c p hp (t, l, q) m (hl hq)
  unfold oddM at z
  cases e : lead (put t l (wayTo W p)) with
  | none =>
    have z : (match lead (put t l (wayTo W p)) with | none => true | some k => decide (known (wayTo W) q ≠ some k)) = false := z
    rw [e] at z
    cases z
  | some k =>
    have z : (match lead (put t l (wayTo W p)) with | none => true | some k => decide (known (wayTo W) q ≠ some k)) = false := z
    rw [e] at z
    refine ⟨k, rfl, ?_⟩
    have z : decide (known (wayTo W) q ≠ some k) = false := z
    simpa using z
/-- one of them: the meeting that is made of it, or of the way that is kept, is not alike -/
theorem odd_meets {P S : List Pr} {Q : List Pl} {W : List (Pl × (List Nat × List Nat))} {p : Pl} {m : Mo} {v : List Nat × List Nat} (b : Bfs P S .start Q Q.length) (h : Wys P S .start Q W) (hp : p ∈ Q) (hm : m ∈ moves P S p) (k : Way P S m.2.2 .fin v) (z : oddM W p m = true) :
    Way P S .start .fin ((put m.1 m.2.1 (wayTo W p)).1 ++ v.1, (put m.1 m.2.1 (wayTo W p)).2 ++ v.2) ∧ Way P S .start .fin ((wayTo W m.2.2).1 ++ v.1, (wayTo W m.2.2).2 ++ v.2) ∧
    ((put m.1 m.2.1 (wayTo W p)).1 ++ v.1 = (put m.1 m.2.1 (wayTo W p)).2 ++ v.2 → (wayTo W m.2.2).1 ++ v.1 ≠ (wayTo W m.2.2).2 ++ v.2) := by
  obtain ⟨_, kp⟩ := wayTo_has h hp
  have ks : Way P S .start m.2.2 (put m.1 m.2.1 (wayTo W p)) := kp.step (t := m.1) (l := m.2.1) (q := m.2.2) hm
  obtain ⟨_, kq⟩ := wayTo_has h ((b.all m.2.2).mpr ⟨_, ks⟩)
  refine ⟨ks.trans k, kq.trans k, fun e1 e2 => ?_⟩
  obtain ⟨d, l1, l2⟩ := lead_back (v := v) e1 e2
  unfold oddM at z
  rw [l1] at z
  have z : decide (known (wayTo W) m.2.2 ≠ some d) = true := z
  have z := of_decide_eq_true z
  by_cases ef : m.2.2 = .fin
  · rw [ef] at k
    have ev : v = ([], []) := by
      rcases way_first k with _ | ⟨x, hx, _⟩
      · cases k with
        | nil => rfl
        | @step r w t l _ k2 mm =>
          exfalso
          have : ∀ {o r : Pl} {w : List Nat × List Nat}, Way P S o r w → o = .fin → r = .fin := by
            intro o r w kk
            induction kk with
            | nil => exact id
            | @step r w t l q _ mm ih =>
              intro eo
              rw [ih eo] at mm
              cases mm
          rw [this k2 rfl] at mm
          cases mm
      · cases hx
    rw [ev] at e1
    have e1 : (put m.1 m.2.1 (wayTo W p)).1 ++ [] = (put m.1 m.2.1 (wayTo W p)).2 ++ [] := e1
    rw [List.append_nil, List.append_nil] at e1
    rw [even_lead e1] at l1
    cases l1
    rw [ef] at z
    exact z rfl
  · refine z ?_
    cases e : m.2.2 with
    | fin => exact absurd e ef
    | start =>
      rw [e] at l2
      exact l2
    | rest a r =>
      rw [e] at l2
      exact l2
end MZ
set_option Elab.async false
set_option linter.all false
set_option maxRecDepth 100000
set_option maxHeartbeats 4000000
/-! {k: v} with one pair, k a tuple. -/
namespace L2
open PySem PySem.Spec PyProof.Rows
end L2
set_option Elab.async false
set_option linter.all false
set_option maxRecDepth 100000
set_option maxHeartbeats 4000000
/-! A key looked for among entries of any kinds, tuples beside flat ones. -/
namespace MX
open PySem PySem.Spec PySem.SeqAt PyProof.Rows
section
variable {prog : Program} {w : World} {A : Around} {E : Value → Shared → Prop} {s : Shared} {d : Addr} {o : Obj} {es : Array DictEntry} {ep : Nat} {v : Value} {hh : Int} {m : DictEntry → Bool}
/-- what the search of v, whose hash is hh, meets: m says which entry is equal to v -/
structure Look (prog : Program) (w : World) (A : Around) (s : Shared) (es : Array DictEntry) (v : Value) (hh : Int) (m : DictEntry → Bool) : Prop where
  eqv : ∀ e ∈ es, EqAt A s e.key v (m e)
  hash : ∀ e ∈ es, m e = true → e.hash = hh
  same : ∀ e ∈ es, e.key = v → e.hash = hh
  quiet : QuietAt prog w 8 s v
  quiets : ∀ e ∈ es, QuietAt prog w 8 s e.key
  txts : ∀ x t, v = .str x t → ∀ e ∈ es, isExactStrKey e.key = true → e.key.isStr x = m e
  one : ∀ i j (hi : i < es.size) (hj : j < es.size), m es[i] = true → m es[j] = true → i = j
theorem Look.find (M : Look prog w A s es v hh m) {i : Nat} (hi : i < es.size) (h : m es[i] = true) : es.findIdx? m = some i :=
  Array.findIdx?_eq_some_iff_getElem.mpr ⟨hi, h, fun j hj => by
    intro z
    have := M.one j i (by omega) hi z h
    omega⟩
/-- the places of one hash -/
theorem in_places {i : Nat} (hi : i < es.size) (h : es[i].hash = hh) : i ∈ placesWithHash es.size (fun i => es[i]?.map (·.hash)) hh := by
  unfold placesWithHash
  rw [List.mem_filter]
  refine ⟨List.mem_range.mpr hi, ?_⟩
  show (es[i]?.map (·.hash) == some hh) = true
  rw [Array.getElem?_eq_getElem hi, Option.map_some, h]
  exact beq_self_eq_true _
theorem Look.none (M : Look prog w A s es v hh m) (h : ∀ i ∈ placesWithHash es.size (fun i => es[i]?.map (·.hash)) hh, ∀ hi : i < es.size, m es[i] = false) : es.findIdx? m = none :=
  Array.findIdx?_eq_none_iff.mpr fun e he => by
    obtain ⟨i, hi, rfl⟩ := Array.mem_iff_getElem.mp he
    cases z : m es[i] with
    | false => rfl
    | true =>
      have := h i (in_places hi (M.hash _ (Array.getElem_mem hi) z)) hi
      rw [z] at this
      cases this
end
end MX
set_option Elab.async false
set_option linter.all false
set_option maxRecDepth 100000
set_option maxHeartbeats 4000000
/-! The same, told by keys: flat ones and tuples of such. -/
namespace MX
open PySem PySem.Spec PySem.SeqAt PyProof.Rows
section
variable {prog : Program} {w : World} {A : Around} {E : Value → Shared → Prop} {s : Shared} {d : Addr} {o : Obj} {es : Array DictEntry} {ep : Nat} {v : Value}
/-- an entry -/
def entN (w : World) (x : NestedKey × Value × Value) : DictEntry := ⟨x.1.hash w, x.2.1, x.2.2⟩
/-- the keys stand there -/
def KeysN (h : Heap) (xs : List (NestedKey × Value × Value)) : Prop := ∀ x ∈ xs, NestedIs h x.1 x.2.1 ∧ x.1.depth ≤ 8
end
end MX
set_option Elab.async false
set_option linter.all false
set_option maxRecDepth 100000
set_option maxHeartbeats 4000000
/-! A dict of flat keys and tuples: what stands under a key, a key stored. -/
namespace MX
open PySem PySem.Spec PySem.SeqAt PyProof.Rows
/-- the dict at d: its keys as keys and as values, and what stands under them, in their order -/
def DictN (w : World) (h : Heap) (d : Addr) (xs : List (NestedKey × Value × Value)) : Prop :=
  ∃ o es ep, h.get? d = some o ∧ o.ExactDict ∧ o.data = .dict es ep ∧ es.toList = xs.map (entN w) ∧ KeysN h xs ∧ (xs.map (·.1)).Nodup
def putN (k : NestedKey) (u : Value) (x : NestedKey × Value × Value) : NestedKey × Value × Value := if x.1 = k then (x.1, x.2.1, u) else x
/-- u stored under k, the key v -/
def storeN (xs : List (NestedKey × Value × Value)) (k : NestedKey) (v u : Value) : List (NestedKey × Value × Value) := if k ∈ xs.map (·.1) then xs.map (putN k u) else xs ++ [(k, v, u)]
def atN (xs : List (NestedKey × Value × Value)) (k : NestedKey) : Option Value := (xs.find? fun x => decide (x.1 = k)).map (·.2.2)
section
variable {prog : Program} {w : World} {A : Around} {E : Value → Shared → Prop} {s : Shared} {d : Addr} {o : Obj} {es : Array DictEntry} {ep : Nat} {v u : Value} {k : NestedKey} {xs : List (NestedKey × Value × Value)}
theorem KeysN.keeps {h h' : Heap} (ks : KeysN h xs) (ho : h.get? d = some o) (hd : o.data = .dict es ep) (hs : Heap.SameBut d h h') : KeysN h' xs := fun x hx =>
  ⟨NestedIs.at (fun b ob vs n hb hc => (hs.2 b fun e => by
    subst e
    rw [ho] at hb
    cases hb
    rw [hd] at hc
    cases hc).trans hb) x.1 _ (ks x hx).1, (ks x hx).2⟩
end
end MX
set_option Elab.async false
set_option linter.all false
set_option maxRecDepth 100000
set_option maxHeartbeats 4000000
/-! k in d, d[k], d[k] = u for such a dict. -/
namespace MX
open PySem PySem.Spec PySem.SeqAt PyProof.Rows
section
variable {prog : Program} {w : World} {A : Around} {E : Value → Shared → Prop} {s : Shared} {d : Addr} {v u : Value} {k : NestedKey} {xs : List (NestedKey × Value × Value)}
theorem DictN.typeIs (hm : DictN w s.heap d xs) : s.TypeIs (.ref d) "dict" := let ⟨o, _, _, ho, hc, _⟩ := hm; ⟨o, ho, hc.1⟩
end
end MX
set_option Elab.async false
set_option linter.all false
set_option maxRecDepth 100000
set_option maxHeartbeats 4000000
/-! Dicts of flat keys and tuples, tracked. -/
namespace L2
open PySem PySem.Spec PyProof.Rows MX
/-- the dict at a: each key, what it is as a value, what stands under it -/
def MixO (w : World) (a : Addr) (kvs : List (NestedKey × V × V)) : HO := .ext fun h => kvs.length ≤ sizeLine ∧ (a == sysModules) = false ∧ ∃ xs : List (NestedKey × Value × Value),
  Paired (fun p q => p.1 = q.1 ∧ RelV p.2.1 q.2.1 ∧ RelV p.2.2 q.2.2) kvs xs ∧ ∃ o es ep, h.get? a = some o ∧ o.ExactDict ∧ o.data = .dict es ep ∧ es.toList = xs.map (entN w) ∧ (xs.map (·.1)).Nodup
/-- the key k is the value x: a flat one -/
inductive KeyF : NestedKey → V → Prop
  | none : KeyF .none .non
  | int (i : Int) : KeyF (.num i) (.int i)
  | text (z : Str) : KeyF (.text z) (.str z)
  | bool (b : Bool) : KeyF (.num (if b = true then 1 else 0)) (.bl b)
inductive KeyFs : List NestedKey → List V → Prop
  | nil : KeyFs [] []
  | cons {k : NestedKey} {x : V} {ks : List NestedKey} {xs : List V} : KeyF k x → KeyFs ks xs → KeyFs (k :: ks) (x :: xs)
/-- .. or a tuple of such -/
inductive KeyV (H : Hp) : NestedKey → V → Prop
  | flat {k : NestedKey} {x : V} : KeyF k x → KeyV H k x
  | tup {t : Addr} {ks : List NestedKey} {xs : List V} : H t = some (.tup xs) → KeyFs ks xs → KeyV H (.tup ks) (.ref t)
theorem KeyF.is {h : Heap} {k : NestedKey} {x : V} {u : Value} (f : KeyF k x) (r : RelV x u) : NestedIs h k u ∧ k.depth = 0 := by
  cases f with
  | none => cases r; exact ⟨.none, rfl⟩
  | int i => obtain ⟨t, rfl⟩ := r; exact ⟨.int _ _, rfl⟩
  | text z => obtain ⟨t, rfl⟩ := r; exact ⟨.text _ _, rfl⟩
  | bool b => cases r; exact ⟨.bool rfl, rfl⟩
theorem KeyFs.all {h : Heap} {ks : List NestedKey} {xs : List V} {us : List Value} (f : KeyFs ks xs) (r : Vals xs us) : NestedAll h ks us ∧ NestedKey.depthAll ks = 0 := by
  induction f generalizing us with
  | nil => cases r; exact ⟨.nil, rfl⟩
  | cons g _ ih =>
    cases r with
    | cons r1 r2 =>
      have a := ih r2
      have b := g.is (h := h) r1
      refine ⟨.cons b.1 a.1, ?_⟩
      simp only [NestedKey.depthAll]
      omega
section
variable {X : Cx} {pins : List (Addr × Obj)} {σ : St} {H : Hp} {s : Shared} {k : NestedKey} {x : V} {u : Value}
theorem KeyV.is (I : Inv X pins σ H s) (f : KeyV H k x) (r : RelV x u) : NestedIs s.heap k u ∧ k.depth ≤ 8 := by
  cases f with
  | flat g =>
    have z := g.is (h := s.heap) r
    exact ⟨z.1, by omega⟩
  | tup ht g =>
    obtain rfl : u = Value.ref _ := r
    obtain ⟨_, its, rv, ob⟩ := I.hok _ _ ht
    have z := g.all (h := s.heap) rv
    obtain ⟨o, e1, e2, n, e3⟩ := ob
    exact ⟨.tup e1 e2 e3 (show NestedAll _ _ its.toArray.toList from z.1), by show NestedKey.depthAll _ + 1 ≤ 8; omega⟩
end
/-- one key stored -/
def putM (kvs : List (NestedKey × V × V)) (k : NestedKey) (x v : V) : List (NestedKey × V × V) := if k ∈ kvs.map (·.1) then kvs.map (fun p => if p.1 = k then (p.1, p.2.1, v) else p) else kvs ++ [(k, x, v)]
/-- what stands under a key -/
def atM (kvs : List (NestedKey × V × V)) (k : NestedKey) : Option V := (kvs.find? fun p => decide (p.1 = k)).map (·.2.2)
abbrev PairM (kvs : List (NestedKey × V × V)) (xs : List (NestedKey × Value × Value)) : Prop := Paired (fun p q => p.1 = q.1 ∧ RelV p.2.1 q.2.1 ∧ RelV p.2.2 q.2.2) kvs xs
theorem PairM.keys {kvs : List (NestedKey × V × V)} {xs : List (NestedKey × Value × Value)} (h : PairM kvs xs) : kvs.map (·.1) = xs.map (·.1) := by
  induction h with
  | nil => rfl
  | cons e _ ih => rw [List.map_cons, List.map_cons, e.1, ih]
theorem PairM.len {kvs : List (NestedKey × V × V)} {xs : List (NestedKey × Value × Value)} (h : PairM kvs xs) : kvs.length = xs.length := by
  induction h with
  | nil => rfl
  | cons e _ ih => rw [List.length_cons, List.length_cons, ih]
theorem PairM.at {kvs : List (NestedKey × V × V)} {xs : List (NestedKey × Value × Value)} (h : PairM kvs xs) (k : NestedKey) : RelO (atM kvs k) (atN xs k) := by
  unfold atM atN
  induction h with
  | nil => first | exact True.intro | exact .none | exact ⟨⟩
  | @cons a b l1 l2 e _ ih =>
    rw [List.find?_cons, List.find?_cons, e.1]
    cases decide (b.1 = k) with
    | true => exact e.2.2
    | false => exact ih
theorem PairM.put {kvs : List (NestedKey × V × V)} {xs : List (NestedKey × Value × Value)} (h : PairM kvs xs) {k : NestedKey} {x v : V} {u r : Value} (rx : RelV x u) (rv : RelV v r) : PairM (putM kvs k x v) (storeN xs k u r) := by
  unfold putM storeN
  rw [h.keys]
  split
  · rename_i hin
    clear rx hin
    induction h with
    | nil => exact .nil
    | @cons a b l1 l2 e _ ih =>
      rw [List.map_cons, List.map_cons]
      refine .cons ?_ ih
      unfold putN
      rw [e.1]
      split
      · exact ⟨rfl, e.2.1, rv⟩
      · exact e
  · exact h.snoc ⟨rfl, rx, rv⟩
/-- it is there, and so are its keys -/
structure MixD (w : World) (H : Hp) (a : Addr) (kvs : List (NestedKey × V × V)) : Prop where
  at_ : H a = some (MixO w a kvs)
  keys : ∀ p ∈ kvs, KeyV H p.1 p.2.1
section
variable {X : Cx} {pins : List (Addr × Obj)} {σ : St} {H : Hp} {s : Shared} {a : Addr} {kvs : List (NestedKey × V × V)} {k : NestedKey} {x v : V} {u r : Value} {A : Around} {E : Value → Shared → Prop}
theorem PairM.keysN {xs : List (NestedKey × Value × Value)} (p : PairM kvs xs) (I : Inv X pins σ H s) (hk : ∀ p ∈ kvs, KeyV H p.1 p.2.1) : KeysN s.heap xs := by
  induction p with
  | nil => exact fun y hy => nomatch hy
  | @cons c d l1 l2 e _ ih =>
    intro y hy
    rcases List.mem_cons.mp hy with rfl | z
    · have q := (hk c List.mem_cons_self).is I e.2.1
      rw [e.1] at q
      exact q
    · exact ih (fun p hp => hk p (List.mem_cons_of_mem _ hp)) y z
theorem MixD.dict (I : Inv X pins σ H s) (m : MixD X.w H a kvs) : kvs.length ≤ sizeLine ∧ (a == sysModules) = false ∧ ∃ xs, PairM kvs xs ∧ DictN X.w s.heap a xs := by
  obtain ⟨⟨few, hd, xs, p, o, es, ep, h1, h2, h3, h4, h5⟩, _, _⟩ := I.hok a _ m.at_
  refine ⟨few, hd, xs, p, o, es, ep, h1, h2, h3, h4, PairM.keysN p I m.keys, h5⟩
end
end L2
set_option Elab.async false
set_option linter.all false
set_option maxRecDepth 100000
set_option maxHeartbeats 4000000
/-! d[k] = v, d[k], k in d in terms, for dicts of flat keys and tuples. -/
namespace L2
open PySem PySem.Spec PyProof.Rows MX
/-- the keys stay where the heap only grows -/
theorem KeyV.same {H H2 : Hp} {k : NestedKey} {x : V} (f : KeyV H k x) (s : Same H H2) : KeyV H2 k x := by
  cases f with
  | flat g => exact .flat g
  | tup h g => exact .tup (s _ _ h) g
theorem MixD.same {w : World} {H H2 : Hp} {a : Addr} {kvs : List (NestedKey × V × V)} (m : MixD w H a kvs) (s : Same H H2) : MixD w H2 a kvs := ⟨s _ _ m.at_, fun p hp => (m.keys p hp).same s⟩
/-- stored -/
theorem MixD.put {w : World} {H : Hp} {a : Addr} {kvs : List (NestedKey × V × V)} {k : NestedKey} {x v : V} (m : MixD w H a kvs) (hk : KeyV H k x) : MixD w (upd H a (MixO w a (putM kvs k x v))) a (putM kvs k x v) := by
  have up : ∀ {j : NestedKey} {y : V}, KeyV H j y → KeyV (upd H a (MixO w a (putM kvs k x v))) j y := fun f => by
    cases f with
    | flat g => exact .flat g
    | tup h g =>
      refine .tup ?_ g
      rw [upd_ne fun z => ?_]
      · exact h
      · rw [z, m.at_] at h
        cases h
  refine ⟨upd_same, fun p hp => ?_⟩
  unfold putM at hp
  split at hp
  · obtain ⟨q, hq, rfl⟩ := List.mem_map.mp hp
    have z := up (m.keys q hq)
    split
    · exact z
    · exact z
  · rcases List.mem_append.mp hp with z | z
    · exact up (m.keys p z)
    · obtain rfl := List.mem_singleton.mp z
      exact up hk
theorem MixD.new {w : World} {H : Hp} {a : Addr} : MixD w (upd H a (MixO w a [])) a [] := ⟨upd_same, fun p hp => nomatch hp⟩
end L2
set_option Elab.async false
set_option linter.all false
set_option maxRecDepth 100000
set_option maxHeartbeats 4000000
/-! for k in d, d a dict of flat keys and tuples. -/
namespace L2
open PySem PySem.Spec PyProof.Rows MX
end L2
set_option Elab.async false
set_option linter.all false
set_option maxRecDepth 100000
set_option maxHeartbeats 4000000
/-! Dicts whose keys are tuples that may be objects of the module too. -/
namespace L2
open PySem PySem.Spec PyProof.Rows
theorem ent_prog (P P' : Program) (w : World) : (entryOfKey (tupleKind (mixKind P w)) : List Key × Addr × Value → DictEntry) = entryOfKey (tupleKind (mixKind P' w)) := rfl
abbrev P2 (as : List Addr) (kvs : List (List Key × V)) (xs : List (List Key × Addr × Value)) : Prop := as = xs.map (·.2.1) ∧ Paired (fun (p : List Key × V) (q : List Key × Addr × Value) => p.1 = q.1 ∧ RelV p.2 q.2.2) kvs xs
/-- the dict at d: its keys' addresses, its keys and what stands under them -/
def DX (w : World) (d : Addr) (as : List Addr) (kvs : List (List Key × V)) : HO := .ext fun h => kvs.length ≤ sizeLine ∧ (d == sysModules) = false ∧ ∃ (P : Program) (xs : List (List Key × Addr × Value)), P2 as kvs xs ∧
  ∃ o es ep, h.get? d = some o ∧ o.ExactDict ∧ o.data = .dict es ep ∧ es.toList = xs.map (entryOfKey (tupleKind (mixKind P w))) ∧ (xs.map (·.1)).Nodup
/-- the keys stand there -/
abbrev KyA (K : PySem.W.Frag) (H : Hp) (as : List Addr) (kvs : List (List Key × V)) : Prop := Paired (fun a kv => SqT K H a (kv.1.map kV)) as kvs
theorem dx_ok {P : Program} {w : World} {H : Hp} {h : Heap} {d : Addr} {as : List Addr} {kvs : List (List Key × V)} {xs : List (List Key × Addr × Value)} (few : kvs.length ≤ sizeLine) (hd : (d == sysModules) = false) (r : P2 as kvs xs)
    (x : ∃ o es ep, h.get? d = some o ∧ o.ExactDict ∧ o.data = .dict es ep ∧ es.toList = xs.map (entryOfKey (tupleKind (mixKind P w))) ∧ (xs.map (·.1)).Nodup) : ObjOk P w H h d (DX w d as kvs) := by
  refine ⟨⟨few, hd, P, xs, r, x⟩, ?_, fun h1 h2 z k => ?_⟩
  · obtain ⟨o, es, ep, e, _⟩ := x
    exact ⟨o, e⟩
  · obtain ⟨few2, hd2, P2, xs2, r2, o, es, ep, e, q⟩ := z
    exact ⟨few2, hd2, P2, xs2, r2, o, es, ep, k _ e, q⟩
theorem p2_val {as : List Addr} {kvs : List (List Key × V)} {xs : List (List Key × Addr × Value)} (r : P2 as kvs xs) (k : List Key) : RelO (valV kvs k) ((atKey xs k).map (·.2)) := by
  replace r := r.2
  induction r with
  | nil => exact True.intro
  | @cons p q ps qs h t ih =>
    obtain ⟨h1, h2⟩ := h
    by_cases e : p.1 = k
    · have e' : q.1 = k := h1.symm.trans e
      have b : atKey (q :: qs) k = some q.2 := by simp [atKey, List.find?_cons, e']
      rw [valV_pos e, b]; exact h2
    · have e' : ¬ q.1 = k := fun z => e (h1.trans z)
      have b : atKey (q :: qs) k = atKey qs k := by simp [atKey, List.find?_cons, e']
      rw [valV_neg e, b]; exact ih
theorem p2_len {as : List Addr} {kvs : List (List Key × V)} {xs : List (List Key × Addr × Value)} (r : P2 as kvs xs) : kvs.length = xs.length := Paired.length r.2
theorem p2_put {as : List Addr} {kvs : List (List Key × V)} {xs : List (List Key × Addr × Value)} (r : P2 as kvs xs) {k : List Key} {b : Addr} {v : V} {u : Value} (n : valV kvs k = none) (rv : RelV v u) : P2 (as ++ [b]) (kvs ++ [(k, v)]) (storedH xs k b u) := by
  have e := (p2_val r k).isSome_eq
  rw [n, Option.isSome_map] at e
  unfold storedH
  rw [if_neg (by rw [← e]; decide)]
  refine ⟨by rw [r.1, List.map_append]; rfl, Paired.snoc r.2 ⟨rfl, rv⟩⟩
section
variable {X : Cx} {pins : List (Addr × Obj)} {σ : St} {H : Hp} {s : Shared} {d b : Addr} {as : List Addr} {kvs : List (List Key × V)} {k : List Key} {v : V} {u r : Value} {A : Around} {E : Value → Shared → Prop}
theorem Inv.keyT (I : Inv X pins σ H s) (h : SqT X.K H b (k.map kV)) : (tupleKind (mixKind X.prog X.w)).is s.heap k b := by
  obtain ⟨its, r, ⟨o, h1, h2, n, h3⟩, _⟩ := I.tuple h
  exact ⟨o, its.toArray, n, h1, h2, h3, by simpa using items_are r⟩
theorem Inv.keysT (I : Inv X pins σ H s) {xs : List (List Key × Addr × Value)} (ky : KyA X.K H as kvs) (r : P2 as kvs xs) : ∀ x ∈ xs, (tupleKind (mixKind X.prog X.w)).is s.heap x.1 x.2.1 := by
  obtain ⟨e, r⟩ := r
  subst e
  induction r with
  | nil => exact fun x hx => nomatch hx
  | cons h _ ih =>
    rw [List.map_cons] at ky
    cases ky with
    | cons a t =>
      intro x hx
      rcases List.mem_cons.mp hx with rfl | hx
      · rw [h.1] at a
        exact I.keyT a
      · exact ih t x hx
theorem dx_dict (I : Inv X pins σ H s) (e : Rd H d (DX X.w d as kvs)) (ky : KyA X.K H as kvs) : kvs.length ≤ sizeLine ∧ (d == sysModules) = false ∧ ∃ xs, P2 as kvs xs ∧ s.heap.DictOfH (tupleKind (mixKind X.prog X.w)) d xs := by
  obtain ⟨⟨few, hd, P, xs, p, o, es, ep, h1, h2, h3, h4, h5⟩, _, _⟩ := (show ObjOk X.prog X.w H s.heap d (DX X.w d as kvs) from e.ok I.hok)
  refine ⟨few, hd, xs, p, o, es, ep, h1, h2, h3, ?_, I.keysT ky p, h5⟩
  rw [h4, ent_prog P X.prog X.w]
end
/-- what the dict at a holds at the key y -/
def DGetY (w : World) (K : PySem.W.Frag) (H : Hp) (a : Addr) (y : V) (r : Option V) : Prop :=
  ∃ as kvs k b, Rd H a (DX w a as kvs) ∧ KyA K H as kvs ∧ y = .ref b ∧ SqT K H b (k.map kV) ∧ r = valV kvs k
/-- the heap behind a[y] = v, y new -/
def DPutY (w : World) (K : PySem.W.Frag) (H : Hp) (a : Addr) (y v : V) (H' : Hp) : Prop :=
  ∃ as kvs k b, H a = some (DX w a as kvs) ∧ KyA K H as kvs ∧ y = .ref b ∧ SqT K H b (k.map kV) ∧ valV kvs k = none ∧ kvs.length < sizeLine ∧ H' = upd H a (DX w a (as ++ [b]) (kvs ++ [(k, v)]))
def tDGetY (w : World) (K : PySem.W.Frag) (td ty : TE) : TE := fun σ H Q => td σ H fun x H1 => ty σ H1 fun y H2 => ∃ a v, x = .ref a ∧ DGetY w K H2 a y (some v) ∧ Q v H2
def tDInY (w : World) (K : PySem.W.Frag) (ty td : TE) : TE := fun σ H Q => ty σ H fun y H1 => td σ H1 fun x H2 => ∃ a o, x = .ref a ∧ DGetY w K H2 a y o ∧ Q (.bl o.isSome) H2
def tDNotInY (w : World) (K : PySem.W.Frag) (ty td : TE) : TE := fun σ H Q => ty σ H fun y H1 => td σ H1 fun x H2 => ∃ a o, x = .ref a ∧ DGetY w K H2 a y o ∧ Q (.bl (!o.isSome)) H2
def sDPutY (w : World) (K : PySem.W.Frag) (td ty tv : TE) : TS := fun D σ H => tv σ H fun v H1 => td σ H1 fun x H2 => ty σ H2 fun y H3 => ∃ a H4, x = .ref a ∧ DPutY w K H3 a y v H4 ∧ D.nx σ H4
section
variable {X : Cx} {o i value : Expr} {pos pos' : Pos} {td ty tv : TE}
theorem pe_dgetY {w : World} {K : PySem.W.Frag} (hw : X.w = w) (hk : X.K = K) (hu : X.A.units + 1 < cLine) (ho : PE X o td) (hi : PE X i ty) (hs : NoSl i) : PE X (.Subscript o i pos) (tDGetY w K td ty) := by
  subst hw hk
  refine ⟨fun pins s σ H Q I h => ?_⟩
  refine subD_of PySem.F.slot_dict_getitem.lookup hs (thn (ho.run pins s σ H _ I h) fun u s1 ⟨x, H1, I1, rx, q1⟩ => thn (hi.run pins s1 σ H1 _ I1 q1) fun iv s2 ⟨y, H2, I2, ry, a, v, ex, g, q2⟩ => ?_)
  subst ex
  obtain rfl : u = Value.ref a := rx
  obtain ⟨as, kvs, k, b, e, ky, rfl, eb, l⟩ := g
  obtain rfl : iv = Value.ref b := ry
  obtain ⟨z, hd, xs, rel, dd⟩ := dx_dict I2 e ky
  obtain ⟨w', hw, rw'⟩ := RelO.some_of (v := v) (o := (atKey xs k).map (·.2)) (by rw [l]; exact p2_val rel k)
  obtain ⟨p, hp, hp2⟩ := Option.map_eq_some_iff.mp hw
  refine ⟨dd.typeIs, wpAny_getItem_heap (tupleKind_room_in1 hu) (I2.keyT eb) dd hp ?_⟩
  rw [hp2]
  exact ⟨v, H2, I2.tok _, rw', q2⟩
theorem pc_dinY {w : World} {K : PySem.W.Frag} (hw : X.w = w) (hk : X.K = K) (hu : X.A.units + 1 < cLine) (hi : PE X i ty) (ho : PE X o td) : PC X .In i o (tDInY w K ty td) := by
  subst hw hk
  refine ⟨fun pins s σ H Q I h => ?_⟩
  refine thn (hi.run pins s σ H _ I h) fun iv s1 ⟨y, H1, I1, ry, q1⟩ => thn (ho.run pins s1 σ H1 _ I1 q1) fun u s2 ⟨x, H2, I2, rx, a, ov, ex, g, q2⟩ => ?_
  subst ex
  obtain rfl : u = Value.ref a := rx
  obtain ⟨as, kvs, k, b, e, ky, rfl, eb, l⟩ := g
  obtain rfl : iv = Value.ref b := ry
  obtain ⟨z, hd, xs, rel, dd⟩ := dx_dict I2 e ky
  refine wpAny_in_heap (tupleKind_room_in1 hu) (I2.keyT eb) hd dd ?_
  have q := (p2_val rel k).isSome_eq
  rw [Option.isSome_map] at q
  rw [← q, ← l]
  exact ⟨.bl ov.isSome, H2, I2.tok _, rfl, q2⟩
theorem pc_dnotinY {w : World} {K : PySem.W.Frag} (hw : X.w = w) (hk : X.K = K) (hu : X.A.units + 1 < cLine) (hi : PE X i ty) (ho : PE X o td) : PC X .NotIn i o (tDNotInY w K ty td) := by
  subst hw hk
  refine ⟨fun pins s σ H Q I h => ?_⟩
  refine thn (hi.run pins s σ H _ I h) fun iv s1 ⟨y, H1, I1, ry, q1⟩ => thn (ho.run pins s1 σ H1 _ I1 q1) fun u s2 ⟨x, H2, I2, rx, a, ov, ex, g, q2⟩ => ?_
  subst ex
  obtain rfl : u = Value.ref a := rx
  obtain ⟨as, kvs, k, b, e, ky, rfl, eb, l⟩ := g
  obtain rfl : iv = Value.ref b := ry
  obtain ⟨z, hd, xs, rel, dd⟩ := dx_dict I2 e ky
  refine wpAny_notIn_heap (tupleKind_room_in1 hu) (I2.keyT eb) hd dd ?_
  have q := (p2_val rel k).isSome_eq
  rw [Option.isSome_map] at q
  rw [← q, ← l]
  exact ⟨.bl (!ov.isSome), H2, I2.tok _, rfl, q2⟩
theorem ps_dputY {w : World} {K : PySem.W.Frag} (hw : X.w = w) (hk : X.K = K) (hu : X.A.units + 1 < cLine) (ho : PE X o td) (hi : PE X i ty) (hv : PE X value tv) (hs : swapsWith value (some (.Subscript o i pos')) pos.line X.env = pure false) :
    PS X (.Assign [.Subscript o i pos'] value pos) (sDPutY w K td ty tv) := by
  subst hw hk
  refine ⟨fun pins s σ H D I h => ?_⟩
  refine wpAny_Assign_Subscript (thn (hv.run pins s σ H _ I h) fun r s1 ⟨v, H1, I1, rv, q1⟩ => thn (ho.run pins s1 σ H1 _ I1 q1) fun u s2 ⟨x, H2, I2, rx, q2⟩ => thn (hi.run pins s2 σ H2 _ I2 q2) fun iv s3 ⟨y, H3, I3, ry, a, H4, ex, g, q3⟩ => ?_) hs
  subst ex
  obtain rfl : u = Value.ref a := rx
  obtain ⟨as, kvs, k, b, e, ky, rfl, eb, n, l, rfl⟩ := g
  obtain rfl : iv = Value.ref b := ry
  obtain ⟨z, hd, xs, rel, dd⟩ := dx_dict I3 (.inl e) ky
  have hz : xs.length ≤ sizeLine := by rw [← p2_len rel]; exact z
  refine wpAny_setItem_heap (hsz := hz) (tupleKind_room_in1 hu) (I3.keyT eb) dd fun h' dd' hs => ⟨σ, _, ?_, q3⟩
  obtain ⟨q, es, ep, hq, h2, h3, h4, _, h5⟩ := dd'
  exact d_write I3 (by rw [e]; exact True.intro) hs ⟨q, hq⟩ (dx_ok (by rw [List.length_append, List.length_singleton]; omega) hd (p2_put rel n rv) ⟨q, es, ep, hq, h2, h3, h4, h5⟩)
def tDNewY (w : World) : TE := fun _ H Q => ∀ p, H p = none → Q (.ref p) (upd H p (DX w p [] []))
theorem dx_new {X : Cx} {pins : List (Addr × Obj)} {σ : St} {H : Hp} {s : Shared} (I : Inv X pins σ H s) : Inv X pins σ (upd H s.heap.objs.size (DX X.w s.heap.objs.size [] [])) { s with heap := s.heap.push { cls := .type "dict", data := .dict #[] } } :=
  I.laid (a := s.heap.objs.size) (t' := s.toks) (fun _ _ q => Heap.get?_push_of_some _ q) (Nat.le_refl _)
    (dx_ok (P := X.prog) (xs := []) (Nat.zero_le _) (beq_eq_false_iff_ne.mpr (Ne.symm (Nat.ne_of_lt I.big))) ⟨rfl, .nil⟩ ⟨_, #[], 0, Heap.get?_push_size _ rfl, ⟨rfl, rfl, rfl⟩, rfl, rfl, List.nodup_nil⟩)
theorem pe_dnewY {w : World} {pos : Pos} (hw : X.w = w) : PE X (.Dict [] [] pos) (tDNewY w) := by
  subst hw
  exact ⟨fun pins s σ H Q I h =>
  wpAny_Dict_empty ⟨.ref s.heap.objs.size, _, dx_new I, rfl, h _ (I.hok.fresh (Nat.le_refl _))⟩⟩
def tDispY (w : World) (K : PySem.W.Frag) (tk tv : TE) : TE := fun σ H Q => ∀ p, H p = none → tPairs [(tk, tv)] σ (upd H p (DX w p [] [])) fun ps H2 => H2 p = some (DX w p [] []) ∧ ∃ (k : List Key) (b : Addr) (y : V), ps = [(.ref b, y)] ∧ SqT K H2 b (k.map kV) ∧ Q (.ref p) (upd H2 p (DX w p [b] [(k, y)]))
theorem pe_dispY {pos : Pos} {k v : Expr} {tk tv : TE} {w : World} {K : PySem.W.Frag} (hw : X.w = w) (hk : X.K = K) (hu : X.A.units + 1 < cLine) (h : PPs X pos [some k] [v] [(tk, tv)]) : PE X (.Dict [some k] [v] pos) (tDispY w K tk tv) := by
  subst hw hk
  refine ⟨fun pins s σ H Q I q => ?_⟩
  have hn := I.hok.fresh (Nat.le_refl s.heap.objs.size)
  have I1 := dx_new I
  rw [arm_eval_Dict, zip_pairTrees [some k] [v] X.env pos rfl rfl, dictDisplay_pairs _ (by intro z; cases z) (by show 1 < 17; decide)]
  refine wpAny_bind (wpAny_standAt (wpAny_bind ?_))
  unfold subDict
  refine wpAny_bind (wpAny_alloc ?_)
  refine wpAny_bind (wpAny_holding ?_)
  rw [if_pos (show (pairTrees [some k] [v] X.env pos).length ≤ 15 from by show 1 ≤ 15; decide)]
  refine wpAny_bind (thn (h.run pins _ σ _ _ I1 (q _ hn)) fun vs s2 ⟨ps, H2, I2, rel, e, kk, b, y, ep, eb, q2⟩ => ?_)
  subst ep
  obtain ⟨⟨u1, u2⟩, rfl, r1, r2⟩ : ∃ w : Value × Value, vs = [w] ∧ RelV (.ref b) w.1 ∧ RelV y w.2 := by
    cases rel with
    | cons r t =>
      cases t
      exact ⟨_, rfl, r.1, r.2⟩
  cases (show u1 = Value.ref b from r1)
  refine wpAny_holding ?_
  obtain ⟨z, hd, xs, rl, dd⟩ := dx_dict I2 (.inl e) .nil
  obtain rfl : xs = [] := by
    have := p2_len rl
    exact List.length_eq_zero_iff.mp this.symm
  rw [List.forIn_cons]
  refine wpAny_bind (wpAny_bind ?_)
  show wpAny _ _ (do dictSet s.heap.objs.size (.ref b) u2; pure (ForInStep.yield PUnit.unit)) _ _ _
  refine wpAny_bind (wpAny_dictSet_heap (hsz := Nat.zero_le _) (knd := tupleKind (mixKind X.prog X.w)) (show X.A.units < cLine by omega) (I2.keyT eb) dd fun h' dd' hs => ?_)
  refine wpAny_pure ?_
  dsimp only
  rw [List.forIn_nil]
  refine wpAny_pure ?_
  refine wpAny_pure ?_
  refine wpAny_pure ?_
  refine wpAny_pure ⟨.ref s.heap.objs.size, _, ?_, rfl, q2⟩
  obtain ⟨q, es, ep, hq, h2, h3, h4, _, h5⟩ := dd'
  exact d_write I2 (by rw [e]; exact True.intro) hs ⟨q, hq⟩ (dx_ok (by show 1 ≤ sizeLine; decide) hd (p2_put (b := b) rl rfl r2) ⟨q, es, ep, hq, h2, h3, h4, h5⟩)
def rLenX (w : World) (K : PySem.W.Frag) : List V → Hp → VK → Prop := fun xs H Q => ∃ (p : Addr) (as : List Addr) (kvs : List (List Key × V)), xs = [.ref p] ∧ H p = some (DX w p as kvs) ∧ KyA K H as kvs ∧ Q (.int ((kvs.length : Nat) : Int)) H
theorem call_len_dX {w : World} {K : PySem.W.Frag} (hw : X.w = w) (hk : X.K = K) : CallR X (.builtin "len") (rLenX w K) := by
  subst hw hk
  intro pins s σ H xs us Q I r h
  obtain ⟨p, as, kvs, rfl, hp, ky, q⟩ := h
  obtain ⟨u, rfl, rx⟩ := vals1 r
  obtain rfl : u = .ref p := rx
  obtain ⟨z, hd, ys, rel, dd⟩ := dx_dict I (.inl hp) ky
  have hl : kvs.length = ys.length := p2_len rel
  refine call_len_dictH hd dd (by rw [← hl]; rw [sizeLine_eq] at z; omega) ?_
  rw [← hl]
  exact ⟨.int ((kvs.length : Nat) : Int), H, I.tok _, ⟨_, rfl⟩, q⟩
end
/-- the keys of the locked dict at d, in their order -/
def Itx (w : World) (d : Addr) (o : Obj) (as : List Addr) (kvs : List (List Key × V)) : It :=
  ⟨fun i H => H d = some (.frz o (DX w d as kvs)) ∧ i < as.length, fun i H x H' => H' = H ∧ ∃ b, as[i]? = some b ∧ x = .ref b, fun i H => H d = some (.frz o (DX w d as kvs)) ∧ as.length ≤ i⟩
section
variable {X : Cx} {pins : List (Addr × Obj)} {σ : St} {H : Hp} {s : Shared} {d : Addr} {o : Obj} {as : List Addr} {kvs : List (List Key × V)}
theorem Inv.frzX (I : Inv X pins σ H s) (h : H d = some (.frz o (DX X.w d as kvs))) : (d == sysModules) = false ∧ s.heap.get? d = some o ∧ o.ExactDict ∧ ∃ (es : Array DictEntry) (ep : Nat), o.data = .dict es ep ∧ es.size = as.length ∧
    ∀ (i : Nat) (b : Addr), as[i]? = some b → ∃ en : DictEntry, es[i]? = some en ∧ en.key = .ref b := by
  obtain ⟨ho, ⟨few, hs, P, xs, p, o', es, ep, ho', hx, hdt, he, _⟩, _, _⟩ := I.hok d _ h
  rw [ho] at ho'
  cases ho'
  have l1 : es.size = xs.length := by rw [← Array.length_toList, he, List.length_map]
  obtain ⟨rfl, _⟩ := p
  refine ⟨hs, ho, hx, es, ep, hdt, by rw [List.length_map, l1], fun i b e => ?_⟩
  rw [List.getElem?_map] at e
  obtain ⟨q, hq, rfl⟩ := Option.map_eq_some_iff.mp e
  refine ⟨entryOfKey (tupleKind (mixKind P X.w)) q, ?_, rfl⟩
  rw [← Array.getElem?_toList, he, List.getElem?_map, hq]
  rfl
end
section
variable {P : Program} {w : World} {K : PySem.W.Frag} {tg : Expr} {d : Addr} {o : Obj} {es : Array DictEntry} {ep : Nat}
theorem turn_keysX {as : List Addr} {kvs : List (List Key × V)} (it : Addr) (hod : o.data = .dict es ep) : Turn P w K tg (Itx w d o as kvs) [it] it (fun i h => h.IsKeyIter it d i as.length ep) where
  mem := by simp
  obj := fun i h st b hb => by
    obtain rfl : b = it := by simpa using hb
    obtain ⟨oi, e, c, dd⟩ := st
    exact ⟨oi, e, fun v z => by rw [dd] at z; cases z⟩
  keep := fun i h h' st k => st.at fun oi e => k it (by simp) oi e
  item := by
    intro X hP hw hK hc i pins s σ H E I hf st hg
    subst hP hw hK
    obtain ⟨hd, hi⟩ := hg
    obtain ⟨f0, f1, f2, f3, f4, f5⟩ := hf it (by simp)
    obtain ⟨hs, hgd, hx, es', ep', hdt, hsz, ent⟩ := I.frzX hd
    obtain ⟨rfl, rfl⟩ := dict_ep hod hdt
    obtain ⟨b, hb⟩ : ∃ b, as[i]? = some b := ⟨as[i], List.getElem?_eq_getElem hi⟩
    obtain ⟨en, hen, hr⟩ := ent i b hb
    refine next_key_item st hgd hdt hsz hen fun h' st' sb => ?_
    have I1 : Inv X pins σ H { s with heap := h' } := I.turned (t' := s.toks) (fun b ob hb e => (sb.2 b hb).trans e) f0 f1 f3 f4 f5
    obtain ⟨oi, e, c, dd⟩ := id st'
    exact ⟨en.key, rfl, go_of (s := { s with heap := h' }) e c dd (by decide) ⟨.ref b, H, I1, hr, ⟨rfl, b, hb, rfl⟩, st', fun b hb => (hf b hb).1⟩⟩
  done := by
    intro X hP hw hK hc i pins s σ H E I hf st hg
    subst hP hw hK
    obtain ⟨hd, hi⟩ := hg
    obtain ⟨f0, f1, f2, f3, f4, f5⟩ := hf it (by simp)
    obtain ⟨hs, hgd, hx, es', ep', hdt, hsz, ent⟩ := I.frzX hd
    obtain ⟨rfl, rfl⟩ := dict_ep hod hdt
    exact next_key_end (I.ok.hd hc) st hgd hdt hsz hi fun h' eb => ⟨rfl, I.turned (t' := s.toks) (fun b ob hb e => eb b ob hb e) f0 f1 f3 f4 f5⟩
  self := fun A i s Q E st h => wpAny_pyIter_keyiter st h
theorem walk_keysX {as : List Addr} {kvs : List (List Key × V)} : Walk (Itx w d o as kvs) as.length (fun H => H d = some (.frz o (DX w d as kvs))) (fun i H x H' => H' = H ∧ ∃ b, as[i]? = some b ∧ x = .ref b) :=
  ⟨fun _ _ hi q => ⟨q, hi⟩, fun _ q => ⟨q, Nat.le_refl _⟩, fun _ _ _ _ _ _ y => y⟩
def iKeysXt (w : World) (td : TE) : TI := fun σ H R => td σ H fun x H1 => ∃ d o as kvs, x = .ref d ∧ H1 d = some (.frz o (DX w d as kvs)) ∧ R (Itx w d o as kvs) H1
end
section
variable {X : Cx} {tg e : Expr} {td : TE}
/-- for k in d, d locked -/
theorem pi_keysXt {w : World} (hw : X.w = w) (he : PE X e td) : PI X tg e (iKeysXt w td) := by
  subst hw
  refine ⟨fun pins s σ H R I h => ?_⟩
  refine thn (he.run pins s σ H _ I h) fun u s1 ⟨x, H1, I1, rx, d, o, as, kvs, ex, hd, q⟩ => ?_
  subst ex
  obtain rfl : u = Value.ref d := rx
  obtain ⟨hs, hgd, hx, es, ep, hdt, hsz, ent⟩ := I1.frzX hd
  refine iter_keys hs hgd hx hdt (pi_one (tk := s1.toks) I1 _ (turn_keysX _ hdt) ⟨_, Heap.get?_push_size _ rfl, rfl, ?_⟩ q)
  rw [hsz] <;> rfl
end
end L2
set_option Elab.async false
set_option linter.all false
set_option maxRecDepth 100000
set_option maxHeartbeats 8000000
set_option pp.maxSteps 900
/-! Places as tuples of two texts; the small functions of meetings. -/
namespace V8
open PySem PySem.Spec PyProof.Rows L2 MZ
variable {K : PySem.W.Frag} {ω : World}
abbrev s_other_side : Stmt := topS 45
theorem sc_other_side : FnScope ["side"] ["side"] (defScope s_other_side) := ⟨rfl, rfl, rfl, by decide +kernel, rfl, by decide +kernel, by decide +kernel⟩
abbrev s_place_behind : Stmt := topS 46
theorem sc_place_behind : FnScope ["ahead", "rest", "word"] ["ahead", "rest", "word"] (defScope s_place_behind) := ⟨rfl, rfl, rfl, by decide +kernel, rfl, by decide +kernel, by decide +kernel⟩
abbrev s_moves_from : Stmt := topS 47
abbrev n_moves_from : List Str := ["first", "second", "place", "ahead", "rest", "taker", "pairs", "tried", "word", "label", "move"]
theorem sc_moves_from : FnScope ["first", "second", "place", "ahead", "rest", "taker", "pairs", "tried", "word", "label", "move"] ["first", "second", "place"] (defScope s_moves_from) := ⟨rfl, rfl, rfl, by decide +kernel, rfl, by decide +kernel, by decide +kernel⟩
abbrev s_with_label : Stmt := topS 51
theorem sc_with_label : FnScope ["way", "taker", "label", "one", "other"] ["way", "taker", "label"] (defScope s_with_label) := ⟨rfl, rfl, rfl, by decide +kernel, rfl, by decide +kernel, by decide +kernel⟩
abbrev s_lead_of : Stmt := topS 53
theorem sc_lead_of : FnScope ["way", "one", "other"] ["way"] (defScope s_lead_of) := ⟨rfl, rfl, rfl, by decide +kernel, rfl, by decide +kernel, by decide +kernel⟩
/-! ### texts -/
theorem starts_Sx (a b : List Nat) : Txt.startswith (Sx a) (Sx b) = b.isPrefixOf a := by
  unfold Txt.startswith
  rw [PySem.StrLaws.subAt_eq, Sx_len, Sx_len]
  have e : ∀ x : List Nat, (Sx x).cps.toList = x := fun x => by show x.toArray.toList = x; simp
  rw [e, e, List.drop_zero, Bool.eq_iff_iff, Bool.and_eq_true, decide_eq_true_iff, beq_iff_eq, List.isPrefixOf_iff_prefix]
  constructor
  · rintro ⟨_, h⟩
    rw [← h]
    exact List.take_prefix _ _
  · rintro ⟨z, rfl⟩
    exact ⟨by rw [List.length_append]; omega, List.take_left⟩
theorem cut_Sx (a : List Nat) (k : Nat) (h : k ≤ a.length) : cutS (Sx a) (some ((k : Nat) : Int)) none = Sx (a.drop k) := by
  unfold cutS
  rw [HT.sIx_none, HT.sIx_nat, Sx_len, Nat.min_eq_left h]
  have e : (Sx a).cps.toList = a := by show a.toArray.toList = a; simp
  rw [e]
  show Str.mk _ = Str.mk _
  congr 2
  rw [List.take_of_length_le]
  rw [List.length_drop]
  omega
theorem Sx_app (a b : List Nat) : Sx a ++ Sx b = Sx (a ++ b) := by
  show Str.mk (a.toArray ++ b.toArray) = Str.mk (a ++ b).toArray
  simp
theorem Sx_eq (a b : List Nat) : decide (V.str (Sx a) = V.str (Sx b)) = decide (a = b) := decide_eq_decide.mpr ⟨fun e => Sx_inj (V.str.inj e), fun e => by rw [e]⟩
/-! ### places -/
def sideS (b : Bool) : Str := if b = true then "one" else "two"
def plS : Pl → Str × Str
  | .start => ("start", "")
  | .fin => ("end", "")
  | .rest a r => (sideS a, Sx r)
def plV (p : Pl) : List V := [.str (plS p).1, .str (plS p).2]
def plK (p : Pl) : List Key := [Sum.inr (plS p).1, Sum.inr (plS p).2]
theorem side_inj {a b : Bool} (h : sideS a = sideS b) : a = b := by
  cases a <;> cases b
  · rfl
  · exact absurd h (by decide +kernel)
  · exact absurd h (by decide +kernel)
  · rfl
theorem plS_inj {p q : Pl} (h : plS p = plS q) : p = q := by
  have h1 := congrArg Prod.fst h
  have h2 := congrArg Prod.snd h
  have ns : ∀ a : Bool, sideS a ≠ "start" ∧ sideS a ≠ "end" := fun a => by cases a <;> exact ⟨by decide +kernel, by decide +kernel⟩
  cases p with
  | start =>
    cases q with
    | start => rfl
    | fin => exact absurd (show ("start" : Str) = "end" from h1) (by decide +kernel)
    | rest a r => exact absurd (show ("start" : Str) = sideS a from h1).symm (ns a).1
  | fin =>
    cases q with
    | start => exact absurd (show ("end" : Str) = "start" from h1) (by decide +kernel)
    | fin => rfl
    | rest a r => exact absurd (show ("end" : Str) = sideS a from h1).symm (ns a).2
  | rest a r =>
    cases q with
    | start => exact absurd (show sideS a = "start" from h1) (ns a).1
    | fin => exact absurd (show sideS a = "end" from h1) (ns a).2
    | rest b s =>
      rw [side_inj (show sideS a = sideS b from h1), Sx_inj (show Sx r = Sx s from h2)]
theorem plK_inj {p q : Pl} (h : plK p = plK q) : p = q := by
  unfold plK at h
  injection h with h1 h2
  injection h2 with h2 _
  exact plS_inj (Prod.ext (Sum.inr.inj h1) (Sum.inr.inj h2))
/-- what keeps a tuple -/
theorem sq_mono {K : PySem.W.Frag} {H H' : Hp} {b : Addr} {xs : List V} (h : SqT K H b xs) (k : ∀ o, H b = some o → (o = .tup xs ∨ ∃ od, o = .frz od (.tup xs)) → H' b = some o) : SqT K H' b xs := by
  rcases h with (h | ⟨od, h⟩) | h
  · exact .inl (.inl (k _ h (.inl rfl)))
  · exact .inl (.inr ⟨od, k _ h (.inr ⟨od, rfl⟩)⟩)
  · exact .inr h
theorem sq_same {K : PySem.W.Frag} {H H' : Hp} {b : Addr} {xs : List V} (h : SqT K H b xs) (s : Same H H') : SqT K H' b xs := sq_mono h fun o e _ => s _ _ e
theorem sq_ne {K : PySem.W.Frag} {H : Hp} {b D : Addr} {xs : List V} {o u : HO} (h : SqT K H b xs) (hD : H D = some u) (n : u ≠ .tup xs) (n2 : ∀ od, u ≠ .frz od (.tup xs)) : SqT K (upd H D o) b xs := sq_mono h fun v e z => by
  rw [upd_ne fun q => ?_]
  · exact e
  · rw [q, hD] at e
    cases e
    rcases z with z | ⟨od, z⟩
    · exact n z
    · exact n2 od z
theorem sq_lst {K : PySem.W.Frag} {H : Hp} {b D : Addr} {xs ys : List V} {o : HO} (h : SqT K H b xs) (hD : H D = some (.lst ys)) : SqT K (upd H D o) b xs := sq_ne h hD (fun z => nomatch z) (fun _ z => nomatch z)
theorem sq_dx {K : PySem.W.Frag} {ω : World} {H : Hp} {b D : Addr} {xs : List V} {as : List Addr} {kvs : List (List Key × V)} {o : HO} (h : SqT K H b xs) (hD : H D = some (DX ω D as kvs)) : SqT K (upd H D o) b xs := sq_ne h hD (fun z => nomatch z) (fun _ z => nomatch z)
/-- the tuples that the text itself keeps -/
structure CnH (K : PySem.W.Frag) (aS aE aV : Addr) (H : Hp) : Prop where
  st : SqT K H aS (plV .start)
  en : SqT K H aE (plV .fin)
  ev : SqT K H aV [.str (sideS true), .str (Sx [])]
theorem CnH.same {aS aE aV : Addr} {H H' : Hp} (c : CnH K aS aE aV H) (s : Same H H') : CnH K aS aE aV H' := ⟨sq_same c.st s, sq_same c.en s, sq_same c.ev s⟩
structure Tm (mg : Str → Option Value) (aS aE aV : Addr) : Prop extends Blt mg where
  gSTART : GV mg "START" (.ref aS)
  gEND : GV mg "END" (.ref aE)
  gEVEN : GV mg "EVEN" (.ref aV)
  any : mg "any" = none
def spOther : Sp := fun vs H Q _ => ∃ a : Bool, vs = [.str (sideS a)] ∧ Q (.str (sideS (!a))) H
/-- where a word leads, as a value -/
def PlO (K : PySem.W.Frag) (H : Hp) (v : V) : Option Pl → Prop
  | none => v = .non
  | some p => ∃ b, v = .ref b ∧ SqT K H b (plV p)
def spBehind (K : PySem.W.Frag) (aS aE aV : Addr) : Sp := fun vs H Q _ => ∃ (a : Bool) (r w : Wd), vs = [.str (sideS a), .str (Sx r), .str (Sx w)] ∧ CnH K aS aE aV H ∧ r.length ≤ 9 ∧ w.length ≤ 9 ∧ ∀ v H', Same H H' → PlO K H' v (behind a r w) → Q v H'
/-- the labels of both rows, as a tuple -/
def WyT (H : Hp) (b : Addr) (w : List Nat × List Nat) : Prop := H b = some (.tup [.str (Sx w.1), .str (Sx w.2)])
def spLabel : Sp := fun vs H Q _ => ∃ (b : Addr) (w : List Nat × List Nat) (t : Bool) (l : Nat), vs = [.ref b, .str (sideS t), .str (L1 l)] ∧ WyT H b w ∧ w.1.length ≤ 2000 ∧ w.2.length ≤ 2000 ∧ ∀ c H', Same H H' → WyT H' c (put t l w) → Q (.ref c) H'
def LdO (K : PySem.W.Frag) (H : Hp) (v : V) : Option (Bool × List Nat) → Prop
  | none => v = .non
  | some k => ∃ b, v = .ref b ∧ SqT K H b [.str (sideS k.1), .str (Sx k.2)]
def spLead (K : PySem.W.Frag) : Sp := fun vs H Q _ => ∃ (b : Addr) (w : List Nat × List Nat), vs = [.ref b] ∧ WyT H b w ∧ w.1.length ≤ 2000 ∧ w.2.length ≤ 2000 ∧ ∀ v H', Same H H' → LdO K H' v (lead w) → Q v H'
section
variable {P : Program} {w : World} {K : PySem.W.Frag} {mg : Str → Option Value} {base : Heap} {aS aE aV : Addr}
theorem ok_other {f : Addr} {fd : FuncData} (F : Fun K "other_side" "other_side" s_other_side f fd) (T : Tm mg aS aE aV) : FnOk P w K mg base CX0 1 f fd ["side"] spOther := by
  refine F.ok sc_other_side (fun vs H Q E h => ?_) (fun cdv A outer s H vs Q E hr h => ?_)
  · obtain ⟨a, rfl, _⟩ := h
    rfl
  · obtain ⟨a, rfl, q⟩ := h
    refine ⟨_, (pss_one (ps_ret (pe_ifExp (pt_cmpR op_eq (pv 0) pe_str (nomark _)) pe_str pe_str))), ?_⟩
    cases a with
    | true =>
      refine ⟨_, rfl, rfl, _, rfl, ?_⟩
      rw [decide_eq_true (show V.str (sideS true) = V.str "one" from rfl)]
      exact iteT q
    | false =>
      refine ⟨_, rfl, rfl, _, rfl, ?_⟩
      rw [decide_eq_false (show ¬ V.str (sideS false) = V.str "one" from fun e => nomatch side_inj (V.str.inj e : sideS false = sideS true))]
      exact iteF q
theorem ok_behind {f : Addr} {fd : FuncData} (F : Fun K "place_behind" "place_behind" s_place_behind f fd) (T : Tm mg aS aE aV) (D_other_side : Df P w K mg base 1 "other_side" spOther) : FnOk P w K mg base CX0 2 f fd ["ahead", "rest", "word"] (spBehind K aS aE aV) := by
  refine F.ok sc_place_behind (fun vs H Q E h => ?_) (fun cdv A outer s H vs Q E hr h => ?_)
  · obtain ⟨a, r, w, rfl, _⟩ := h
    rfl
  · obtain ⟨a, r, w, rfl, cn, hr9, hw9, q⟩ := h
    refine ⟨_, (pss_cons (ps_if (pt_cmpR op_eq (pv 2) (pv 1) (nomark _))
        (pss_one (ps_ret (pe_gv T.gEND (by rfl))))
        pss_nil)
      (pss_cons (ps_if (pt_truth (pe_bmK (K := K) rfl PySem.F.plainAttrs_str PySem.F.slot_str_startswith PySem.F.type_str_startswith mt_startswith (pv 1) (pa_cons (pv 2) pa_nil)) (by intro _; rfl))
        (pss_one (ps_ret (pe_tup (pa_cons (pv 0) (pa_cons (pe_slice sl_str (pv 1) (po_some (pe_callB call_len_str (by rfl) T.len (by decide +kernel) (pa_cons (pv 2) pa_nil))) po_none) pa_nil)))))
        pss_nil)
      (pss_cons (ps_if (pt_truth (pe_bmK (K := K) rfl PySem.F.plainAttrs_str PySem.F.slot_str_startswith PySem.F.type_str_startswith mt_startswith (pv 2) (pa_cons (pv 1) pa_nil)) (by intro _; rfl))
        (pss_one (ps_ret (pe_tup (pa_cons (pe_c D_other_side hr (by decide) (by rfl) (pa_cons (pv 0) pa_nil)) (pa_cons (pe_slice sl_str (pv 2) (po_some (pe_callB call_len_str (by rfl) T.len (by decide +kernel) (pa_cons (pv 1) pa_nil))) po_none) pa_nil)))))
        pss_nil)
      (pss_one (ps_ret pe_non))))), ?_⟩
    unfold behind at q
    refine ⟨_, rfl, _, rfl, rfl, _, rfl, ?_⟩
    rw [Sx_eq]
    by_cases e : w = r
    · rw [if_pos e] at q
      rw [decide_eq_true e]
      exact iteT (q _ H (Same.refl H) ⟨aE, rfl, cn.en⟩)
    rw [if_neg e] at q
    rw [decide_eq_false e]
    refine iteF ?_
    refine ⟨_, rfl, rfl, _, rfl, _, _, rfl, rfl, _, rfl, ?_⟩
    rw [starts_Sx]
    cases e1 : w.isPrefixOf r with
    | true =>
      rw [if_pos e1] at q
      have lw : w.length ≤ r.length := (List.isPrefixOf_iff_prefix.mp e1).length_le
      refine iteT ⟨_, rfl, _, rfl, _, rfl, Sx w, rfl, by rw [Sx_len, sizeLine_eq]; omega, _, rfl, _, rfl, by rw [Sx_len, sizeLine_eq]; omega, by show 2 ≤ sizeLine; decide, fun b nb => ?_⟩
      rw [Sx_len, cut_Sx r w.length lw]
      exact q _ _ (same_put (s := Same.refl H) nb) ⟨b, rfl, SqT.of upd_same⟩
    | false =>
      rw [if_neg (by rw [e1]; decide)] at q
      refine iteF ?_
      refine ⟨_, rfl, rfl, _, rfl, _, _, rfl, rfl, _, rfl, ?_⟩
      rw [starts_Sx]
      cases e2 : r.isPrefixOf w with
      | true =>
        rw [if_pos e2] at q
        have lw : r.length ≤ w.length := (List.isPrefixOf_iff_prefix.mp e2).length_le
        refine iteT ⟨_, rfl, a, rfl, _, rfl, _, rfl, Sx r, rfl, by rw [Sx_len, sizeLine_eq]; omega, _, rfl, _, rfl, by rw [Sx_len, sizeLine_eq]; omega, by show 2 ≤ sizeLine; decide, fun b nb => ?_⟩
        rw [Sx_len, cut_Sx w r.length lw]
        exact q _ _ (same_put (s := Same.refl H) nb) ⟨b, rfl, SqT.of upd_same⟩
      | false =>
        rw [if_neg (by rw [e2]; decide)] at q
        exact iteF (q _ H (Same.refl H) rfl)
theorem ok_with_label {f : Addr} {fd : FuncData} (F : Fun K "with_label" "with_label" s_with_label f fd) (T : Tm mg aS aE aV) : FnOk P w K mg base CX0 1 f fd ["way", "taker", "label"] spLabel := by
  refine F.ok sc_with_label (fun vs H Q E h => ?_) (fun cdv A outer s H vs Q E hr h => ?_)
  · obtain ⟨b, y, t, l, rfl, _⟩ := h
    rfl
  · obtain ⟨b, y, t, l, rfl, hb, l1, l2, q⟩ := h
    refine ⟨_, (pss_cons (ps_asg (pv 0) (pg_tup (by rfl) (pgs_cons (pg_name (i := 3) sc_with_label.nd rfl (.inl rfl)) (pgs_cons (pg_name (i := 4) sc_with_label.nd rfl (.inl rfl)) pgs_nil))))
      (pss_one (ps_ret (pe_ifExp (pt_cmpR op_eq (pv 1) pe_str (nomark _)) (pe_tup (pa_cons (pe_op op_add_str (pv 3) (pv 2)) (pa_cons (pv 4) pa_nil))) (pe_tup (pa_cons (pv 3) (pa_cons (pe_op op_add_str (pv 4) (pv 2)) pa_nil))))))), ?_⟩
    refine ⟨_, rfl, b, _, rfl, .inl (.inl hb), rfl, _, _, rfl, _, _, rfl, rfl, ?_⟩
    refine ⟨_, rfl, rfl, _, rfl, ?_⟩
    have e1 : (L1 l) = Sx [l] := rfl
    cases t with
    | true =>
      rw [decide_eq_true (show V.str (sideS true) = V.str "one" from rfl)]
      refine iteT ⟨_, rfl, _, rfl, _, _, rfl, rfl, by rw [Sx_len, sizeLine_eq]; show _ + 1 ≤ _; omega, _, rfl, by show 2 ≤ sizeLine; decide, fun c nc => ?_⟩
      rw [e1, Sx_app]
      exact q _ _ (same_put (s := Same.refl H) nc) upd_same
    | false =>
      rw [decide_eq_false (show ¬ V.str (sideS false) = V.str "one" from fun e => nomatch side_inj (V.str.inj e : sideS false = sideS true))]
      refine iteF ⟨_, rfl, _, rfl, _, rfl, _, _, rfl, rfl, by rw [Sx_len, sizeLine_eq]; show _ + 1 ≤ _; omega, by show 2 ≤ sizeLine; decide, fun c nc => ?_⟩
      rw [e1, Sx_app]
      exact q _ _ (same_put (s := Same.refl H) nc) upd_same
theorem ok_lead_of {f : Addr} {fd : FuncData} (F : Fun K "lead_of" "lead_of" s_lead_of f fd) (T : Tm mg aS aE aV) : FnOk P w K mg base CX0 1 f fd ["way"] (spLead K) := by
  refine F.ok sc_lead_of (fun vs H Q E h => ?_) (fun cdv A outer s H vs Q E hr h => ?_)
  · obtain ⟨b, y, rfl, _⟩ := h
    rfl
  · obtain ⟨b, y, rfl, hb, l1, l2, q⟩ := h
    refine ⟨_, (pss_cons (ps_asg (pv 0) (pg_tup (by rfl) (pgs_cons (pg_name (i := 1) sc_lead_of.nd rfl (.inl rfl)) (pgs_cons (pg_name (i := 2) sc_lead_of.nd rfl (.inl rfl)) pgs_nil))))
      (pss_cons (ps_if (pt_truth (pe_bmK (K := K) rfl PySem.F.plainAttrs_str PySem.F.slot_str_startswith PySem.F.type_str_startswith mt_startswith (pv 1) (pa_cons (pv 2) pa_nil)) (by intro _; rfl))
        (pss_one (ps_ret (pe_tup (pa_cons pe_str (pa_cons (pe_slice sl_str (pv 1) (po_some (pe_callB call_len_str (by rfl) T.len (by decide +kernel) (pa_cons (pv 2) pa_nil))) po_none) pa_nil)))))
        pss_nil)
      (pss_cons (ps_if (pt_truth (pe_bmK (K := K) rfl PySem.F.plainAttrs_str PySem.F.slot_str_startswith PySem.F.type_str_startswith mt_startswith (pv 2) (pa_cons (pv 1) pa_nil)) (by intro _; rfl))
        (pss_one (ps_ret (pe_tup (pa_cons pe_str (pa_cons (pe_slice sl_str (pv 2) (po_some (pe_callB call_len_str (by rfl) T.len (by decide +kernel) (pa_cons (pv 1) pa_nil))) po_none) pa_nil)))))
        pss_nil)
      (pss_one (ps_ret pe_non))))), ?_⟩
    unfold lead at q
    refine ⟨_, rfl, b, _, rfl, .inl (.inl hb), rfl, _, _, rfl, _, _, rfl, rfl, ?_⟩
    refine ⟨_, rfl, rfl, _, rfl, _, _, rfl, rfl, _, rfl, ?_⟩
    rw [starts_Sx]
    cases e1 : y.2.isPrefixOf y.1 with
    | true =>
      rw [if_pos e1] at q
      have lw : y.2.length ≤ y.1.length := (List.isPrefixOf_iff_prefix.mp e1).length_le
      refine iteT ⟨_, rfl, _, rfl, Sx y.2, rfl, by rw [Sx_len, sizeLine_eq]; omega, _, rfl, _, rfl, by rw [Sx_len, sizeLine_eq]; omega, by show 2 ≤ sizeLine; decide, fun c nc => ?_⟩
      rw [Sx_len, cut_Sx _ _ lw]
      exact q _ _ (same_put (s := Same.refl H) nc) ⟨c, rfl, SqT.of upd_same⟩
    | false =>
      rw [if_neg (by rw [e1]; decide)] at q
      refine iteF ?_
      refine ⟨_, rfl, rfl, _, rfl, _, _, rfl, rfl, _, rfl, ?_⟩
      rw [starts_Sx]
      cases e2 : y.1.isPrefixOf y.2 with
      | true =>
        rw [if_pos e2] at q
        have lw : y.1.length ≤ y.2.length := (List.isPrefixOf_iff_prefix.mp e2).length_le
        refine iteT ⟨_, rfl, _, rfl, Sx y.1, rfl, by rw [Sx_len, sizeLine_eq]; omega, _, rfl, _, rfl, by rw [Sx_len, sizeLine_eq]; omega, by show 2 ≤ sizeLine; decide, fun c nc => ?_⟩
        rw [Sx_len, cut_Sx _ _ lw]
        exact q _ _ (same_put (s := Same.refl H) nc) ⟨c, rfl, SqT.of upd_same⟩
      | false =>
        rw [if_neg (by rw [e2]; decide)] at q
        exact iteF (q _ H (Same.refl H) rfl)
end
end V8
set_option Elab.async false
set_option linter.all false
set_option maxRecDepth 100000
set_option maxHeartbeats 8000000
set_option pp.maxSteps 900
/-! The steps from a place. -/
namespace V8
open PySem PySem.Spec PyProof.Rows L2 MZ
variable {K : PySem.W.Frag} {ω : World}
theorem via {t : TE} {σ : L2.St} {H : Hp} {R : VK} (A : V → Hp → Prop) (h1 : ∀ R' : VK, (∀ v H', A v H' → R' v H') → t σ H R') (h2 : ∀ v H', A v H' → R v H') : t σ H R := h1 R h2
def PlOk : Pl → Prop
  | .rest _ r => r.length ≤ 9 ∧ ∀ c ∈ r, isLt c
  | _ => True
def PrOk (P : List Pr) : Prop := P.length ≤ 30 ∧ ∀ q ∈ P, q.1.length ≤ 9 ∧ ∀ c ∈ q.1, isLt c
def MoT (K : PySem.W.Frag) (H : Hp) (v : V) (m : Mo) : Prop := ∃ c b, v = .ref c ∧ H c = some (.tup [.str (sideS m.1), .str (L1 m.2.1), .ref b]) ∧ SqT K H b (plV m.2.2)
def MoL (K : PySem.W.Frag) (H : Hp) (v : V) (ms : List Mo) : Prop := ∃ d xs, v = .ref d ∧ H d = some (.lst xs) ∧ Paired (MoT K H) xs ms
def PrT (H : Hp) (v : V) (q : Pr) : Prop := ∃ c, v = .ref c ∧ H c = some (.tup [.str (Sx q.1), .str (L1 q.2)])
def PrL (H : Hp) (a : Addr) (P : List Pr) : Prop := ∃ xs, H a = some (.lst xs) ∧ Paired (PrT H) xs P
theorem MoT.same {H H' : Hp} {v : V} {m : Mo} (h : MoT K H v m) (s : Same H H') : MoT K H' v m := by
  obtain ⟨c, b, e, h1, h2⟩ := h
  exact ⟨c, b, e, s _ _ h1, sq_same h2 s⟩
theorem PrT.same {H H' : Hp} {v : V} {q : Pr} (h : PrT H v q) (s : Same H H') : PrT H' v q := by
  obtain ⟨c, e, h1⟩ := h
  exact ⟨c, e, s _ _ h1⟩
theorem prd_imp {α β : Type} {R S : α → β → Prop} {xs : List α} {ys : List β} (h : Paired R xs ys) (i : ∀ x y, R x y → S x y) : Paired S xs ys := by
  induction h with
  | nil => exact .nil
  | cons r _ ih => exact .cons (i _ _ r) ih
theorem prd_at {α β : Type} {R : α → β → Prop} {xs : List α} {ys : List β} (h : Paired R xs ys) {i : Nat} {x : α} (e : xs[i]? = some x) : ∃ y, ys[i]? = some y ∧ R x y := by
  induction h generalizing i with
  | nil => simp at e
  | @cons a b l m r _ ih =>
    cases i with
    | zero =>
      rw [List.getElem?_cons_zero] at e ⊢
      exact ⟨b, rfl, Option.some.inj e ▸ r⟩
    | succ j =>
      rw [List.getElem?_cons_succ] at e ⊢
      exact ih e
theorem prd_len {α β : Type} {R : α → β → Prop} {xs : List α} {ys : List β} (h : Paired R xs ys) : xs.length = ys.length := Paired.length h
theorem PrL.same {H H' : Hp} {a : Addr} {P : List Pr} (h : PrL H a P) (s : Same H H') : PrL H' a P := by
  obtain ⟨xs, h1, h2⟩ := h
  exact ⟨xs, s _ _ h1, prd_imp h2 fun _ _ r => r.same s⟩
theorem shaped_of {d : PyData} (h : d.canLay0 = true) (h2 : d.depth ≤ 64) : SeqAt.shaped d = true := by
  show (d.canLay0 && decide (d.depth ≤ 64)) = true
  rw [h, decide_eq_true h2]
  rfl
theorem MoT.put {H : Hp} {v : V} {m : Mo} {D : Addr} {ys : List V} {o : HO} (h : MoT K H v m) (hD : H D = some (.lst ys)) : MoT K (upd H D o) v m := by
  obtain ⟨c, b, e, h1, h2⟩ := h
  exact ⟨c, b, e, by rw [upd_ne (ne_of h1 hD (fun z => nomatch z))]; exact h1, sq_lst h2 hD⟩
/-- tried: who takes, the label, and where to, or None -/
def TrT (K : PySem.W.Frag) (a : Bool) (r : Wd) (H : Hp) (v : V) (q : Pr) : Prop := ∃ c z, v = .ref c ∧ H c = some (.tup [.str (sideS (!a)), .str (L1 q.2), z]) ∧ PlO K H z (behind a r q.1)
theorem PlO.same {H H' : Hp} {v : V} {o : Option Pl} (h : PlO K H v o) (s : Same H H') : PlO K H' v o := by
  cases o with
  | none => exact h
  | some p =>
    obtain ⟨b, e, h1⟩ := h
    exact ⟨b, e, sq_same h1 s⟩
theorem PlO.put {H : Hp} {v : V} {q : Option Pl} {D : Addr} {ys : List V} {o : HO} (h : PlO K H v q) (hD : H D = some (.lst ys)) : PlO K (upd H D o) v q := by
  cases q with
  | none => exact h
  | some p =>
    obtain ⟨b, e, h1⟩ := h
    exact ⟨b, e, sq_lst h1 hD⟩
theorem TrT.same {a : Bool} {r : Wd} {H H' : Hp} {v : V} {q : Pr} (h : TrT K a r H v q) (s : Same H H') : TrT K a r H' v q := by
  obtain ⟨c, z, e, h1, h2⟩ := h
  exact ⟨c, z, e, s _ _ h1, h2.same s⟩
theorem TrT.put {a : Bool} {r : Wd} {H : Hp} {v : V} {q : Pr} {D : Addr} {ys : List V} {o : HO} (h : TrT K a r H v q) (hD : H D = some (.lst ys)) : TrT K a r (upd H D o) v q := by
  obtain ⟨c, z, e, h1, h2⟩ := h
  exact ⟨c, z, e, by rw [upd_ne (ne_of h1 hD (fun z => nomatch z))]; exact h1, h2.put hD⟩
def plD (p : Pl) : PyData := .tuple [.str (plS p).1, .str (plS p).2]
theorem pl_shaped {p : Pl} (h : PlOk p) : SeqAt.shaped (plD p) = true := by
  have ok : PyData.strOk (plS p).1 = true ∧ PyData.strOk (plS p).2 = true := by
    cases p with
    | start => exact ⟨by decide +kernel, by decide +kernel⟩
    | fin => exact ⟨by decide +kernel, by decide +kernel⟩
    | rest a r =>
      refine ⟨?_, ok_sx h.2⟩
      cases a with
      | true => exact (show PyData.strOk (sideS true) = true by decide +kernel)
      | false => exact (show PyData.strOk (sideS false) = true by decide +kernel)
  refine shaped_of (by simp only [plD, PyData.canLay0, PyData.canLayAll0, ok.1, ok.2]; rfl) ?_
  simp [plD, PyData.depth, PyData.depthAll]
theorem pl_eqv (p q : Pl) : PyData.eqv (plD p) (plD q) = decide (p = q) := by
  show (PyData.eqv (.str (plS p).1) (.str (plS q).1) && (PyData.eqv (.str (plS p).2) (.str (plS q).2) && true)) = _
  show (decide ((plS p).1 = (plS q).1) && (decide ((plS p).2 = (plS q).2) && true)) = _
  rw [Bool.and_true, Bool.eq_iff_iff, Bool.and_eq_true, decide_eq_true_iff, decide_eq_true_iff, decide_eq_true_iff]
  exact ⟨fun h => plS_inj (Prod.ext h.1 h.2), fun h => by rw [h]; exact ⟨rfl, rfl⟩⟩
theorem pl_dp {K : PySem.W.Frag} {H : Hp} {b : Addr} {p : Pl} (h : SqT K H b (plV p)) : Dp K H (.ref b) (plD p) := .tup h (.cons (.str _) (.cons (.str _) .nil))
def spMoves (K : PySem.W.Frag) (aS aE aV : Addr) : Sp := fun vs H Q _ => ∃ (f1 f2 b : Addr) (P S : List Pr) (p : Pl), vs = [.ref f1, .ref f2, .ref b] ∧ PrL H f1 P ∧ PrL H f2 S ∧ SqT K H b (plV p) ∧ CnH K aS aE aV H ∧ PlOk p ∧ PrOk P ∧ PrOk S ∧
  ∀ v H', Same H H' → MoL K H' v (moves P S p) → (∃ d, v = .ref d ∧ H d = none) → Q v H'
section
variable {P : Program} {w : World} {K : PySem.W.Frag} {mg : Str → Option Value} {base : Heap} {aS aE aV : Addr}
theorem ok_moves {f : Addr} {fd : FuncData} (F : Fun K "moves_from" "moves_from" s_moves_from f fd) (T : Tm mg aS aE aV) (D_other_side : Df P w K mg base 1 "other_side" spOther) (D_place_behind : Df P w K mg base 2 "place_behind" (spBehind K aS aE aV)) : FnOk P w K mg base CX0 3 f fd ["first", "second", "place"] (spMoves K aS aE aV) := by
  refine F.ok sc_moves_from (fun vs H Q E h => ?_) (fun cdv A outer s H vs Q E hr h => ?_)
  · obtain ⟨f1, f2, b, P, S, p, rfl, _⟩ := h
    rfl
  · obtain ⟨f1, f2, b, P1, S1, p, rfl, hP, hS, hb, cn, po, okP, okS, q⟩ := h
    refine ⟨_, (pss_cons (ps_if (pt_cmpR (op_eqDK (K := K) rfl hr.units) (pv 2) (pe_gv T.gEND (by rfl)) (nomark _))
        (pss_one (ps_ret (pe_lst pa_nil)))
        pss_nil)
      (pss_cons (ps_if (pt_cmpR (op_eqDK (K := K) rfl hr.units) (pv 2) (pe_gv T.gSTART (by rfl)) (nomark _))
        (pss_one (ps_ret (pe_lc (own := [("word", 8), ("label", 9)]) (g := gTup K 2 (gCons (gName 8) (gCons (gName 9) gNil))) (by rfl) sc_moves_from.nd (pi_list (pv 0)) (blkOk_by (own := [("word", 8), ("label", 9)]) (N := n_moves_from) (sc := defScope s_moves_from) (by decide +kernel)) (fun _ _ _ _ _ => (pg_tup (by rfl) (pgs_cons (pg_name (i := 8) sc_moves_from.nd rfl (.inl rfl)) (pgs_cons (pg_name (i := 9) sc_moves_from.nd rfl (.inl rfl)) pgs_nil)))) (fun _ _ _ _ _ => pts_nil) (fun _ _ _ _ _ => (pe_tup (pa_cons pe_str (pa_cons (pv 9) (pa_cons (pe_tup (pa_cons pe_str (pa_cons (pv 8) pa_nil))) pa_nil))))))))
        pss_nil)
      (pss_cons (ps_asg (pv 2) (pg_tup (by rfl) (pgs_cons (pg_name (i := 3) sc_moves_from.nd rfl (.inr rfl)) (pgs_cons (pg_name (i := 4) sc_moves_from.nd rfl (.inr rfl)) pgs_nil))))
      (pss_cons (ps_set (i := 5) sc_moves_from.nd rfl (.inr rfl) (pe_c D_other_side hr (by decide) (by rfl) (pa_cons (pv 3) pa_nil)))
      (pss_cons (ps_set (i := 6) sc_moves_from.nd rfl (.inl rfl) (pe_ifExp (pt_cmpR op_eq (pv 5) pe_str (nomark _)) (pv 0) (pv 1)))
      (pss_cons (ps_setLc (i := 7) (own := [("word", 8), ("label", 9)]) (g := gTup K 2 (gCons (gName 8) (gCons (gName 9) gNil))) (by rfl) sc_moves_from.nd rfl rfl (sw_true rfl rfl rfl (by decide +kernel)) (pi_list (pv 6)) (blkOk_by (own := [("word", 8), ("label", 9)]) (N := n_moves_from) (sc := defScope s_moves_from) (by decide +kernel)) (fun _ _ _ _ _ => (pg_tup (by rfl) (pgs_cons (pg_name (i := 8) sc_moves_from.nd rfl (.inl rfl)) (pgs_cons (pg_name (i := 9) sc_moves_from.nd rfl (.inl rfl)) pgs_nil)))) (fun _ _ _ _ _ => pts_nil) (fun _ _ _ _ _ => (pe_tup (pa_cons (pv 5) (pa_cons (pv 9) (pa_cons (pe_c D_place_behind hr (by decide) (by rfl) (pa_cons (pv 3) (pa_cons (pv 4) (pa_cons (pv 8) pa_nil)))) pa_nil))))))
      (pss_one (ps_ret (pe_lc (own := [("move", 10)]) (g := gName 10) (by rfl) sc_moves_from.nd (pi_list (pv 7)) (blkOk_by (own := [("move", 10)]) (N := n_moves_from) (sc := defScope s_moves_from) (by decide +kernel)) (fun _ _ _ _ _ => (pg_name (i := 10) sc_moves_from.nd rfl (.inl rfl))) (fun _ _ _ _ _ => (pts_one (pt_cmpR op_notN (pe_ix (ix_tupK (K := K) rfl) (pv 10) pe_int (fun _ _ => rfl)) pe_non (nomark _)))) (fun _ _ _ _ _ => (pv 10))))))))))), ?_⟩
    refine ⟨_, rfl, plD p, plD .fin, pl_dp hb, pl_dp cn.en, pl_shaped po, pl_shaped True.intro, _, rfl, ?_⟩
    rw [pl_eqv]
    by_cases e : p = .fin
    · subst e
      rw [decide_eq_true rfl]
      refine iteT ⟨Nat.zero_le _, fun d nd => ?_⟩
      exact q _ _ (same_put (s := Same.refl H) nd) ⟨d, [], rfl, upd_same, .nil⟩ ⟨d, rfl, nd⟩
    rw [decide_eq_false e]
    refine iteF ?_
    refine ⟨_, rfl, plD p, plD .start, pl_dp hb, pl_dp cn.st, pl_shaped po, pl_shaped True.intro, _, rfl, ?_⟩
    rw [pl_eqv]
    by_cases e2 : p = .start
    · subst e2
      rw [decide_eq_true rfl]
      obtain ⟨xs, hxs, prs⟩ := hP
      have lx := prd_len prs
      have l30 := okP.1
      refine iteT ⟨_, rfl, f1, rfl, ⟨_, SqL.of hxs⟩, fun D nD => lc_it (walk_list (K := K) (a := f1) (xs := xs)) (fun i H2 => ∃ ys, Paired (MoT K H2) ys ((moves P1 S1 .start).take i) ∧ H2 D = some (.lst ys) ∧ Same H H2) ?_ ?_ ?_ ?_⟩
      · exact ⟨[], .nil, upd_same, same_put (s := Same.refl H) nD⟩
      · rintro i H2 hi ⟨ys, _, _, s2⟩
        exact SqL.of (s2 _ _ hxs)
      · rintro i y H20 H2 hi ⟨ys, pr, hD, s2⟩ ⟨rfl, hy⟩
        obtain ⟨q0, hq0, c, rfl, hc⟩ := prd_at prs hy
        have ly := prd_len pr
        rw [List.length_take] at ly
        refine ⟨c, _, rfl, .inl (.inl (s2 _ _ hc)), rfl, _, _, rfl, _, _, rfl, rfl, ?_⟩
        refine ⟨rfl, _, rfl, _, rfl, by show 2 ≤ sizeLine; decide, fun b2 nb2 => ⟨by show 3 ≤ sizeLine; decide, fun c2 nc2 => ?_⟩⟩
        have sa := same_put (s := Same.refl H2) (o := .tup [.str "one", .str (Sx q0.1)]) nb2
        have hb2 : upd H2 b2 (.tup [.str "one", .str (Sx q0.1)]) b2 = some (.tup (plV (.rest true q0.1))) := upd_same
        have sb := same_put (s := Same.refl _) (o := .tup [.str "one", .str (L1 q0.2), .ref b2]) nc2
        have hb3 := sb _ _ hb2
        have hc2 : upd (upd H2 b2 (.tup [.str "one", .str (Sx q0.1)])) c2 (.tup [.str "one", .str (L1 q0.2), .ref b2]) c2 = some (.tup [.str (sideS true), .str (L1 q0.2), .ref b2]) := upd_same
        have hD2 := sb _ _ (sa _ _ hD)
        have mt : MoT K (upd (upd H2 b2 (.tup [.str "one", .str (Sx q0.1)])) c2 (.tup [.str "one", .str (L1 q0.2), .ref b2])) (.ref c2) (true, q0.2, .rest true q0.1) := ⟨c2, b2, rfl, hc2, SqT.of hb3⟩
        have s3 : Same H2 (upd (upd H2 b2 (.tup [.str "one", .str (Sx q0.1)])) c2 (.tup [.str "one", .str (L1 q0.2), .ref b2])) := fun b o e => sb _ _ (sa _ _ e)
        generalize upd (upd H2 b2 (.tup [.str "one", .str (Sx q0.1)])) c2 (.tup [.str "one", .str (L1 q0.2), .ref b2]) = H3 at hD2 mt s3 ⊢
        refine ⟨_, hD2, by rw [sizeLine_eq]; omega, ys ++ [.ref c2], ?_, upd_same, ?_⟩
        · have et : (moves P1 S1 .start).take (i + 1) = (moves P1 S1 .start).take i ++ [(true, q0.2, .rest true q0.1)] := by
            rw [List.take_add_one]
            show _ ++ ((P1.map _)[i]?).toList = _
            rw [List.getElem?_map, hq0]
            rfl
          rw [et]
          exact (prd_imp pr fun _ _ z => (z.same s3).put hD2).snoc (mt.put hD2)
        · intro b o e
          rw [upd_ne (ne_of_none e nD)]
          exact s3 _ _ (s2 _ _ e)
      rintro H2 ⟨ys, pr, hD, s2⟩
      rw [List.take_of_length_le (by show (P1.map _).length ≤ _; rw [List.length_map, lx]; exact Nat.le_refl _)] at pr
      exact q _ _ s2 ⟨D, ys, rfl, hD, pr⟩ ⟨D, rfl, nD⟩
    rw [decide_eq_false e2]
    refine iteF ?_
    obtain ⟨a, r, rfl⟩ : ∃ a r, p = .rest a r := by
      cases p with
      | start => exact absurd rfl e2
      | fin => exact absurd rfl e
      | rest a r => exact ⟨a, r, rfl⟩
    obtain ⟨r9, _⟩ := po
    refine ⟨_, rfl, b, _, rfl, hb, rfl, _, _, rfl, _, _, rfl, rfl, ?_⟩
    refine ⟨_, rfl, a, rfl, ?_⟩
    -- whose pairs
    refine via (t := tIf (tTest (tOp rEq (tVar 5) (tC (V.str "one")))) (tVar 0) (tVar 1)) (fun v H2 => ∃ f xs, v = .ref f ∧ H = H2 ∧ H f = some (.lst xs) ∧ Paired (PrT H) xs (if a = true then S1 else P1)) (fun R hR => ?_) (fun v H2 z => ?_)
    · refine ⟨_, rfl, rfl, _, rfl, ?_⟩
      cases a with
      | true =>
        rw [decide_eq_false (show ¬ V.str (sideS (!true)) = V.str "one" from fun e => nomatch side_inj (V.str.inj e : sideS false = sideS true))]
        obtain ⟨xs, h1, h2⟩ := hS
        exact iteF ⟨_, rfl, hR _ _ ⟨f2, xs, rfl, rfl, h1, h2⟩⟩
      | false =>
        rw [decide_eq_true (show V.str (sideS (!false)) = V.str "one" from rfl)]
        obtain ⟨xs, h1, h2⟩ := hP
        exact iteT ⟨_, rfl, hR _ _ ⟨f1, xs, rfl, rfl, h1, h2⟩⟩
    obtain ⟨f0, xs, rfl, rfl, hxs, prs⟩ := z
    have okQ : PrOk (if a = true then S1 else P1) := by
      cases a with
      | true => exact okS
      | false => exact okP
    have em : moves P1 S1 (.rest a r) = (if a = true then S1 else P1).filterMap fun q => (behind a r q.1).map fun t => (!a, q.2, t) := rfl
    rw [em] at q
    generalize (if a = true then S1 else P1) = Q1 at prs okQ q
    have lx := prd_len prs
    have l30 := okQ.1
    refine ⟨_, rfl, f0, rfl, ⟨_, SqL.of hxs⟩, fun D nD => lc_it (walk_list (K := K) (a := f0) (xs := xs)) (fun i H2 => ∃ ys, Paired (TrT K a r H2) ys (Q1.take i) ∧ H2 D = some (.lst ys) ∧ Same H H2) ?_ ?_ ?_ ?_⟩
    · exact ⟨[], .nil, upd_same, same_put (s := Same.refl H) nD⟩
    · rintro i H2 hi ⟨ys, _, _, s2⟩
      exact SqL.of (s2 _ _ hxs)
    · rintro i y H20 H2 hi ⟨ys, pr, hD, s2⟩ ⟨rfl, hy⟩
      obtain ⟨q0, hq0, c, rfl, hc⟩ := prd_at prs hy
      have ly := prd_len pr
      rw [List.length_take] at ly
      have hq1 : q0 ∈ Q1 := List.mem_of_getElem? hq0
      refine ⟨c, _, rfl, .inl (.inl (s2 _ _ hc)), rfl, _, _, rfl, _, _, rfl, rfl, ?_⟩
      refine ⟨rfl, _, rfl, _, rfl, _, rfl, _, rfl, _, rfl, a, r, q0.1, rfl, cn.same s2, r9, (okQ.2 q0 hq1).1, fun z H3 s3 hz => ⟨by show 3 ≤ sizeLine; decide, fun c2 nc2 => ?_⟩⟩
      have sb := same_put (s := Same.refl H3) (o := .tup [.str (sideS (!a)), .str (L1 q0.2), z]) nc2
      have hc2 : upd H3 c2 (.tup [.str (sideS (!a)), .str (L1 q0.2), z]) c2 = some (.tup [.str (sideS (!a)), .str (L1 q0.2), z]) := upd_same
      have s4 : Same H2 (upd H3 c2 (.tup [.str (sideS (!a)), .str (L1 q0.2), z])) := fun b o e => sb _ _ (s3 _ _ e)
      have hD2 := s4 _ _ hD
      have mt : TrT K a r (upd H3 c2 (.tup [.str (sideS (!a)), .str (L1 q0.2), z])) (.ref c2) q0 := ⟨c2, z, rfl, hc2, hz.same sb⟩
      generalize upd H3 c2 (.tup [.str (sideS (!a)), .str (L1 q0.2), z]) = H4 at hD2 mt s4 ⊢
      refine ⟨_, hD2, by rw [sizeLine_eq]; omega, ys ++ [.ref c2], ?_, upd_same, ?_⟩
      · rw [List.take_add_one, hq0]
        exact (prd_imp pr fun _ _ z => (z.same s4).put hD2).snoc (mt.put hD2)
      · intro b o e
        rw [upd_ne (ne_of_none e nD)]
        exact s4 _ _ (s2 _ _ e)
    rintro H2 ⟨ys, pr, hD, s2⟩
    rw [List.take_of_length_le (by rw [lx]; exact Nat.le_refl _)] at pr
    have ly := prd_len pr
    -- those that are none left out
    refine ⟨_, rfl, D, rfl, ⟨_, SqL.of hD⟩, fun D3 nD3 => lc_it (walk_list (K := K) (a := D) (xs := ys)) (fun i H3 => ∃ zs, Paired (MoT K H3) zs ((Q1.take i).filterMap fun q => (behind a r q.1).map fun t => (!a, q.2, t)) ∧ H3 D3 = some (.lst zs) ∧ Same H2 H3) ?_ ?_ ?_ ?_⟩
    · exact ⟨[], .nil, upd_same, same_put (s := Same.refl H2) nD3⟩
    · rintro i H3 hi ⟨zs, _, _, s3⟩
      exact SqL.of (s3 _ _ hD)
    · rintro i y H30 H3 hi ⟨zs, prz, hD3, s3⟩ ⟨rfl, hy⟩
      obtain ⟨q0, hq0, c, z, rfl, hc, hz⟩ := prd_at pr hy
      have lz := prd_len prz
      have lz2 : ((Q1.take i).filterMap fun q => (behind a r q.1).map fun t => ((!a, q.2, t) : Mo)).length ≤ 30 := Nat.le_trans (List.length_filterMap_le _ _) (by rw [List.length_take]; omega)
      have ef : (Q1.take (i + 1)).filterMap (fun q => (behind a r q.1).map fun t => ((!a, q.2, t) : Mo)) = ((Q1.take i).filterMap fun q => (behind a r q.1).map fun t => (!a, q.2, t)) ++ ((behind a r q0.1).map fun t => (!a, q0.2, t)).toList := by
        rw [List.take_add_one, hq0, List.filterMap_append]
        congr 1
      refine ⟨rfl, _, rfl, c, _, _, _, rfl, rfl, .inl (.inl (s3 _ _ hc)), atI_nat (j := 2) rfl, ?_⟩
      have hz3 := hz.same s3
      rw [ef]
      cases eb : behind a r q0.1 with
      | none =>
        rw [eb] at hz
        have hz : z = .non := hz
        subst hz
        refine ⟨rfl, false, rfl, iteF ?_⟩
        show ∃ zs, Paired (MoT K H3) zs (_ ++ []) ∧ _
        rw [List.append_nil]
        exact ⟨zs, prz, hD3, s3⟩
      | some t =>
        rw [eb] at hz3
        obtain ⟨b3, rfl, hb3⟩ := hz3
        refine ⟨rfl, true, rfl, iteT ⟨_, rfl, _, hD3, by rw [sizeLine_eq]; omega, zs ++ [.ref c], ?_, upd_same, ?_⟩⟩
        · exact (prd_imp prz fun _ _ z => z.put hD3).snoc (MoT.put ⟨c, b3, rfl, s3 _ _ hc, hb3⟩ hD3)
        · intro b o e
          rw [upd_ne (ne_of_none e nD3)]
          exact s3 _ _ e
    rintro H3 ⟨zs, prz, hD3, s3⟩
    rw [List.take_of_length_le (by omega)] at prz
    exact q _ _ (fun b o e => s3 _ _ (s2 _ _ e)) ⟨D3, zs, rfl, hD3, prz⟩ ⟨D3, rfl, same_none s2 nD3⟩
end
end V8
set_option Elab.async false
set_option linter.all false
set_option maxRecDepth 100000
set_option maxHeartbeats 8000000
set_option pp.maxSteps 900
/-! All places that can be reached, with the steps from each. -/
namespace V8
open PySem PySem.Spec PyProof.Rows L2 MZ
variable {K : PySem.W.Frag} {ω : World}
abbrev s_all_moves : Stmt := topS 48
theorem sc_all_moves : FnScope ["first", "second", "moves", "met", "queue", "place", "found", "_", "target"] ["first", "second"] (defScope s_all_moves) := ⟨rfl, rfl, rfl, by decide +kernel, rfl, by decide +kernel, by decide +kernel⟩
def PlT (K : PySem.W.Frag) (H : Hp) (b : Addr) (p : Pl) : Prop := SqT K H b (plV p)
/-- a dict with places as keys -/
def keysP (kvs : List (List Key × V)) (Q : List Pl) : Prop := kvs.map (·.1) = Q.map plK
/-- the steps of places, as values of a dict -/
def MvD (K : PySem.W.Frag) (P S : List Pr) (H : Hp) (kv : List Key × V) (p : Pl) : Prop := kv.1 = plK p ∧ MoL K H kv.2 (moves P S p)
/-- a dict of all places with their steps -/
def AllM (K : PySem.W.Frag) (ω : World) (P S : List Pr) (Q : List Pl) (H : Hp) (d : Addr) : Prop := ∃ as kvs, H d = some (DX ω d as kvs) ∧ KyA K H as kvs ∧ Paired (MvD K P S H) kvs Q
theorem MoL.same {H H' : Hp} {v : V} {ms : List Mo} (h : MoL K H v ms) (s : Same H H') : MoL K H' v ms := by
  obtain ⟨d, xs, e, h1, h2⟩ := h
  exact ⟨d, xs, e, s _ _ h1, prd_imp h2 fun _ _ r => r.same s⟩
theorem keysP_is {kvs : List (List Key × V)} {Q : List Pl} (h : keysP kvs Q) (p : Pl) : (valV kvs (plK p)).isSome = decide (p ∈ Q) := by
  rw [← valV_any, Bool.eq_iff_iff, List.any_eq_true, decide_eq_true_iff]
  constructor
  · rintro ⟨kv, hkv, e⟩
    have e := of_decide_eq_true e
    have m : plK p ∈ Q.map plK := by
      rw [← h, ← e]
      exact List.mem_map_of_mem hkv
    obtain ⟨q, hq, e2⟩ := List.mem_map.mp m
    exact plK_inj e2 ▸ hq
  · intro hp
    have m : plK p ∈ kvs.map (·.1) := by
      rw [h]
      exact List.mem_map_of_mem hp
    obtain ⟨kv, hkv, e⟩ := List.mem_map.mp m
    exact ⟨kv, hkv, decide_eq_true e⟩
theorem keysP_none {kvs : List (List Key × V)} {Q : List Pl} {p : Pl} (h : keysP kvs Q) (n : p ∉ Q) : valV kvs (plK p) = none := by
  have := keysP_is h p
  rw [decide_eq_false n] at this
  cases e : valV kvs (plK p) with
  | none => rfl
  | some v =>
    rw [e] at this
    cases this
theorem DGetY.t {H : Hp} {a b : Addr} {as : List Addr} {kvs : List (List Key × V)} {k : List Key} (e : H a = some (DX ω a as kvs)) (ky : KyA K H as kvs) (eb : SqT K H b (k.map kV)) : DGetY ω K H a (.ref b) (valV kvs k) := ⟨as, kvs, k, b, .inl e, ky, rfl, eb, rfl⟩
theorem DPutY.t {H : Hp} {a b : Addr} {as : List Addr} {kvs : List (List Key × V)} {k : List Key} {v : V} (e : H a = some (DX ω a as kvs)) (ky : KyA K H as kvs) (eb : SqT K H b (k.map kV)) (n : valV kvs k = none) (hl : kvs.length < sizeLine) :
    DPutY ω K H a (.ref b) v (upd H a (DX ω a (as ++ [b]) (kvs ++ [(k, v)]))) := ⟨as, kvs, k, b, e, ky, rfl, eb, n, hl, rfl⟩
theorem ky_same {H H' : Hp} {as : List Addr} {kvs : List (List Key × V)} (h : KyA K H as kvs) (s : Same H H') : KyA K H' as kvs := prd_imp h fun _ _ z => sq_same z s
theorem keysP_snoc {kvs : List (List Key × V)} {Q : List Pl} {p : Pl} {v : V} (h : keysP kvs Q) : keysP (kvs ++ [(plK p, v)]) (Q ++ [p]) := by
  unfold keysP at h ⊢
  rw [List.map_append, List.map_append, h]
  rfl
theorem keysP_len {kvs : List (List Key × V)} {Q : List Pl} (h : keysP kvs Q) : kvs.length = Q.length := by
  have := congrArg List.length h
  rw [List.length_map, List.length_map] at this
  exact this
/-- places that are reached are short -/
theorem reach_ok {P S : List Pr} (hP : ∀ q ∈ P, q.1 ≠ []) (oP : PrOk P) (oS : PrOk S) {p : Pl} {w : List Nat × List Nat} (h : Way P S .start p w) : PlOk p := by
  have z := (reach_uni hP h).2
  have tail : ∀ {R : List Pr} {r : Wd}, PrOk R → (∃ q ∈ R, ∃ a, q.1 = a ++ r) → r.length ≤ 9 ∧ ∀ c ∈ r, isLt c := fun {R r} o ⟨q, hq, a, e⟩ => by
    obtain ⟨h1, h2⟩ := o.2 q hq
    rw [e, List.length_append] at h1
    exact ⟨by omega, fun c hc => h2 c (by rw [e]; exact List.mem_append_right _ hc)⟩
  cases p with
  | start => trivial
  | fin => trivial
  | rest a r =>
    cases a with
    | true => exact tail oP z.2
    | false => exact tail oS z.2
theorem sum_ok {P : List Pr} (o : PrOk P) : sumL P ≤ 270 := by
  have : ∀ R : List Pr, (∀ q ∈ R, q.1.length ≤ 9) → sumL R ≤ 9 * R.length := by
    intro R
    induction R with
    | nil => intro _; exact Nat.le_refl _
    | cons q R ih =>
      intro h
      have h1 := h q List.mem_cons_self
      have h2 := ih fun x hx => h x (List.mem_cons_of_mem _ hx)
      show q.1.length + sumL R ≤ 9 * (R.length + 1)
      omega
  have h := this P fun q hq => (o.2 q hq).1
  have := o.1
  omega
theorem addTo_snoc (Q : List Pl) (f : List Mo) (m : Mo) : addTo Q (f ++ [m]) = if m.2.2 ∈ addTo Q f then addTo Q f else addTo Q f ++ [m.2.2] := by
  unfold addTo
  rw [List.foldl_append]
  rfl
/-- the search for places, step by step -/
def stepQ (P S : List Pr) (Q : List Pl) (n : Nat) : List Pl := match Q[n]? with
  | none => Q
  | some p => addTo Q (moves P S p)
def runQ (P S : List Pr) : Nat → List Pl
  | 0 => [.start]
  | n + 1 => stepQ P S (runQ P S n) n
theorem runQ_stay {P S : List Pr} {n : Nat} (h : n = (runQ P S n).length) : ∀ k, runQ P S (n + k) = runQ P S n
  | 0 => rfl
  | k + 1 => by
    show stepQ P S (runQ P S (n + k)) (n + k) = _
    rw [runQ_stay h k]
    unfold stepQ
    rw [List.getElem?_eq_none (by omega)]
/-- all places, in the order in which they are met -/
def placesQ (P S : List Pr) : List Pl := runQ P S 600
/-- what the search keeps: the places met, those gone through with their steps -/
structure Srch (K : PySem.W.Frag) (ω : World) (P S : List Pr) (mv mt qu : Addr) (H0 : Hp) (Q : List Pl) (n : Nat) (H : Hp) : Prop where
  b : Bfs P S .start Q n
  run : runQ P S n = Q
  mv_ : ∃ vs ks, H mv = some (DX ω mv vs ks) ∧ KyA K H vs ks ∧ Paired (fun kv p => MvD K P S H kv p ∧ kv.2 ≠ .ref qu) ks (Q.take n)
  mt_ : ∃ ts ms, H mt = some (DX ω mt ts ms) ∧ KyA K H ts ms ∧ keysP ms Q
  qu_ : ∃ as, H qu = some (.lst (as.map V.ref)) ∧ Paired (PlT K H) as Q
  sm : Same H0 H
theorem MvD.up {P S : List Pr} {H H' : Hp} {kv : List Key × V} {p : Pl} (h : MvD K P S H kv p) (s : Same H H') : MvD K P S H' kv p := ⟨h.1, h.2.same s⟩
/-- all but two things stays -/
def But2 (a b : Addr) (H H' : Hp) : Prop := ∀ c u, H c = some u → c ≠ a → c ≠ b → H' c = some u
theorem But2.sq {a b c : Addr} {H H' : Hp} {xs ms : List V} {ts : List Addr} {ks : List (List Key × V)} (h : But2 a b H H') (e : SqT K H c xs) (ha : H a = some (DX ω a ts ks)) (hb : H b = some (.lst ms)) : SqT K H' c xs := sq_mono e fun o eo z => by
  refine h c o eo (fun q => ?_) (fun q => ?_)
  · rw [q, ha] at eo
    cases eo
    rcases z with z | ⟨_, z⟩ <;> cases z
  · rw [q, hb] at eo
    cases eo
    rcases z with z | ⟨_, z⟩ <;> cases z
theorem But2.tup {a b c : Addr} {H H' : Hp} {xs ms : List V} {ts : List Addr} {ks : List (List Key × V)} (h : But2 a b H H') (e : H c = some (.tup xs)) (ha : H a = some (DX ω a ts ks)) (hb : H b = some (.lst ms)) : H' c = some (.tup xs) :=
  h c _ e (ne_of e ha (fun z => nomatch z)) (ne_of e hb (fun z => nomatch z))
theorem MoT.but {a b : Addr} {H H' : Hp} {v : V} {m : Mo} {ms : List V} {ts : List Addr} {ks : List (List Key × V)} (t : MoT K H v m) (h : But2 a b H H') (ha : H a = some (DX ω a ts ks)) (hb : H b = some (.lst ms)) : MoT K H' v m := by
  obtain ⟨c, d, e, h1, h2⟩ := t
  exact ⟨c, d, e, h.tup h1 ha hb, h.sq h2 ha hb⟩
theorem MoL.but {a b : Addr} {H H' : Hp} {v : V} {l : List Mo} {ms : List V} {ts : List Addr} {ks : List (List Key × V)} (t : MoL K H v l) (n : v ≠ .ref b) (h : But2 a b H H') (ha : H a = some (DX ω a ts ks)) (hb : H b = some (.lst ms)) : MoL K H' v l := by
  obtain ⟨d, xs, rfl, h1, h2⟩ := t
  exact ⟨d, xs, rfl, h d _ h1 (ne_of h1 ha (fun z => nomatch z)) (fun z => n (by rw [z])), prd_imp h2 fun _ _ r => r.but h ha hb⟩
def spAll (K : PySem.W.Frag) (ω : World) (aS aE aV : Addr) : Sp := fun vs H Q _ => ∃ (f1 f2 : Addr) (P S : List Pr), vs = [.ref f1, .ref f2] ∧ PrL H f1 P ∧ PrL H f2 S ∧ CnH K aS aE aV H ∧ PrOk P ∧ PrOk S ∧ (∀ q ∈ P, q.1 ≠ []) ∧
  ∀ (d : Addr) (Qs : List Pl) (H' : Hp), Same H H' → H d = none → Bfs P S .start Qs Qs.length → Qs = placesQ P S → AllM K ω P S Qs H' d → Q (.ref d) H'
section
variable {P : Program} {w : World} {K : PySem.W.Frag} {mg : Str → Option Value} {base : Heap} {aS aE aV : Addr}
theorem ok_all_moves {f : Addr} {fd : FuncData} (F : Fun K "all_moves" "all_moves" s_all_moves f fd) (T : Tm mg aS aE aV) (D_moves_from : Df P w K mg base 3 "moves_from" (spMoves K aS aE aV)) : FnOk P w K mg base CX0 4 f fd ["first", "second"] (spAll K w aS aE aV) := by
  refine F.ok sc_all_moves (fun vs H Q E h => ?_) (fun cdv A outer s H vs Q E hr h => ?_)
  · obtain ⟨f1, f2, P, S, rfl, _⟩ := h
    rfl
  · obtain ⟨f1, f2, P1, S1, rfl, hP, hS, cn, okP, okS, nP, q⟩ := h
    refine ⟨_, (pss_cons (ps_set (i := 2) sc_all_moves.nd rfl (.inl rfl) (pe_dnewY (w := w) rfl))
      (pss_cons (ps_set (i := 3) sc_all_moves.nd rfl (.inl rfl) (pe_dispY (w := w) (K := K) rfl rfl (hu_of hr) (pps_cons (pe_gv T.gSTART (by rfl)) pe_bl pps_nil)))
      (pss_cons (ps_set (i := 4) sc_all_moves.nd rfl (.inl rfl) (pe_lst (pa_cons (pe_gv T.gSTART (by rfl)) pa_nil)))
      (pss_cons (ps_while PassesOwn.never (pt_cmpR op_lt (pe_callB (call_len_dX (w := w) (K := K) rfl rfl) (by rfl) T.len (by decide +kernel) (pa_cons (pv 2) pa_nil)) (pe_callB (call_len_seqK (K := K) rfl) (by rfl) T.len (by decide +kernel) (pa_cons (pv 4) pa_nil)) (nomark _))
        (pss_cons (ps_set (i := 5) sc_all_moves.nd rfl (.inl rfl) (pe_ix (ix_listK (K := K) rfl) (pv 4) (pe_callB (call_len_dX (w := w) (K := K) rfl rfl) (by rfl) T.len (by decide +kernel) (pa_cons (pv 2) pa_nil)) (fun _ _ => rfl)))
        (pss_cons (ps_set (i := 6) sc_all_moves.nd rfl (.inl rfl) (pe_c D_moves_from hr (by decide) (by rfl) (pa_cons (pv 0) (pa_cons (pv 1) (pa_cons (pv 5) pa_nil)))))
        (pss_cons (ps_for PassesOwn.never rfl (pi_list (pv 6)) (pg_tup (by rfl) (pgs_cons (pg_name (i := 7) sc_all_moves.nd rfl (.inl rfl)) (pgs_cons (pg_name (i := 7) sc_all_moves.nd rfl (.inl rfl)) (pgs_cons (pg_name (i := 8) sc_all_moves.nd rfl (.inl rfl)) pgs_nil))))
          (pss_one (ps_if (pt_cmp (pc_dnotinY (w := w) (K := K) rfl rfl (hu_of hr) (pv 8) (pv 3)))
            (pss_cons (ps_dputY (w := w) (K := K) rfl rfl (hu_of hr) (pv 3) (pv 8) pe_bl rfl)
            (pss_one (ps_expr (pe_bmK (K := K) rfl PySem.F.plainAttrs_list PySem.F.slot_list_append PySem.F.type_list_append mt_append (pv 4) (pa_cons (pv 8) pa_nil)))))
            pss_nil)))
        (pss_one (ps_dputY (w := w) (K := K) rfl rfl (hu_of hr) (pv 2) (pv 5) (pv 6) rfl))))))
      (pss_one (ps_ret (pv 2))))))), ?_⟩
    refine fun mv nmv => ?_
    have s1 := same_put (s := Same.refl H) (o := DX w mv [] []) nmv
    refine fun mt nmt => ⟨?_, plK .start, aS, .bl true, rfl, ?_, ?_⟩
    · exact upd_same
    · have s2 := same_put (s := s1) (o := DX w mt [] []) nmt
      exact sq_same cn.st s2
    refine ⟨by show 1 ≤ sizeLine; decide, fun qu nqu => ?_⟩
    have mne : mv ≠ mt := ne_of_none (show upd H mv (DX w mv [] []) mv = some (DX w mv [] []) from upd_same) nmt
    rw [upd_upd] at nqu ⊢
    have s2 := same_put (s := s1) (o := DX w mt [aS] [(plK .start, V.bl true)]) nmt
    have s3 := same_put (s := s2) (o := .lst [V.ref aS]) nqu
    have s3' := same_put (s := Same.refl _) (o := .lst [V.ref aS]) nqu
    have hmv := s3' _ _ (show upd (upd H mv (DX w mv [] [])) mt (DX w mt [aS] [(plK .start, V.bl true)]) mv = some (DX w mv [] []) by rw [upd_ne mne]; exact upd_same)
    have hmt := s3' _ _ (show upd (upd H mv (DX w mv [] [])) mt (DX w mt [aS] [(plK .start, V.bl true)]) mt = some (DX w mt [aS] [(plK .start, V.bl true)]) from upd_same)
    have hqu : upd (upd (upd H mv (DX w mv [] [])) mt (DX w mt [aS] [(plK .start, V.bl true)])) qu (.lst [V.ref aS]) qu = some (.lst [V.ref aS]) := upd_same
    show Ends.nx _ _ (upd (upd (upd H mv (DX w mv [] [])) mt (DX w mt [aS] [(plK .start, V.bl true)])) qu (.lst [V.ref aS]))
    have nmtH : H mt = none := same_none s1 nmt
    have nquH : H qu = none := same_none s2 nqu
    generalize upd (upd (upd H mv (DX w mv [] [])) mt (DX w mt [aS] [(plK .start, V.bl true)])) qu (.lst [V.ref aS]) = H1 at s3 hmv hmt hqu ⊢
    clear s3' s2 s1 nqu nmt
    have R0 : Srch K w P1 S1 mv mt qu H [.start] 0 H1 := ⟨Bfs.start P1 S1 .start, rfl, ⟨[], [], hmv, .nil, .nil⟩, ⟨_, _, hmt, .cons (sq_same cn.st s3) .nil, rfl⟩, ⟨[aS], hqu, .cons (sq_same cn.st s3) .nil⟩, s3⟩
    clear hmv hmt hqu s3
    refine ⟨fun m σ H2 => ∃ (Q : List Pl) (n : Nat), m = 600 - n ∧ (∃ v5 v6 v7 v8 : Option V, σ = [some (.ref f1), some (.ref f2), some (.ref mv), some (.ref mt), some (.ref qu), v5, v6, v7, v8]) ∧ Srch K w P1 S1 mv mt qu H Q n H2, ⟨_, [.start], 0, rfl, ⟨_, _, _, _, rfl⟩, R0⟩, ?_⟩
    rintro m σ H2 ⟨Qs, n, rfl, ⟨v5, v6, v7, v8, rfl⟩, R⟩
    obtain ⟨bf, rq, ⟨vs, ks, hmv, kyv, pk⟩, ⟨ts, ms, hmt, kyt, km⟩, ⟨as, hqu, pa⟩, sm⟩ := id R
    have lk := prd_len pk
    rw [List.length_take, Nat.min_eq_left bf.le] at lk
    have la := prd_len pa
    have few := bf.few nP
    have sP := sum_ok okP
    have sS := sum_ok okS
    refine ⟨_, rfl, mv, vs, ks, rfl, hmv, kyv, _, rfl, qu, _, rfl, .inl (SqL.of hqu), _, _, rfl, rfl, _, rfl, ?_⟩
    rw [lk, List.length_map, la]
    by_cases hn : n < Qs.length
    · rw [decide_eq_true (show ((n : Nat) : Int) < ((Qs.length : Nat) : Int) by omega)]
      refine iteT ⟨fun σ' H' => ∃ m', m' < 600 - n ∧ ∃ (Q : List Pl) (n : Nat), m' = 600 - n ∧ (∃ v5 v6 v7 v8 : Option V, σ' = [some (.ref f1), some (.ref f2), some (.ref mv), some (.ref mt), some (.ref qu), v5, v6, v7, v8]) ∧ Srch K w P1 S1 mv mt qu H Q n H', fun _ _ z => z, ?_⟩
      obtain ⟨p, hp⟩ : ∃ p, Qs[n]? = some p := ⟨Qs[n], List.getElem?_eq_getElem hn⟩
      obtain ⟨b, hb, ebp⟩ : ∃ b, as[n]? = some b ∧ PlT K H2 b p := by
        have h1 : n < as.length := by omega
        obtain ⟨y, e1, e2⟩ := prd_at pa (List.getElem?_eq_getElem h1)
        rw [hp] at e1
        cases e1
        exact ⟨_, List.getElem?_eq_getElem h1, e2⟩
      have hpm : p ∈ Qs := List.mem_of_getElem? hp
      obtain ⟨w0, kw⟩ := bf.reach p hpm
      have po := reach_ok nP okP okS kw
      have hbx : (as.map V.ref)[n]? = some (.ref b) := by rw [List.getElem?_map, hb]; rfl
      refine ⟨_, rfl, _, rfl, mv, vs, ks, rfl, hmv, kyv, qu, _, _, _, rfl, rfl, SqL.of hqu, by rw [lk]; exact atI_nat (j := n) hbx, ?_⟩
      refine ⟨_, rfl, _, rfl, _, rfl, f1, f2, b, P1, S1, p, rfl, hP.same sm, hS.same sm, ebp, cn.same sm, po, okP, okS, fun v H3 s3 ml fr => ?_⟩
      have mvqu : mv ≠ qu := ne_of hmv hqu (fun z => nomatch z)
      have mtqu : mt ≠ qu := ne_of hmt hqu (fun z => nomatch z)
      obtain ⟨d0, xs, rfl, hxs, prx⟩ := ml
      have lxs := prd_len prx
      have ml30 : (moves P1 S1 p).length ≤ 30 := by
        cases p with
        | fin => exact Nat.zero_le _
        | start =>
          show (P1.map _).length ≤ 30
          rw [List.length_map]
          exact okP.1
        | rest a r =>
          refine Nat.le_trans (List.length_filterMap_le _ _) ?_
          cases a with
          | true => exact okS.1
          | false => exact okP.1
      have d0qu : d0 ≠ qu := by
        obtain ⟨d, e, n0⟩ := fr
        cases e
        exact fun z => by
          rw [z, hqu] at n0
          cases n0
      refine ⟨_, rfl, d0, rfl, ⟨_, SqL.of hxs⟩, for_it (walk_list (K := K) (a := d0) (xs := xs)) (fun i σ H4 => ∃ (as' ts' : List Addr) (ms' : List (List Key × V)), (∃ v7 v8 : Option V, σ = [some (.ref f1), some (.ref f2), some (.ref mv), some (.ref mt), some (.ref qu), some (.ref b), some (.ref d0), v7, v8]) ∧
        H4 mt = some (DX w mt ts' ms') ∧ KyA K H4 ts' ms' ∧ keysP ms' (addTo Qs ((moves P1 S1 p).take i)) ∧ H4 qu = some (.lst (as'.map V.ref)) ∧ Paired (PlT K H4) as' (addTo Qs ((moves P1 S1 p).take i)) ∧ But2 mt qu H3 H4) ?_ ?_ ?_ ?_⟩
      · exact ⟨as, ts, ms, ⟨_, _, rfl⟩, s3 _ _ hmt, ky_same kyt s3, km, s3 _ _ hqu, prd_imp pa fun _ _ z => sq_same z s3, fun _ _ e _ _ => e⟩
      · rintro i σ H4 hi ⟨as', ts', ms', _, _, _, _, _, _, u⟩
        exact SqL.of (u _ _ hxs (ne_of hxs (s3 _ _ hmt) (fun z => nomatch z)) d0qu)
      · rintro i y σ H40 H4 hi ⟨as', ts', ms', ⟨v7, v8, rfl⟩, hmt4, kyt4, km4, hqu4, pa4, u⟩ ⟨rfl, hy⟩
        obtain ⟨m, hm, mo⟩ := prd_at prx hy
        have mo4 := mo.but u (s3 _ _ hmt) (s3 _ _ hqu)
        obtain ⟨c, b4, rfl, hc4, hb4⟩ := mo4
        have lm := keysP_len km4
        have la4 := prd_len pa4
        have et : (moves P1 S1 p).take (i + 1) = (moves P1 S1 p).take i ++ [m] := by rw [List.take_add_one, hm]; rfl
        have bf1 := (bf.step hp).few nP
        have lq : (addTo Qs ((moves P1 S1 p).take i)).length ≤ 542 := by
          obtain ⟨R1, e1⟩ := addTo_pre ((moves P1 S1 p).drop i) (addTo Qs ((moves P1 S1 p).take i))
          have e2 : addTo Qs (moves P1 S1 p) = addTo (addTo Qs ((moves P1 S1 p).take i)) ((moves P1 S1 p).drop i) := by
            show List.foldl _ _ _ = List.foldl _ (List.foldl _ _ _) _
            rw [← List.foldl_append, List.take_append_drop]
          rw [e2, e1, List.length_append] at bf1
          omega
        refine ⟨c, _, rfl, .inl (.inl hc4), rfl, _, _, rfl, _, _, rfl, _, _, rfl, rfl, ?_⟩
        refine ⟨_, rfl, _, rfl, mt, _, rfl, DGetY.t (k := plK m.2.2) hmt4 kyt4 hb4, _, rfl, ?_⟩
        rw [keysP_is km4, et, addTo_snoc]
        by_cases hin : m.2.2 ∈ addTo Qs ((moves P1 S1 p).take i)
        · rw [decide_eq_true hin, if_pos hin]
          exact iteF ⟨as', ts', ms', ⟨_, _, rfl⟩, hmt4, kyt4, km4, hqu4, pa4, u⟩
        · rw [decide_eq_false hin, if_neg hin]
          refine iteT ⟨_, rfl, _, rfl, mt, _, rfl, DPutY.t (k := plK m.2.2) hmt4 kyt4 hb4 (keysP_none km4 hin) (by rw [lm, sizeLine_eq]; omega), ?_⟩
          have hqu5 : upd H4 mt (DX w mt (ts' ++ [b4]) (ms' ++ [(plK m.2.2, V.bl true)])) qu = some (.lst (as'.map V.ref)) := by rw [upd_ne (Ne.symm mtqu)]; exact hqu4
          refine ⟨_, rfl, .inl ⟨rfl, _, SqL.of hqu5⟩, _, rfl, qu, _, _, rfl, rfl, hqu5, by rw [List.length_map, sizeLine_eq]; omega, ?_⟩
          have up : ∀ {x : Addr} {xs : List V}, SqT K H4 x xs → SqT K (upd (upd H4 mt (DX w mt (ts' ++ [b4]) (ms' ++ [(plK m.2.2, V.bl true)]))) qu (.lst (as'.map V.ref ++ [.ref b4]))) x xs := fun {x xs} h => sq_lst (sq_dx h hmt4) hqu5
          refine ⟨as' ++ [b4], ts' ++ [b4], ms' ++ [(plK m.2.2, V.bl true)], ⟨_, _, rfl⟩, ?_, (prd_imp kyt4 fun _ _ z => up z).snoc (up hb4), keysP_snoc km4, ?_, ?_, ?_⟩
          · rw [upd_ne mtqu]
            exact upd_same
          · rw [upd_same, List.map_append]
            rfl
          · exact (prd_imp pa4 fun _ _ z => up z).snoc (up hb4)
          · intro x o e n1 n2
            rw [upd_ne n2, upd_ne n1]
            exact u _ _ e n1 n2
      rintro σ H4 ⟨as', ts', ms', ⟨v7, v8, rfl⟩, hmt4, kyt4, km4, hqu4, pa4, u⟩
      rw [List.take_of_length_le (by omega)] at km4 pa4
      have hmv4 := u _ _ (s3 _ _ hmv) mne mvqu
      have eb4 : PlT K H4 b p := u.sq (sq_same ebp s3) (s3 _ _ hmt) (s3 _ _ hqu)
      have kyv4 : KyA K H4 vs ks := prd_imp kyv fun _ _ z => u.sq (sq_same z s3) (s3 _ _ hmt) (s3 _ _ hqu)
      have kk : keysP ks (Qs.take n) := by
        unfold keysP
        have : ∀ {l : List (List Key × V)} {q : List Pl}, Paired (fun kv p => MvD K P1 S1 H2 kv p ∧ kv.2 ≠ .ref qu) l q → l.map (·.1) = q.map plK := by
          intro l q h
          induction h with
          | nil => rfl
          | cons r _ ih => rw [List.map_cons, List.map_cons, ih, r.1.1]
        exact this pk
      have np : p ∉ Qs.take n := by
        have nd := bf.nd
        have e : Qs.take (n + 1) = Qs.take n ++ [p] := by rw [List.take_add_one, hp]; rfl
        rw [← List.take_append_drop (n + 1) Qs, e] at nd
        exact fun z => (List.nodup_append.mp (List.nodup_append.mp nd).1).2.2 _ z p (by simp) rfl
      refine ⟨_, rfl, _, rfl, _, rfl, mv, _, rfl, DPutY.t (k := plK p) hmv4 kyv4 eb4 (keysP_none kk np) (by rw [lk, sizeLine_eq]; omega), ?_⟩
      have up : ∀ {x : Addr} {xs : List V}, H4 x = some (.tup xs) → upd H4 mv (DX w mv (vs ++ [b]) (ks ++ [(plK p, V.ref d0)])) x = some (.tup xs) := fun {x xs} h => by
        rw [upd_ne (ne_of h hmv4 (fun z => nomatch z))]
        exact h
      have upS : ∀ {x : Addr} {xs : List V}, SqT K H4 x xs → SqT K (upd H4 mv (DX w mv (vs ++ [b]) (ks ++ [(plK p, V.ref d0)]))) x xs := fun {x xs} h => sq_dx h hmv4
      have upl : ∀ {x : Addr} {xs : List V}, H4 x = some (.lst xs) → upd H4 mv (DX w mv (vs ++ [b]) (ks ++ [(plK p, V.ref d0)])) x = some (.lst xs) := fun {x xs} h => by
        rw [upd_ne (ne_of h hmv4 (fun z => nomatch z))]
        exact h
      have upM : ∀ {v : V} {l : List Mo}, MoL K H4 v l → MoL K (upd H4 mv (DX w mv (vs ++ [b]) (ks ++ [(plK p, V.ref d0)]))) v l := fun {v l} ⟨d, xs, e, h1, h2⟩ => ⟨d, xs, e, upl h1, prd_imp h2 fun _ _ ⟨c, b, e, h3, h4⟩ => ⟨c, b, e, up h3, upS h4⟩⟩
      have ml3 : MoL K H3 (.ref d0) (moves P1 S1 p) := ⟨d0, xs, rfl, hxs, prx⟩
      have nd0 : V.ref d0 ≠ .ref qu := fun z => d0qu (V.ref.inj z)
      have n6 : n < 542 := by omega
      refine ⟨600 - (n + 1), by omega, addTo Qs (moves P1 S1 p), n + 1, rfl, ⟨_, _, _, _, rfl⟩, bf.step hp, (by show stepQ P1 S1 (runQ P1 S1 n) n = _; rw [rq]; unfold stepQ; rw [hp]), ⟨_, _, upd_same, (prd_imp kyv4 fun _ _ z => upS z).snoc (upS eb4), ?_⟩, ⟨ts', ms', ?_, (prd_imp kyt4 fun _ _ z => upS z), km4⟩, ⟨as', upl hqu4, prd_imp pa4 fun _ _ z => upS z⟩, ?_⟩
      · obtain ⟨R1, e1⟩ := addTo_pre (moves P1 S1 p) Qs
        have e2 : (addTo Qs (moves P1 S1 p)).take (n + 1) = Qs.take n ++ [p] := by
          rw [e1, List.take_append_of_le_length (by omega), List.take_add_one, hp]
          rfl
        rw [e2]
        exact (prd_imp pk fun _ _ z => ⟨⟨z.1.1, upM ((z.1.2.same s3).but z.2 u (s3 _ _ hmt) (s3 _ _ hqu))⟩, z.2⟩).snoc ⟨⟨rfl, upM (ml3.but nd0 u (s3 _ _ hmt) (s3 _ _ hqu))⟩, nd0⟩
      · rw [upd_ne (Ne.symm mne)]
        exact hmt4
      · intro x o e
        have e2 := s3 _ _ (sm _ _ e)
        rw [upd_ne (ne_of_none e nmv)]
        exact u _ _ e2 (ne_of_none e nmtH) (ne_of_none e nquH)
    · rw [decide_eq_false (show ¬ ((n : Nat) : Int) < ((Qs.length : Nat) : Int) by omega)]
      have en : n = Qs.length := by
        have := bf.le
        omega
      subst en
      rw [List.take_of_length_le (Nat.le_refl _)] at pk
      refine iteF ⟨_, rfl, q mv Qs H2 sm nmv bf ?_ ⟨vs, ks, hmv, kyv, prd_imp pk fun _ _ z => z.1⟩⟩
      have e1 : Qs.length = (runQ P1 S1 Qs.length).length := by rw [rq]
      have e2 := runQ_stay e1 (600 - Qs.length)
      rw [show Qs.length + (600 - Qs.length) = 600 by omega, rq] at e2
      unfold placesQ
      rw [e2]
end
end V8
set_option Elab.async false
set_option linter.all false
set_option maxRecDepth 100000
set_option maxHeartbeats 8000000
set_option pp.maxSteps 900
/-! The places from which the end can be reached. -/
namespace V8
open PySem PySem.Spec PyProof.Rows L2 MZ
variable {K : PySem.W.Frag} {ω : World}
abbrev s_all_living : Stmt := topS 49
abbrev n_all_living : List Str := ["moves", "living", "again", "place", "taker", "label", "target"]
theorem sc_all_living : FnScope ["moves", "living", "again", "place", "taker", "label", "target"] ["moves"] (defScope s_all_living) := ⟨rfl, rfl, rfl, by decide +kernel, rfl, by decide +kernel, by decide +kernel⟩
/-- a dict with the places that live -/
structure LivD (K : PySem.W.Frag) (ω : World) (P S : List Pr) (Qs L : List Pl) (H : Hp) (d : Addr) : Prop where
  at_ : ∃ as ks, H d = some (DX ω d as ks) ∧ KyA K H as ks ∧ keysP ks L
  liv : Liv P S L
  all : ∀ p ∈ Qs, ∀ v, Way P S p .fin v → p ∈ L
def spLiving (K : PySem.W.Frag) (ω : World) (aS aE aV : Addr) : Sp := fun vs H Q _ => ∃ (d : Addr) (P S : List Pr) (Qs : List Pl), vs = [.ref d] ∧ AllM K ω P S Qs H d ∧ Bfs P S .start Qs Qs.length ∧ CnH K aS aE aV H ∧ Qs.length ≤ 542 ∧ PrOk P ∧ PrOk S ∧
  ∀ (ld : Addr) (L : List Pl) (H' : Hp), Same H H' → H ld = none → LivD K ω P S Qs L H' ld → Q (.ref ld) H'
theorem moves_len {P S : List Pr} (oP : PrOk P) (oS : PrOk S) (p : Pl) : (moves P S p).length ≤ 30 := by
  cases p with
  | fin => exact Nat.zero_le _
  | start =>
    show (P.map _).length ≤ 30
    rw [List.length_map]
    exact oP.1
  | rest a r =>
    refine Nat.le_trans (List.length_filterMap_le _ _) ?_
    cases a with
    | true => exact oS.1
    | false => exact oP.1
theorem val_at : ∀ {kvs : List (List Key × V)} {i : Nat} {k : List Key} {v : V}, (kvs.map (·.1)).Nodup → kvs[i]? = some (k, v) → valV kvs k = some v
  | [], i, k, v, _, e => by simp at e
  | p :: r, 0, k, v, _, e => by
    rw [List.getElem?_cons_zero] at e
    cases e
    exact valV_pos rfl
  | p :: r, i + 1, k, v, nd, e => by
    rw [List.getElem?_cons_succ] at e
    rw [List.map_cons, List.nodup_cons] at nd
    rw [valV_neg fun z => nd.1 (List.mem_map.mpr ⟨_, List.mem_of_getElem? e, z.symm⟩)]
    exact val_at nd.2 e
theorem map_nd : ∀ {Q : List Pl}, Q.Nodup → (Q.map plK).Nodup
  | [], _ => List.nodup_nil
  | p :: r, nd => by
    rw [List.nodup_cons] at nd
    rw [List.map_cons, List.nodup_cons]
    refine ⟨fun z => ?_, map_nd nd.2⟩
    obtain ⟨q, hq, e⟩ := List.mem_map.mp z
    exact nd.1 (plK_inj e ▸ hq)
theorem keysM {P S : List Pr} {H : Hp} {kvs : List (List Key × V)} {Q : List Pl} (h : Paired (MvD K P S H) kvs Q) : keysP kvs Q := by
  unfold keysP
  induction h with
  | nil => rfl
  | cons r _ ih => rw [List.map_cons, List.map_cons, ih, r.1]
/-- what the search for what lives keeps -/
structure LvS (K : PySem.W.Frag) (ω : World) (P S : List Pr) (Qs : List Pl) (ld : Addr) (H0 : Hp) (L : List Pl) (H : Hp) : Prop where
  at_ : ∃ as ks, H ld = some (DX ω ld as ks) ∧ KyA K H as ks ∧ keysP ks L
  liv : Liv P S L
  nd : L.Nodup
  sub : ∀ p ∈ L, p ∈ Pl.fin :: Qs
  sm : Same H0 H
theorem LvS.few {P S : List Pr} {Qs : List Pl} {ld : Addr} {H0 : Hp} {L : List Pl} {H : Hp} (h : LvS K ω P S Qs ld H0 L H) : L.length ≤ Qs.length + 1 := nd_le h.nd h.sub
section
variable {P : Program} {w : World} {K : PySem.W.Frag} {mg : Str → Option Value} {base : Heap} {aS aE aV : Addr}
theorem ok_all_living {f : Addr} {fd : FuncData} (F : Fun K "all_living" "all_living" s_all_living f fd) (T : Tm mg aS aE aV) : FnOk P w K mg base CX0 1 f fd ["moves"] (spLiving K w aS aE aV) := by
  refine F.ok sc_all_living (fun vs H Q E h => ?_) (fun cdv A outer s H vs Q E hr h => ?_)
  · obtain ⟨d, P, S, Qs, rfl, _⟩ := h
    rfl
  · obtain ⟨d, P1, S1, Qs, rfl, ⟨vs, kvs, hd, kyv, pk⟩, bf, cn, few, okP, okS, q⟩ := h
    refine ⟨_, (pss_cons (ps_set (i := 1) sc_all_living.nd rfl (.inr rfl) (pe_dispY (w := w) (K := K) rfl rfl (hu_of hr) (pps_cons (pe_gv T.gEND (by rfl)) pe_bl pps_nil)))
      (pss_cons (ps_set (i := 2) sc_all_living.nd rfl (.inl rfl) pe_bl)
      (pss_cons (ps_while PassesOwn.never (pt_truth (pv 2) (by intro _; rfl))
        (pss_cons (ps_set (i := 2) sc_all_living.nd rfl (.inl rfl) pe_bl)
        (pss_one (ps_lock (ps_for PassesOwn.never rfl (pi_keysXt (w := w) rfl (pv 0)) (pg_name (i := 3) sc_all_living.nd rfl (.inl rfl))
          (pss_one (ps_if (PW.pt (pw_and (pt_cmp (pc_dnotinY (w := w) (K := K) rfl rfl (hu_of hr) (pv 3) (pv 1))) (pw_and1 (pt_val (pe_callB (cr_any rfl) (by rfl) T.any (by decide +kernel) (pa_cons (pe_lc (own := [("taker", 4), ("label", 5), ("target", 6)]) (g := gTup K 3 (gCons (gName 4) (gCons (gName 5) (gCons (gName 6) gNil)))) (by rfl) sc_all_living.nd (pi_list (pe_dgetY (w := w) (K := K) rfl rfl (hu_of hr) (pv 0) (pv 3) (fun _ _ => rfl))) (blkOk_by (own := [("taker", 4), ("label", 5), ("target", 6)]) (N := n_all_living) (sc := defScope s_all_living) (by decide +kernel)) (fun _ _ _ _ _ => (pg_tup (by rfl) (pgs_cons (pg_name (i := 4) sc_all_living.nd rfl (.inl rfl)) (pgs_cons (pg_name (i := 5) sc_all_living.nd rfl (.inl rfl)) (pgs_cons (pg_name (i := 6) sc_all_living.nd rfl (.inl rfl)) pgs_nil))))) (fun _ _ _ _ _ => pts_nil) (fun _ _ _ _ _ => (pe_cmp (pc_dinY (w := w) (K := K) rfl rfl (hu_of hr) (pv 6) (pv 1)) rfl))) pa_nil))))))
            (pss_cons (ps_dputY (w := w) (K := K) rfl rfl (hu_of hr) (pv 1) (pv 3) pe_bl rfl)
            (pss_one (ps_set (i := 2) sc_all_living.nd rfl (.inl rfl) pe_bl)))
            pss_nil)))))))
      (pss_one (ps_ret (pv 1)))))), ?_⟩
    have lkv := prd_len pk
    refine fun ld nld => ⟨?_, plK .fin, aE, .bl true, rfl, ?_, ?_⟩
    · exact upd_same
    · exact sq_same cn.en (same_put (s := Same.refl H) nld)
    rw [upd_upd]
    have s1 := same_put (s := Same.refl H) (o := DX w ld [aE] [(plK .fin, V.bl true)]) nld
    have hld : upd H ld (DX w ld [aE] [(plK .fin, V.bl true)]) ld = some (DX w ld [aE] [(plK .fin, V.bl true)]) := upd_same
    show Ends.nx _ _ (upd H ld (DX w ld [aE] [(plK .fin, V.bl true)]))
    generalize upd H ld (DX w ld [aE] [(plK .fin, V.bl true)]) = H1 at s1 hld ⊢
    have dld : d ≠ ld := ne_of_none hd nld
    have R0 : LvS K w P1 S1 Qs ld H [.fin] H1 := ⟨⟨_, _, hld, .cons (sq_same cn.en s1) .nil, rfl⟩, Liv.start P1 S1, by simp, fun p h => by rw [List.mem_singleton.mp h]; exact List.mem_cons_self, s1⟩
    refine ⟨fun m σ H2 => ∃ (L : List Pl) (g : Bool), m = 2 * (600 - L.length) + (if g = true then 1 else 0) ∧ (∃ v3 v4 v5 v6 : Option V, σ = [some (.ref d), some (.ref ld), some (.bl g), v3, v4, v5, v6]) ∧ LvS K w P1 S1 Qs ld H L H2 ∧
      (g = false → ∀ p ∈ Qs, p ∉ L → ∀ m ∈ moves P1 S1 p, m.2.2 ∉ L), ⟨_, [.fin], true, rfl, ⟨_, _, _, _, rfl⟩, R0, fun z => nomatch z⟩, ?_⟩
    rintro m σ H2 ⟨L, g, rfl, ⟨v3, v4, v5, v6, rfl⟩, R, cl⟩
    have Rf := R.few
    cases g with
    | false =>
      refine ⟨_, rfl, false, rfl, iteF ⟨_, rfl, q ld L H2 R.sm nld ⟨R.at_, R.liv, fun p hp v k => R.liv.all bf (cl rfl) hp k⟩⟩⟩
    | true =>
      refine ⟨_, rfl, true, rfl, iteT ⟨fun σ' H' => ∃ m', m' < 2 * (600 - L.length) + 1 ∧ ∃ (L : List Pl) (g : Bool), m' = 2 * (600 - L.length) + (if g = true then 1 else 0) ∧ (∃ v3 v4 v5 v6 : Option V, σ' = [some (.ref d), some (.ref ld), some (.bl g), v3, v4, v5, v6]) ∧ LvS K w P1 S1 Qs ld H L H' ∧
        (g = false → ∀ p ∈ Qs, p ∉ L → ∀ m ∈ moves P1 S1 p, m.2.2 ∉ L), fun _ _ z => z, ?_⟩⟩
      have hd2 := R.sm _ _ hd
      refine ⟨d, _, hd2, True.intro, fun od => ⟨_, rfl, d, od, vs, kvs, rfl, upd_same, ?_⟩⟩
      have kK := keysM pk
      have ndK : (kvs.map (·.1)).Nodup := by
        rw [kK]
        exact map_nd bf.nd
      obtain ⟨ts, ks, hld2, kyl, kL⟩ := R.at_
      have lvs := prd_len kyv
      have sf : ∀ c u, H2 c = some u → c ≠ d → upd H2 d (.frz od (DX w d vs kvs)) c = some u := fun c u e n => by
        rw [upd_ne n]
        exact e
      refine for_it (walk_keysX (w := w) (d := d) (o := od) (as := vs) (kvs := kvs)) (fun i σ H4 => ∃ (L' : List Pl) (g : Bool) (ts' : List Addr) (ks' : List (List Key × V)), (∃ v3 v4 v5 v6 : Option V, σ = [some (.ref d), some (.ref ld), some (.bl g), v3, v4, v5, v6]) ∧ H4 ld = some (DX w ld ts' ks') ∧ KyA K H4 ts' ks' ∧ keysP ks' L' ∧ Liv P1 S1 L' ∧ L'.Nodup ∧ (∀ p ∈ L', p ∈ Pl.fin :: Qs) ∧
        L.length ≤ L'.length ∧ (g = true → L.length < L'.length) ∧ (g = false → L' = L ∧ ∀ j p, j < i → Qs[j]? = some p → p ∉ L → ∀ m ∈ moves P1 S1 p, m.2.2 ∉ L) ∧ (∀ c u, upd H2 d (.frz od (DX w d vs kvs)) c = some u → c ≠ ld → H4 c = some u)) ?_ ?_ ?_ ?_
      · exact ⟨L, false, ts, ks, ⟨_, _, _, _, rfl⟩, sf _ _ hld2 (Ne.symm dld), prd_imp kyl fun _ _ z => sq_dx z hd2, kL, R.liv, R.nd, R.sub, Nat.le_refl _, (fun z => nomatch z), (fun _ => ⟨rfl, fun j p hj => absurd hj (Nat.not_lt_zero _)⟩), fun _ _ e _ => e⟩
      · rintro i σ H4 hi ⟨L', g, ts', ks', _, _, _, _, _, _, _, _, _, _, u⟩
        exact u _ _ upd_same dld
      · rintro i y σ H40 H4 hi ⟨L', g, ts', ks', ⟨w3, w4, w5, w6, rfl⟩, hld4, kyl4, kL4, lv, nd, sub, le, lt, cl4, u⟩ ⟨rfl, qk, hbk, rfl⟩
        obtain ⟨⟨k, v⟩, hkv, hqk0⟩ := prd_at kyv hbk
        obtain ⟨p, hp, ek, ml⟩ := prd_at pk hkv
        have ek : k = plK p := ek
        subst ek
        have upS : ∀ {x : Addr} {xs : List V}, SqT K H x xs → SqT K H4 x xs := fun {x xs} e => sq_mono (sq_dx (sq_same e R.sm) hd2) fun o eo z => u _ _ eo fun q => by
          rw [q, upd_ne (Ne.symm dld), hld2] at eo
          cases eo
          rcases z with z | ⟨_, z⟩ <;> cases z
        have hqk : SqT K H4 qk (plV p) := upS hqk0
        have kyv4 : KyA K H4 vs kvs := prd_imp kyv fun _ _ z => upS z
        have l4 := nd_le nd sub
        rw [List.length_cons] at l4
        have hd4 := u _ _ upd_same dld
        refine ⟨_, rfl, _, rfl, ld, _, rfl, DGetY.t (k := plK p) hld4 kyl4 hqk, _, rfl, ?_⟩
        rw [keysP_is kL4]
        by_cases hin : p ∈ L'
        · rw [decide_eq_true hin]
          refine iteF ⟨L', g, ts', ks', ⟨_, _, _, _, rfl⟩, hld4, kyl4, kL4, lv, nd, sub, le, lt, fun z => ⟨(cl4 z).1, fun j p' hj e n => ?_⟩, u⟩
          by_cases hj2 : j < i
          · exact (cl4 z).2 j p' hj2 e n
          · have : j = i := by omega
            subst this
            rw [hp] at e
            cases e
            rw [(cl4 z).1] at hin
            exact absurd hin n
        rw [decide_eq_false hin]
        refine iteT ?_
        -- its steps
        have upT : ∀ {x : Addr} {xs : List V}, H x = some (.tup xs) → H4 x = some (.tup xs) := fun {x xs} e => u _ _ (sf _ _ (R.sm _ _ e) (ne_of e hd (fun z => nomatch z))) (ne_of_none e nld)
        obtain ⟨d0, xs, ev, hxs, prx⟩ := ml
        have ev : v = .ref d0 := ev
        subst ev
        have hxs4 : H4 d0 = some (.lst xs) := u _ _ (sf _ _ (R.sm _ _ hxs) (ne_of hxs hd (fun z => nomatch z))) (ne_of_none hxs nld)
        have prx4 : Paired (MoT K H4) xs (moves P1 S1 p) := prd_imp prx fun _ _ ⟨c, b, e, h1, h2⟩ => ⟨c, b, e, upT h1, upS h2⟩
        have lx := prd_len prx4
        have l30 := moves_len okP okS p
        refine ⟨_, rfl, _, rfl, d, _, rfl, ⟨vs, kvs, plK p, qk, .inr ⟨od, hd4⟩, kyv4, rfl, hqk, (val_at ndK hkv).symm⟩, d0, rfl, ⟨_, SqL.of hxs4⟩, fun D nD => lc_it (walk_list (K := K) (a := d0) (xs := xs)) (fun j H5 => H5 = upd H4 D (.lst (((moves P1 S1 p).take j).map fun m => V.bl (decide (m.2.2 ∈ L'))))) rfl ?_ ?_ ?_⟩
        · rintro j H5 hj rfl
          exact SqL.of (by rw [upd_ne (ne_of_none hxs4 nD)]; exact hxs4)
        · rintro j y H5 H6 hj rfl ⟨eH, hy⟩
          rw [eH]
          obtain ⟨m, hm, c, b, rfl, hc, hb⟩ := prd_at prx4 hy
          have s5 := same_put (s := Same.refl H4) (o := .lst (((moves P1 S1 p).take j).map fun m => V.bl (decide (m.2.2 ∈ L')))) nD
          refine ⟨c, _, rfl, .inl (.inl (s5 _ _ hc)), rfl, _, _, rfl, _, _, rfl, _, _, rfl, rfl, ?_⟩
          refine ⟨rfl, _, rfl, _, rfl, ld, _, rfl, DGetY.t (k := plK m.2.2) (s5 _ _ hld4) (ky_same kyl4 s5) (sq_same hb s5), _, upd_same, ?_, ?_⟩
          · rw [List.length_map, List.length_take, sizeLine_eq]
            omega
          · rw [upd_upd, List.take_add_one, hm, keysP_is kL4, List.map_append]
            rfl
        rintro H5 rfl
        rw [List.take_of_length_le (by omega)]
        have s5 := same_put (s := Same.refl H4) (o := .lst ((moves P1 S1 p).map fun m => V.bl (decide (m.2.2 ∈ L')))) nD
        have hD5 : upd H4 D (.lst ((moves P1 S1 p).map fun m => V.bl (decide (m.2.2 ∈ L')))) D = some (.lst ((moves P1 S1 p).map fun m => V.bl (decide (m.2.2 ∈ L')))) := upd_same
        generalize upd H4 D (.lst ((moves P1 S1 p).map fun m => V.bl (decide (m.2.2 ∈ L')))) = H5 at s5 hD5 ⊢
        refine ⟨D, (moves P1 S1 p).map fun m => decide (m.2.2 ∈ L'), rfl, SqL.of (by rw [hD5, List.map_map]; rfl), _, rfl, ?_⟩
        have u5 : ∀ c u', upd H2 d (.frz od (DX w d vs kvs)) c = some u' → c ≠ ld → H5 c = some u' := fun c u' e n => s5 _ _ (u c u' e n)
        cases ea : ((moves P1 S1 p).map fun m => decide (m.2.2 ∈ L')).any id with
        | false =>
          refine iteF ⟨L', g, ts', ks', ⟨_, _, _, _, rfl⟩, s5 _ _ hld4, ky_same kyl4 s5, kL4, lv, nd, sub, le, lt, fun z => ⟨(cl4 z).1, fun j p' hj e n => ?_⟩, u5⟩
          by_cases hj2 : j < i
          · exact (cl4 z).2 j p' hj2 e n
          · have : j = i := by omega
            subst this
            rw [hp] at e
            cases e
            intro m hm hl
            have : ((moves P1 S1 p).map fun m => decide (m.2.2 ∈ L')).any id = true := List.any_eq_true.mpr ⟨decide (m.2.2 ∈ L'), List.mem_map_of_mem hm, by rw [(cl4 z).1]; exact decide_eq_true hl⟩
            rw [ea] at this
            cases this
        | true =>
          obtain ⟨x, hx, ex⟩ := List.any_eq_true.mp ea
          obtain ⟨m, hm, rfl⟩ := List.mem_map.mp hx
          have hml : m.2.2 ∈ L' := of_decide_eq_true ex
          have lks := keysP_len kL4
          refine iteT ⟨_, rfl, _, rfl, ld, _, rfl, DPutY.t (k := plK p) (s5 _ _ hld4) (ky_same kyl4 s5) (sq_same hqk s5) (keysP_none kL4 hin) (by rw [lks, sizeLine_eq]; omega), ?_⟩
          have hpQ : p ∈ Qs := List.mem_of_getElem? hp
          refine ⟨L' ++ [p], true, ts' ++ [qk], ks' ++ [(plK p, V.bl true)], ⟨_, _, _, _, rfl⟩, upd_same, (prd_imp kyl4 fun _ _ z => sq_dx (sq_same z s5) (s5 _ _ hld4)).snoc (sq_dx (sq_same hqk s5) (s5 _ _ hld4)), keysP_snoc kL4, lv.add hm hml, ?_, ?_, ?_, fun _ => ?_, fun z => (nomatch z), ?_⟩
          · exact List.nodup_append.mpr ⟨nd, by simp, fun a ha b hb e => by
              rw [List.mem_singleton.mp hb] at e
              exact hin (e ▸ ha)⟩
          · intro a ha
            rcases List.mem_append.mp ha with h | h
            · exact sub a h
            · rw [List.mem_singleton.mp h]
              exact List.mem_cons_of_mem _ hpQ
          · rw [List.length_append]
            omega
          · rw [List.length_append]
            show L.length < L'.length + 1
            omega
          · intro c u' e n
            rw [upd_ne n]
            exact u5 c u' e n
      rintro σ H4 ⟨L', g, ts', ks', ⟨w3, w4, w5, w6, rfl⟩, hld4, kyl4, kL4, lv, nd, sub, le, lt, cl4, u⟩
      have l4 := nd_le nd sub
      rw [List.length_cons] at l4
      refine ⟨u _ _ upd_same dld, 2 * (600 - L'.length) + (if g = true then 1 else 0), ?_, L', g, rfl, ⟨_, _, _, _, rfl⟩, ⟨⟨ts', ks', by rw [upd_ne (Ne.symm dld)]; exact hld4, prd_imp kyl4 fun _ _ z => sq_ne z (u _ _ upd_same dld) (fun z => nomatch z) (fun _ z => nomatch z), kL4⟩, lv, nd, sub, fun c o e => ?_⟩, fun z p hp n => ?_⟩
      · cases g with
        | true =>
          have := lt rfl
          show _ + 1 < _
          omega
        | false =>
          rw [(cl4 rfl).1]
          show _ + 0 < _
          omega
      · by_cases hc : c = d
        · rw [hc, upd_same]
          rw [hc, hd] at e
          exact e
        · rw [upd_ne hc]
          exact u _ _ (sf _ _ (R.sm _ _ e) hc) (ne_of_none e nld)
      · obtain ⟨e1, c2⟩ := cl4 z
        rw [e1] at n ⊢
        obtain ⟨j, hj, ej⟩ := List.getElem_of_mem hp
        exact c2 j p (by rw [lvs, lkv]; exact hj) (by rw [List.getElem?_eq_getElem hj, ej]) n
end
end V8
set_option Elab.async false
set_option linter.all false
set_option maxRecDepth 100000
set_option maxHeartbeats 8000000
set_option pp.maxSteps 900
/-! A way to each place that can be reached from one. -/
namespace V8
open PySem PySem.Spec PyProof.Rows L2 MZ
variable {K : PySem.W.Frag} {ω : World}
abbrev s_ways_from : Stmt := topS 50
theorem sc_ways_from : FnScope ["moves", "place", "ways", "queue", "done", "reached", "taker", "label", "target"] ["moves", "place"] (defScope s_ways_from) := ⟨rfl, rfl, rfl, by decide +kernel, rfl, by decide +kernel, by decide +kernel⟩
abbrev WyL := List (Pl × (List Nat × List Nat))
def KW (H : Hp) (kv : List Key × V) (q : Pl × (List Nat × List Nat)) : Prop := kv.1 = plK q.1 ∧ ∃ c, kv.2 = .ref c ∧ WyT H c q.2
theorem keysW {H : Hp} {ks : List (List Key × V)} {W : WyL} (h : Paired (KW H) ks W) : keysP ks (W.map (·.1)) := by
  unfold keysP
  induction h with
  | nil => rfl
  | cons r _ ih => rw [List.map_cons, List.map_cons, List.map_cons, ih, r.1]
theorem addW_pre (w : List Nat × List Nat) : ∀ (f : List Mo) (W : WyL), ∃ R, addW w W f = W ++ R
  | [], W => ⟨[], (List.append_nil W).symm⟩
  | m :: f, W => by
    rw [addW_cons]
    by_cases z : m.2.2 ∈ W.map (·.1)
    · rw [if_pos z]
      exact addW_pre w f W
    · rw [if_neg z]
      obtain ⟨R, e⟩ := addW_pre w f (W ++ [(m.2.2, put m.1 m.2.1 w)])
      exact ⟨(m.2.2, put m.1 m.2.1 w) :: R, by rw [e, List.append_assoc]; rfl⟩
theorem addW_snoc (w : List Nat × List Nat) (W : WyL) (f : List Mo) (m : Mo) : addW w W (f ++ [m]) = if m.2.2 ∈ (addW w W f).map (·.1) then addW w W f else addW w W f ++ [(m.2.2, put m.1 m.2.1 w)] := by
  unfold addW
  rw [List.foldl_append]
  rfl
def wlen (w : List Nat × List Nat) : Nat := w.1.length + w.2.length
theorem wput_len (t : Bool) (l : Nat) (w : List Nat × List Nat) : wlen (put t l w) = wlen w + 1 := by
  cases t <;> simp [wlen, put] <;> omega
theorem addW_short {w : List Nat × List Nat} {n : Nat} (hw : wlen w ≤ n) : ∀ (f : List Mo) (W : WyL), (∀ q ∈ W, wlen q.2 ≤ n + 1) → ∀ q ∈ addW w W f, wlen q.2 ≤ n + 1
  | [], W, h => h
  | m :: f, W, h => by
    rw [addW_cons]
    refine addW_short hw f _ fun q hq => ?_
    by_cases z : m.2.2 ∈ W.map (·.1)
    · rw [if_pos z] at hq
      exact h q hq
    · rw [if_neg z] at hq
      rcases List.mem_append.mp hq with a | a
      · exact h q a
      · rw [List.mem_singleton.mp a]
        show wlen (put _ _ _) ≤ _
        rw [wput_len]
        omega
theorem way_one {W : WyL} (nd : (W.map (·.1)).Nodup) {p : Pl} {w v : List Nat × List Nat} (h1 : (p, w) ∈ W) (h2 : (p, v) ∈ W) : w = v := by
  induction W with
  | nil => exact absurd h1 List.not_mem_nil
  | cons q r ih =>
    rw [List.map_cons, List.nodup_cons] at nd
    rcases List.mem_cons.mp h1 with e1 | h1
    · rcases List.mem_cons.mp h2 with e2 | h2
      · rw [← e1] at e2
        exact (congrArg Prod.snd e2).symm
      · exact absurd (List.mem_map.mpr ⟨_, h2, by rw [← e1]⟩) nd.1
    · rcases List.mem_cons.mp h2 with e2 | h2
      · exact absurd (List.mem_map.mpr ⟨_, h1, by rw [← e2]⟩) nd.1
      · exact ih nd.2 h1 h2
/-- the search for ways, step by step -/
def stepW (P S : List Pr) (s : List Pl × WyL) (n : Nat) : List Pl × WyL := match s.1[n]? with
  | none => s
  | some p => (addTo s.1 (moves P S p), addW (wayTo s.2 p) s.2 (moves P S p))
def runW (P S : List Pr) (o : Pl) : Nat → List Pl × WyL
  | 0 => ([o], [(o, ([], []))])
  | n + 1 => stepW P S (runW P S o n) n
theorem run_stay {P S : List Pr} {o : Pl} {n : Nat} (h : n = (runW P S o n).1.length) : ∀ k, runW P S o (n + k) = runW P S o n
  | 0 => rfl
  | k + 1 => by
    show stepW P S (runW P S o (n + k)) (n + k) = _
    rw [run_stay h k]
    unfold stepW
    rw [List.getElem?_eq_none (by omega)]
/-- the ways that the search keeps at last -/
def waysW (P S : List Pr) (o : Pl) : WyL := (runW P S o 600).2
/-- a dict with a way to each place -/
def WysD (K : PySem.W.Frag) (ω : World) (P S : List Pr) (o : Pl) (R : List Pl) (W : WyL) (H : Hp) (d : Addr) : Prop := (∃ as ks, H d = some (DX ω d as ks) ∧ KyA K H as ks ∧ Paired (KW H) ks W) ∧ Wys P S o R W ∧ (∀ q ∈ W, wlen q.2 ≤ 600) ∧ W = waysW P S o
/-- .. read, locked or not -/
def AllR (K : PySem.W.Frag) (ω : World) (P S : List Pr) (Q : List Pl) (H : Hp) (d : Addr) : Prop := ∃ as kvs, Rd H d (DX ω d as kvs) ∧ KyA K H as kvs ∧ Paired (MvD K P S H) kvs Q
theorem AllM.rd {P S : List Pr} {Q : List Pl} {H : Hp} {d : Addr} (h : AllM K ω P S Q H d) : AllR K ω P S Q H d := by
  obtain ⟨as, ks, h1, h2⟩ := h
  exact ⟨as, ks, .inl h1, h2⟩
theorem rd_same {H H' : Hp} {d : Addr} {o : HO} (h : Rd H d o) (s : Same H H') : Rd H' d o := by
  rcases h with h | ⟨od, h⟩
  · exact .inl (s _ _ h)
  · exact .inr ⟨od, s _ _ h⟩
def spWays (K : PySem.W.Frag) (ω : World) : Sp := fun vs H Q _ => ∃ (d b : Addr) (P S : List Pr) (Qs : List Pl) (o : Pl), vs = [.ref d, .ref b] ∧ AllR K ω P S Qs H d ∧ Bfs P S .start Qs Qs.length ∧ PlT K H b o ∧ o ∈ Qs ∧ Qs.length ≤ 542 ∧ PrOk P ∧ PrOk S ∧
  ∀ (wd : Addr) (R : List Pl) (W : WyL) (H' : Hp), Same H H' → H wd = none → Bfs P S o R R.length → WysD K ω P S o R W H' wd → Q (.ref wd) H'
/-- what the search for ways keeps -/
structure WyS (K : PySem.W.Frag) (ω : World) (P S : List Pr) (o : Pl) (wd qu : Addr) (H0 : Hp) (R : List Pl) (W : WyL) (n : Nat) (H : Hp) : Prop where
  b : Bfs P S o R n
  wy : Wys P S o R W
  wd_ : ∃ ts ks, H wd = some (DX ω wd ts ks) ∧ KyA K H ts ks ∧ Paired (KW H) ks W
  qu_ : ∃ as, H qu = some (.lst (as.map V.ref)) ∧ Paired (PlT K H) as R
  sh : ∀ q ∈ W, wlen q.2 ≤ n
  run : runW P S o n = (R, W)
  sm : Same H0 H
section
variable {P : Program} {w : World} {K : PySem.W.Frag} {mg : Str → Option Value} {base : Heap} {aS aE aV : Addr}
theorem ok_ways_from {f : Addr} {fd : FuncData} (F : Fun K "ways_from" "ways_from" s_ways_from f fd) (T : Tm mg aS aE aV) (D_with_label : Df P w K mg base 1 "with_label" spLabel) : FnOk P w K mg base CX0 2 f fd ["moves", "place"] (spWays K w) := by
  refine F.ok sc_ways_from (fun vs H Q E h => ?_) (fun cdv A outer s H vs Q E hr h => ?_)
  · obtain ⟨d, b, P, S, Qs, o, rfl, _⟩ := h
    rfl
  · obtain ⟨d, b0, P1, S1, Qs, o, rfl, ⟨vs, kvs, hd, kyv, pk⟩, bf0, hb0, ho, few, okP, okS, q⟩ := h
    refine ⟨_, (pss_cons (ps_set (i := 2) sc_ways_from.nd rfl (.inl rfl) (pe_dispY (w := w) (K := K) rfl rfl (hu_of hr) (pps_cons (pv 1) (pe_tup (pa_cons pe_str (pa_cons pe_str pa_nil))) pps_nil)))
      (pss_cons (ps_set (i := 3) sc_ways_from.nd rfl (.inl rfl) (pe_lst (pa_cons (pv 1) pa_nil)))
      (pss_cons (ps_set (i := 4) sc_ways_from.nd rfl (.inl rfl) pe_int)
      (pss_cons (ps_while PassesOwn.never (pt_cmpR op_lt (pv 4) (pe_callB (call_len_seqK (K := K) rfl) (by rfl) T.len (by decide +kernel) (pa_cons (pv 3) pa_nil)) (nomark _))
        (pss_cons (ps_set (i := 5) sc_ways_from.nd rfl (.inl rfl) (pe_ix (ix_listK (K := K) rfl) (pv 3) (pv 4) (fun _ _ => rfl)))
        (pss_cons (ps_for PassesOwn.never rfl (pi_list (pe_dgetY (w := w) (K := K) rfl rfl (hu_of hr) (pv 0) (pv 5) (fun _ _ => rfl))) (pg_tup (by rfl) (pgs_cons (pg_name (i := 6) sc_ways_from.nd rfl (.inl rfl)) (pgs_cons (pg_name (i := 7) sc_ways_from.nd rfl (.inl rfl)) (pgs_cons (pg_name (i := 8) sc_ways_from.nd rfl (.inl rfl)) pgs_nil))))
          (pss_one (ps_if (pt_cmp (pc_dnotinY (w := w) (K := K) rfl rfl (hu_of hr) (pv 8) (pv 2)))
            (pss_cons (ps_dputY (w := w) (K := K) rfl rfl (hu_of hr) (pv 2) (pv 8) (pe_c D_with_label hr (by decide) (by rfl) (pa_cons (pe_dgetY (w := w) (K := K) rfl rfl (hu_of hr) (pv 2) (pv 5) (fun _ _ => rfl)) (pa_cons (pv 6) (pa_cons (pv 7) pa_nil)))) rfl)
            (pss_one (ps_expr (pe_bmK (K := K) rfl PySem.F.plainAttrs_list PySem.F.slot_list_append PySem.F.type_list_append mt_append (pv 3) (pa_cons (pv 8) pa_nil)))))
            pss_nil)))
        (pss_one (ps_aug (i := 4) sc_ways_from.nd rfl (.inl rfl) pe_int ip_add)))))
      (pss_one (ps_ret (pv 2))))))), ?_⟩
    have kK := keysM pk
    have ndK : (kvs.map (·.1)).Nodup := by
      rw [kK]
      exact map_nd bf0.nd
    refine fun wd nwd => ⟨_, rfl, by show 2 ≤ sizeLine; decide, fun c nc => ⟨?_, plK o, b0, .ref c, rfl, ?_, ?_⟩⟩
    · rw [upd_ne (ne_of_none (show upd H wd (DX w wd [] []) wd = _ from upd_same) nc)]
      exact upd_same
    · exact sq_same hb0 (same_put (s := same_put (s := Same.refl H) nwd) nc)
    have wdc : wd ≠ c := ne_of_none (show upd H wd (DX w wd [] []) wd = some (DX w wd [] []) from upd_same) nc
    have ncH : H c = none := same_none (same_put (s := Same.refl H) (o := DX w wd [] []) nwd) nc
    have sA : Same H (upd (upd (upd H wd (DX w wd [] [])) c (.tup [.str "", .str ""])) wd (DX w wd [b0] [(plK o, V.ref c)])) := fun x u e => by
      rw [upd_ne (ne_of_none e nwd), upd_ne (ne_of_none e ncH), upd_ne (ne_of_none e nwd)]
      exact e
    have hwd : upd (upd (upd H wd (DX w wd [] [])) c (.tup [.str "", .str ""])) wd (DX w wd [b0] [(plK o, V.ref c)]) wd = some (DX w wd [b0] [(plK o, V.ref c)]) := upd_same
    have hc : WyT (upd (upd (upd H wd (DX w wd [] [])) c (.tup [.str "", .str ""])) wd (DX w wd [b0] [(plK o, V.ref c)])) c ([], []) := by
      show upd _ _ _ c = _
      rw [upd_ne (Ne.symm wdc)]
      exact upd_same
    show Ends.nx _ _ (upd (upd (upd H wd (DX w wd [] [])) c (.tup [.str "", .str ""])) wd (DX w wd [b0] [(plK o, V.ref c)]))
    generalize upd (upd (upd H wd (DX w wd [] [])) c (.tup [.str "", .str ""])) wd (DX w wd [b0] [(plK o, V.ref c)]) = H1 at sA hwd hc ⊢
    refine ⟨_, rfl, by show 1 ≤ sizeLine; decide, fun qu nqu => ?_⟩
    have sq := same_put (s := sA) (o := .lst [V.ref b0]) nqu
    have sq1 := same_put (s := Same.refl H1) (o := .lst [V.ref b0]) nqu
    have nquH : H qu = none := same_none sA nqu
    have wdqu : wd ≠ qu := ne_of_none hwd nqu
    have R0 : WyS K w P1 S1 o wd qu H [o] [(o, ([], []))] 0 (upd H1 qu (.lst [V.ref b0])) := ⟨Bfs.start P1 S1 o, Wys.start P1 S1 o, ⟨_, _, sq1 _ _ hwd, .cons (sq_same hb0 sq) .nil, .cons ⟨rfl, c, rfl, sq1 _ _ hc⟩ .nil⟩, ⟨[b0], upd_same, .cons (sq_same hb0 sq) .nil⟩, fun q h => by rw [List.mem_singleton.mp h]; exact Nat.le_refl _, rfl, sq⟩
    show Ends.nx _ _ (upd H1 qu (.lst [V.ref b0]))
    generalize upd H1 qu (.lst [V.ref b0]) = H2 at R0 ⊢
    clear sq sq1 nqu hc hwd sA ncH wdc nc
    have kept : ∀ {H' : Hp}, Same H H' → Rd H' d (DX w d vs kvs) := fun s => rd_same hd s
    refine ⟨fun m σ H3 => ∃ (R : List Pl) (W : WyL) (n : Nat), m = 600 - n ∧ (∃ v5 v6 v7 v8 : Option V, σ = [some (.ref d), some (.ref b0), some (.ref wd), some (.ref qu), some (.int ((n : Nat) : Int)), v5, v6, v7, v8]) ∧ WyS K w P1 S1 o wd qu H R W n H3, ⟨_, [o], _, 0, rfl, ⟨_, _, _, _, rfl⟩, R0⟩, ?_⟩
    rintro m σ H3 ⟨R, W, n, rfl, ⟨v5, v6, v7, v8, rfl⟩, S⟩
    obtain ⟨bf, wy, ⟨ts, ks, hwd, kyw, pw⟩, ⟨as, hqu, pa⟩, sh, run, sm⟩ := id S
    have la := prd_len pa
    have RQ : ∀ p ∈ R, p ∈ Qs := fun p hp => by
      obtain ⟨v, k⟩ := bf.reach p hp
      obtain ⟨v0, k0⟩ := bf0.reach o ho
      exact (bf0.all p).mpr ⟨_, k0.trans k⟩
    have lR : R.length ≤ 542 := Nat.le_trans (nd_le bf.nd RQ) few
    refine ⟨_, rfl, _, rfl, qu, _, rfl, .inl (SqL.of hqu), _, _, rfl, rfl, _, rfl, ?_⟩
    rw [List.length_map, la]
    by_cases hn : n < R.length
    · rw [decide_eq_true (show ((n : Nat) : Int) < ((R.length : Nat) : Int) by omega)]
      refine iteT ⟨fun σ' H' => ∃ m', m' < 600 - n ∧ ∃ (R : List Pl) (W : WyL) (n : Nat), m' = 600 - n ∧ (∃ v5 v6 v7 v8 : Option V, σ' = [some (.ref d), some (.ref b0), some (.ref wd), some (.ref qu), some (.int ((n : Nat) : Int)), v5, v6, v7, v8]) ∧ WyS K w P1 S1 o wd qu H R W n H', fun _ _ z => z, ?_⟩
      obtain ⟨p, hp⟩ : ∃ p, R[n]? = some p := ⟨R[n], List.getElem?_eq_getElem hn⟩
      obtain ⟨b, hb, ebp⟩ : ∃ b, as[n]? = some b ∧ PlT K H3 b p := by
        have h1 : n < as.length := by omega
        obtain ⟨y, e1, e2⟩ := prd_at pa (List.getElem?_eq_getElem h1)
        rw [hp] at e1
        cases e1
        exact ⟨_, List.getElem?_eq_getElem h1, e2⟩
      have hpm : p ∈ R := List.mem_of_getElem? hp
      obtain ⟨j, hj, ej⟩ := List.getElem_of_mem (RQ p hpm)
      have hjk : j < kvs.length := by rw [prd_len pk]; exact hj
      obtain ⟨p2, e2, ek, ml⟩ := prd_at pk (List.getElem?_eq_getElem hjk)
      rw [List.getElem?_eq_getElem hj, ej] at e2
      cases e2
      have hval : valV kvs (plK p) = some kvs[j].2 := by
        rw [← ek]
        exact val_at ndK (List.getElem?_eq_getElem hjk)
      have hbx : (as.map V.ref)[n]? = some (.ref b) := by rw [List.getElem?_map, hb]; rfl
      -- its way
      obtain ⟨wn, hwn, ewn⟩ : ∃ wn, W[n]? = some (p, wn) ∧ (p, wn) ∈ W := by
        have e := wy.keys
        have e2 := hp
        rw [← e, List.getElem?_map] at e2
        cases hW : W[n]? with
        | none =>
          rw [hW] at e2
          cases e2
        | some z =>
          rw [hW] at e2
          have e3 : z.1 = p := Option.some.inj e2
          refine ⟨z.2, by rw [← e3], ?_⟩
          rw [← e3]
          exact List.mem_of_getElem? hW
      have shn := sh _ ewn
      refine ⟨_, rfl, _, rfl, qu, _, _, _, rfl, rfl, SqL.of hqu, atI_nat (j := n) hbx, ?_⟩
      obtain ⟨d0, xs, ev, hxs, prx⟩ := ml
      have hxs3 := sm _ _ hxs
      have prx3 : Paired (MoT K H3) xs (moves P1 S1 p) := prd_imp prx fun _ _ r => r.same sm
      have lx := prd_len prx3
      have l30 := moves_len okP okS p
      have d0qu : d0 ≠ qu := ne_of_none hxs nquH
      refine ⟨_, rfl, _, rfl, d, _, rfl, ⟨vs, kvs, plK p, b, kept sm, ky_same kyv sm, rfl, ebp, hval.symm⟩, d0, ev, ⟨_, SqL.of hxs3⟩, ?_⟩
      have bfs := bf.step hp
      have fewW : ∀ i, (addW wn W ((moves P1 S1 p).take i)).length ≤ 542 := fun i => by
        have e2 : addW wn W (moves P1 S1 p) = addW wn (addW wn W ((moves P1 S1 p).take i)) ((moves P1 S1 p).drop i) := by
          show List.foldl _ _ _ = List.foldl _ (List.foldl _ _ _) _
          rw [← List.foldl_append, List.take_append_drop]
        obtain ⟨R1, e1⟩ := addW_pre wn ((moves P1 S1 p).drop i) (addW wn W ((moves P1 S1 p).take i))
        have e3 := addW_keys wn (moves P1 S1 p) W
        rw [wy.keys] at e3
        have l1 : (addTo R (moves P1 S1 p)).length ≤ 542 := Nat.le_trans (nd_le bfs.nd fun x hx => by
          obtain ⟨v, k⟩ := bfs.reach x hx
          obtain ⟨v0, k0⟩ := bf0.reach o ho
          exact (bf0.all x).mpr ⟨_, k0.trans k⟩) few
        have l2 := congrArg List.length e3
        rw [List.length_map, e2, e1, List.length_append] at l2
        omega
      refine for_it (walk_list (K := K) (a := d0) (xs := xs)) (fun i σ H4 => ∃ (as' ts' : List Addr) (ks' : List (List Key × V)), (∃ v6 v7 v8 : Option V, σ = [some (.ref d), some (.ref b0), some (.ref wd), some (.ref qu), some (.int ((n : Nat) : Int)), some (.ref b), v6, v7, v8]) ∧
        H4 wd = some (DX w wd ts' ks') ∧ KyA K H4 ts' ks' ∧ Paired (KW H4) ks' (addW wn W ((moves P1 S1 p).take i)) ∧ H4 qu = some (.lst (as'.map V.ref)) ∧ Paired (PlT K H4) as' ((addW wn W ((moves P1 S1 p).take i)).map (·.1)) ∧ But2 wd qu H3 H4) ?_ ?_ ?_ ?_
      · exact ⟨as, ts, ks, ⟨_, _, _, rfl⟩, hwd, kyw, pw, hqu, (by show Paired (PlT K H3) as (W.map (·.1)); rw [wy.keys]; exact pa), fun _ _ e _ _ => e⟩
      · rintro i σ H4 hi ⟨as', ts', ks', _, _, _, _, _, _, u⟩
        exact SqL.of (u _ _ hxs3 (ne_of_none hxs nwd) d0qu)
      · rintro i y σ H40 H4 hi ⟨as', ts', ks', ⟨v6, v7, v8, rfl⟩, hwd4, kyw4, pw4, hqu4, pa4, u⟩ ⟨rfl, hy⟩
        obtain ⟨m, hm, mo⟩ := prd_at prx3 hy
        obtain ⟨c, b4, rfl, hc4, hb4⟩ := mo.but u hwd hqu
        have hb4p : PlT K H4 b p := u.sq ebp hwd hqu
        have kW := keysW pw4
        have lks := prd_len pw4
        have fW := fewW i
        have et : (moves P1 S1 p).take (i + 1) = (moves P1 S1 p).take i ++ [m] := by rw [List.take_add_one, hm]; rfl
        refine ⟨c, _, rfl, .inl (.inl hc4), rfl, _, _, rfl, _, _, rfl, _, _, rfl, rfl, ?_⟩
        refine ⟨_, rfl, _, rfl, wd, _, rfl, DGetY.t (k := plK m.2.2) hwd4 kyw4 hb4, _, rfl, ?_⟩
        rw [keysP_is kW, et, addW_snoc]
        have hWn : (addW wn W ((moves P1 S1 p).take i))[n]? = some (p, wn) := by
          obtain ⟨R1, e1⟩ := addW_pre wn ((moves P1 S1 p).take i) W
          rw [e1, List.getElem?_append_left (List.getElem?_eq_some_iff.mp hwn).1]
          exact hwn
        have ndW : ((addW wn W ((moves P1 S1 p).take i)).map (·.1)).Nodup := by
          rw [addW_keys, wy.keys]
          exact addTo_nd _ _ bf.nd
        generalize addW wn W ((moves P1 S1 p).take i) = W' at pw4 pa4 kW lks fW hWn ndW ⊢
        have la4 := prd_len pa4
        rw [List.length_map] at la4
        by_cases hin : m.2.2 ∈ W'.map (·.1)
        · rw [decide_eq_true hin, if_pos hin]
          exact iteF ⟨as', ts', ks', ⟨_, _, _, rfl⟩, hwd4, kyw4, pw4, hqu4, pa4, u⟩
        · rw [decide_eq_false hin, if_neg hin]
          have hn4 : n < ks'.length := by
            rw [lks]
            exact (List.getElem?_eq_some_iff.mp hWn).1
          obtain ⟨y, e1, e2, cw, e3, hcw⟩ := prd_at pw4 (List.getElem?_eq_getElem hn4)
          rw [hWn] at e1
          cases e1
          have hv4 : valV ks' (plK p) = some (.ref cw) := by
            have := val_at (kvs := ks') (i := n) (k := plK p) (v := .ref cw) (by rw [kW]; exact map_nd ndW) (by rw [List.getElem?_eq_getElem hn4]; exact congrArg some (Prod.ext e2 e3))
            exact this
          have lw1 : wn.1.length ≤ 2000 := by
            have : wn.1.length + wn.2.length ≤ n := shn
            omega
          have lw2 : wn.2.length ≤ 2000 := by
            have : wn.1.length + wn.2.length ≤ n := shn
            omega
          refine iteT ⟨_, rfl, _, rfl, wd, _, rfl, (by rw [← hv4]; exact DGetY.t (k := plK p) hwd4 kyw4 hb4p), _, rfl, _, rfl, cw, wn, m.1, m.2.1, rfl, hcw, lw1, lw2, fun c5 H5 s5 hc5 => ?_⟩
          have hwd5 := s5 _ _ hwd4
          have hqu5 := s5 _ _ hqu4
          refine ⟨_, rfl, _, rfl, wd, _, rfl, DPutY.t (k := plK m.2.2) hwd5 (ky_same kyw4 s5) (sq_same hb4 s5) (keysP_none kW hin) (by rw [lks, sizeLine_eq]; omega), ?_⟩
          have hqu6 : upd H5 wd (DX w wd (ts' ++ [b4]) (ks' ++ [(plK m.2.2, V.ref c5)])) qu = some (.lst (as'.map V.ref)) := by rw [upd_ne (Ne.symm wdqu)]; exact hqu5
          refine ⟨_, rfl, .inl ⟨rfl, _, SqL.of hqu6⟩, _, rfl, qu, _, _, rfl, rfl, hqu6, by rw [List.length_map, sizeLine_eq]; omega, ?_⟩
          have up : ∀ {x : Addr} {xs : List V}, H5 x = some (.tup xs) → upd (upd H5 wd (DX w wd (ts' ++ [b4]) (ks' ++ [(plK m.2.2, V.ref c5)]))) qu (.lst (as'.map V.ref ++ [.ref b4])) x = some (.tup xs) := fun {x xs} h => by
            rw [upd_ne (ne_of h hqu5 (fun z => nomatch z)), upd_ne (ne_of h hwd5 (fun z => nomatch z))]
            exact h
          have upS : ∀ {x : Addr} {xs : List V}, SqT K H4 x xs → SqT K (upd (upd H5 wd (DX w wd (ts' ++ [b4]) (ks' ++ [(plK m.2.2, V.ref c5)]))) qu (.lst (as'.map V.ref ++ [.ref b4]))) x xs := fun {x xs} h => sq_lst (sq_dx (sq_same h s5) hwd5) hqu6
          refine ⟨as' ++ [b4], ts' ++ [b4], ks' ++ [(plK m.2.2, V.ref c5)], ⟨_, _, _, rfl⟩, ?_, (prd_imp kyw4 fun _ _ z => upS z).snoc (upS hb4), ?_, ?_, ?_, ?_⟩
          · rw [upd_ne wdqu]
            exact upd_same
          · exact (prd_imp pw4 fun _ _ ⟨h1, c, h2, h3⟩ => ⟨h1, c, h2, up (s5 _ _ h3)⟩).snoc ⟨rfl, c5, rfl, up hc5⟩
          · rw [upd_same, List.map_append]
            rfl
          · rw [List.map_append]
            exact (prd_imp pa4 fun _ _ h => upS h).snoc (upS hb4)
          · intro x u' e n1 n2
            rw [upd_ne n2, upd_ne n1]
            exact s5 _ _ (u _ _ e n1 n2)
      rintro σ H4 ⟨as', ts', ks', ⟨v6, v7, v8, rfl⟩, hwd4, kyw4, pw4, hqu4, pa4, u⟩
      rw [List.take_of_length_le (by omega)] at pw4 pa4
      have hpu : ((n : Nat) : Int) + 1 = ((n + 1 : Nat) : Int) := by omega
      refine ⟨_, rfl, _, _, rfl, rfl, ?_⟩
      refine ⟨600 - (n + 1), by omega, addTo R (moves P1 S1 p), addW wn W (moves P1 S1 p), n + 1, rfl, ⟨_, _, _, _, by rw [← hpu]; rfl⟩, bfs, wy.step ewn, ⟨ts', ks', hwd4, kyw4, pw4⟩, ⟨as', hqu4, by rw [addW_keys, wy.keys] at pa4; exact pa4⟩, ?_, ?_, ?_⟩
      · exact addW_short shn _ _ fun z hz => by have := sh z hz; omega
      · have ew : wayTo W p = wn := way_one (by rw [wy.keys]; exact bf.nd) (wayTo_has wy hpm).1 ewn
        show stepW P1 S1 (runW P1 S1 o n) n = _
        rw [run]
        unfold stepW
        show (match R[n]? with | none => (R, W) | some p => (addTo R (moves P1 S1 p), addW (wayTo W p) W (moves P1 S1 p))) = _
        rw [hp, ← ew]
      · intro x u' e
        exact u _ _ (sm _ _ e) (ne_of_none e nwd) (ne_of_none e nquH)
    · rw [decide_eq_false (show ¬ ((n : Nat) : Int) < ((R.length : Nat) : Int) by omega)]
      have en : n = R.length := by
        have := bf.le
        omega
      subst en
      refine iteF ⟨_, rfl, q wd R W H3 sm nwd bf ⟨⟨ts, ks, hwd, kyw, pw⟩, wy, fun z hz => by have := sh z hz; omega, ?_⟩⟩
      have e1 : R.length = (runW P1 S1 o R.length).1.length := by rw [run]
      have e2 := run_stay e1 (600 - R.length)
      rw [show R.length + (600 - R.length) = 600 by omega, run] at e2
      unfold waysW
      rw [e2]
end
end V8
set_option Elab.async false
set_option linter.all false
set_option maxRecDepth 100000
set_option maxHeartbeats 8000000
set_option pp.maxSteps 900
/-! Meetings made; a meeting ended; one that is not alike. -/
namespace V8
open PySem PySem.Spec PyProof.Rows L2 MZ
variable {K : PySem.W.Frag} {ω : World}
abbrev s_Meetings_init : Stmt := inClass (topS 44) 0
theorem sc_Meetings_init : FnScope ["self", "first", "second"] ["self", "first", "second"] (defScope s_Meetings_init) := ⟨rfl, rfl, rfl, by decide +kernel, rfl, by decide +kernel, by decide +kernel⟩
abbrev s_ended : Stmt := topS 52
theorem sc_ended : FnScope ["meetings", "way", "place", "one", "other"] ["meetings", "way", "place"] (defScope s_ended) := ⟨rfl, rfl, rfl, by decide +kernel, rfl, by decide +kernel, by decide +kernel⟩
abbrev s_unlike_meeting : Stmt := topS 54
theorem sc_unlike_meeting : FnScope ["meetings", "place", "taker", "label", "target", "way", "lead", "known", "found"] ["meetings"] (defScope s_unlike_meeting) := ⟨rfl, rfl, rfl, by decide +kernel, rfl, by decide +kernel, by decide +kernel⟩
/-- all but instances stays -/
def NI (H H' : Hp) : Prop := ∀ b o, H b = some o → (∀ C dx fs, o ≠ .ins C dx fs) → H' b = some o
theorem NI.ofSame {H H' : Hp} (s : Same H H') : NI H H' := fun b o e _ => s b o e
theorem NI.trans {H H1 H2 : Hp} (a : NI H H1) (b : NI H1 H2) : NI H H2 := fun c o e n => b c o (a c o e n) n
theorem NI.put {H : Hp} {x C dx : Addr} {fs : List (Str × V)} {o : HO} (h : H x = some (.ins C dx fs)) : NI H (upd H x o) := fun b u e n => by
  rw [upd_ne fun z => ?_]
  · exact e
  · rw [z, h] at e
    exact n _ _ _ (Option.some.inj e).symm
theorem sq_ni {H H' : Hp} {b : Addr} {xs : List V} (h : SqT K H b xs) (s : NI H H') : SqT K H' b xs := sq_mono h fun o eo z => s _ _ eo fun C dx fs e => by
  rw [e] at z
  rcases z with z | ⟨_, z⟩ <;> cases z
theorem MoT.ni {H H' : Hp} {v : V} {m : Mo} (h : MoT K H v m) (s : NI H H') : MoT K H' v m := by
  obtain ⟨c, b, e, h1, h2⟩ := h
  exact ⟨c, b, e, s _ _ h1 (fun _ _ _ z => nomatch z), sq_ni h2 s⟩
theorem MoL.ni {H H' : Hp} {v : V} {l : List Mo} (h : MoL K H v l) (s : NI H H') : MoL K H' v l := by
  obtain ⟨d, xs, e, h1, h2⟩ := h
  exact ⟨d, xs, e, s _ _ h1 (fun _ _ _ z => nomatch z), prd_imp h2 fun _ _ r => r.ni s⟩
theorem AllM.ni {P S : List Pr} {Q : List Pl} {H H' : Hp} {d : Addr} (h : AllM K ω P S Q H d) (s : NI H H') : AllM K ω P S Q H' d := by
  obtain ⟨as, ks, h1, ky, h2⟩ := h
  exact ⟨as, ks, s _ _ h1 (fun _ _ _ z => nomatch z), prd_imp ky fun _ _ z => sq_ni z s, prd_imp h2 fun _ _ r => ⟨r.1, r.2.ni s⟩⟩
theorem LivD.ni {P S : List Pr} {Q L : List Pl} {H H' : Hp} {d : Addr} (h : LivD K ω P S Q L H d) (s : NI H H') : LivD K ω P S Q L H' d := by
  obtain ⟨⟨as, ks, h1, ky, h2⟩, b, c⟩ := h
  exact ⟨⟨as, ks, s _ _ h1 (fun _ _ _ z => nomatch z), prd_imp ky fun _ _ z => sq_ni z s, h2⟩, b, c⟩
theorem WysD.ni {P S : List Pr} {o : Pl} {R : List Pl} {W : WyL} {H H' : Hp} {d : Addr} (h : WysD K ω P S o R W H d) (s : NI H H') : WysD K ω P S o R W H' d := by
  obtain ⟨⟨as, ks, h1, ky, h2⟩, b, c⟩ := h
  exact ⟨⟨as, ks, s _ _ h1 (fun _ _ _ z => nomatch z), prd_imp ky fun _ _ z => sq_ni z s, prd_imp h2 fun _ _ ⟨e, c, e2, h3⟩ => ⟨e, c, e2, s _ _ h3 (fun _ _ _ z => nomatch z)⟩⟩, b, c⟩
theorem PrL.ni {H H' : Hp} {a : Addr} {P : List Pr} (h : PrL H a P) (s : NI H H') : PrL H' a P := by
  obtain ⟨xs, h1, h2⟩ := h
  exact ⟨xs, s _ _ h1 (fun _ _ _ z => nomatch z), prd_imp h2 fun _ _ ⟨c, e, h3⟩ => ⟨c, e, s _ _ h3 (fun _ _ _ z => nomatch z)⟩⟩
theorem CnH.ni {aS aE aV : Addr} {H H' : Hp} (c : CnH K aS aE aV H) (s : NI H H') : CnH K aS aE aV H' := ⟨sq_ni c.st s, sq_ni c.en s, sq_ni c.ev s⟩
def fM (mv ld wd : Addr) : List (Str × V) := putF "ways" (.ref wd) (putF "living" (.ref ld) (putF "moves" (.ref mv) []))
theorem fM_m (mv ld wd : Addr) : (fM mv ld wd).lookup ("moves" : Str) = some (.ref mv) := by rfl
theorem fM_l (mv ld wd : Addr) : (fM mv ld wd).lookup ("living" : Str) = some (.ref ld) := by rfl
theorem fM_w (mv ld wd : Addr) : (fM mv ld wd).lookup ("ways" : Str) = some (.ref wd) := by rfl
/-- meetings, as an instance -/
structure MeeA (K : PySem.W.Frag) (ω : World) (CM : Addr) (P S : List Pr) (Qs L R : List Pl) (W : WyL) (H : Hp) (x : Addr) : Prop where
  at_ : ∃ dx mv ld wd, H x = some (.ins CM dx (fM mv ld wd)) ∧ AllM K ω P S Qs H mv ∧ LivD K ω P S Qs L H ld ∧ WysD K ω P S .start R W H wd ∧ mv ≠ ld ∧ mv ≠ wd
  b : Bfs P S .start Qs Qs.length
  r : Bfs P S .start R R.length
  few : Qs.length ≤ 542
  eqQ : Qs = placesQ P S
structure Tn (K : PySem.W.Frag) (mg : Str → Option Value) (aS aE aV CM : Addr) : Prop extends Tm mg aS aE aV where
  cl : Cls K CM
  n1 : NoAttr K CM "moves"
  n2 : NoAttr K CM "living"
  n3 : NoAttr K CM "ways"
def spMee (K : PySem.W.Frag) (ω : World) (aS aE aV CM : Addr) : Sp := fun vs H Q _ => ∃ (x dx f1 f2 : Addr) (P S : List Pr), vs = [.ref x, .ref f1, .ref f2] ∧ H x = some (.ins CM dx []) ∧ PrL H f1 P ∧ PrL H f2 S ∧ CnH K aS aE aV H ∧ PrOk P ∧ PrOk S ∧ (∀ q ∈ P, q.1 ≠ []) ∧
  ∀ (Qs L R : List Pl) (W : WyL) (H' : Hp), (∀ b o, H b = some o → b ≠ x → H' b = some o) → MeeA K ω CM P S Qs L R W H' x → Q .non H'
section
variable {P : Program} {w : World} {K : PySem.W.Frag} {mg : Str → Option Value} {base : Heap} {aS aE aV CM : Addr}
theorem ok_meet {f : Addr} {fd : FuncData} (F : Fun K "__init__" "Meetings.__init__" s_Meetings_init f fd) (T : Tn K mg aS aE aV CM) (D_all_moves : Df P w K mg base 4 "all_moves" (spAll K w aS aE aV)) (D_all_living : Df P w K mg base 1 "all_living" (spLiving K w aS aE aV)) (D_ways_from : Df P w K mg base 2 "ways_from" (spWays K w)) :
    FnOk P w K mg base CX0 5 f fd ["self", "first", "second"] (spMee K w aS aE aV CM) := by
  refine F.ok sc_Meetings_init (fun vs H Q E h => ?_) (fun cdv A outer s H vs Q E hr h => ?_)
  · obtain ⟨x, dx, f1, f2, P, S, rfl, _⟩ := h
    rfl
  · obtain ⟨x, dx, f1, f2, P1, S1, rfl, hx, hP, hS, cn, okP, okS, nP, q⟩ := h
    refine ⟨_, (pss_cons (ps_fld (pv 0) (pe_c D_all_moves hr (by decide) (by rfl) (pa_cons (pv 1) (pa_cons (pv 2) pa_nil))) rfl)
      (pss_cons (ps_fld (pv 0) (pe_c D_all_living hr (by decide) (by rfl) (pa_cons (pe_fldK (K := K) rfl (pv 0) rfl) pa_nil)) rfl)
      (pss_one (ps_fld (pv 0) (pe_c D_ways_from hr (by decide) (by rfl) (pa_cons (pe_fldK (K := K) rfl (pv 0) rfl) (pa_cons (pe_gv T.gSTART (by rfl)) pa_nil))) rfl)))), ?_⟩
    refine ⟨_, rfl, _, rfl, f1, f2, P1, S1, rfl, hP, hS, cn, okP, okS, nP, fun mv Qs H1 s1 nmv bf eqQ am => ?_⟩
    have hx1 := s1 _ _ hx
    refine ⟨_, rfl, x, CM, dx, _, rfl, hx1, T.cl, T.n1, by show 0 < 1000; decide, ?_⟩
    have i2 : NI H1 (upd H1 x (.ins CM dx (putF "moves" (.ref mv) []))) := NI.put hx1
    have hx2 : upd H1 x (.ins CM dx (putF "moves" (.ref mv) [])) x = some (.ins CM dx (putF "moves" (.ref mv) [])) := upd_same
    have k2 : ∀ b o, H b = some o → b ≠ x → upd H1 x (.ins CM dx (putF "moves" (.ref mv) [])) b = some o := fun b o e n => by
      rw [upd_ne n]
      exact s1 _ _ e
    have am2 := am.ni i2
    have cn2 := (cn.same s1).ni i2
    show Ends.nx _ _ (upd H1 x (.ins CM dx (putF "moves" (.ref mv) [])))
    generalize upd H1 x (.ins CM dx (putF "moves" (.ref mv) [])) = H2 at hx2 k2 am2 cn2 ⊢
    have few : Qs.length ≤ 542 := by
      have := bf.few nP
      have := sum_ok okP
      have := sum_ok okS
      omega
    refine ⟨_, rfl, x, CM, dx, _, V.ref mv, rfl, hx2, T.cl, T.n1, rfl, mv, P1, S1, Qs, rfl, am2, bf, cn2, few, okP, okS, fun ld L H3 s3 nld lv => ?_⟩
    have hx3 := s3 _ _ hx2
    refine ⟨_, rfl, x, CM, dx, _, rfl, hx3, T.cl, T.n2, by show 1 < 1000; decide, ?_⟩
    have i4 : NI H3 (upd H3 x (.ins CM dx (putF "living" (.ref ld) (putF "moves" (.ref mv) [])))) := NI.put hx3
    have hx4 : upd H3 x (.ins CM dx (putF "living" (.ref ld) (putF "moves" (.ref mv) []))) x = some (.ins CM dx (putF "living" (.ref ld) (putF "moves" (.ref mv) []))) := upd_same
    have k4 : ∀ b o, H b = some o → b ≠ x → upd H3 x (.ins CM dx (putF "living" (.ref ld) (putF "moves" (.ref mv) []))) b = some o := fun b o e n => by
      rw [upd_ne n]
      exact s3 _ _ (k2 _ _ e n)
    have am4 := (am2.ni (NI.ofSame s3)).ni i4
    have cn4 := (cn2.same s3).ni i4
    have lv4 := lv.ni i4
    show Ends.nx _ _ (upd H3 x (.ins CM dx (putF "living" (.ref ld) (putF "moves" (.ref mv) []))))
    generalize upd H3 x (.ins CM dx (putF "living" (.ref ld) (putF "moves" (.ref mv) []))) = H4 at hx4 k4 am4 cn4 lv4 ⊢
    refine ⟨_, rfl, x, CM, dx, _, V.ref mv, rfl, hx4, T.cl, T.n1, rfl, mv, aS, P1, S1, Qs, .start, rfl, am4.rd, bf, cn4.st, (bf.all .start).mpr ⟨_, .nil⟩, few, okP, okS, fun wd R W H5 s5 nwd bR wy => ?_⟩
    have hx5 := s5 _ _ hx4
    refine ⟨_, rfl, x, CM, dx, _, rfl, hx5, T.cl, T.n3, by show 2 < 1000; decide, ?_⟩
    have i6 : NI H5 (upd H5 x (.ins CM dx (fM mv ld wd))) := NI.put hx5
    refine q Qs L R W _ (fun b o e n => ?_) ⟨⟨dx, mv, ld, wd, upd_same, (am4.ni (NI.ofSame s5)).ni i6, (lv4.ni (NI.ofSame s5)).ni i6, wy.ni i6, ne_of_none am2.choose_spec.choose_spec.1 nld, ne_of_none am4.choose_spec.choose_spec.1 nwd⟩, bf, bR, few, eqQ⟩
    show upd H5 x _ b = _
    rw [upd_ne n]
    exact s5 _ _ (k4 _ _ e n)
end
end V8
set_option Elab.async false
set_option linter.all false
set_option maxRecDepth 100000
set_option maxHeartbeats 8000000
set_option pp.maxSteps 900
/-! A meeting ended. -/
namespace V8
open PySem PySem.Spec PyProof.Rows L2 MZ
variable {K : PySem.W.Frag} {ω : World}
/-- meetings read: the dict of steps locked or not -/
structure MeeR (K : PySem.W.Frag) (ω : World) (CM : Addr) (P S : List Pr) (Qs L R : List Pl) (W : WyL) (H : Hp) (x : Addr) : Prop where
  at_ : ∃ dx mv ld wd, H x = some (.ins CM dx (fM mv ld wd)) ∧ AllR K ω P S Qs H mv ∧ LivD K ω P S Qs L H ld ∧ WysD K ω P S .start R W H wd
  b : Bfs P S .start Qs Qs.length
  r : Bfs P S .start R R.length
  few : Qs.length ≤ 542
theorem AllR.same {P S : List Pr} {Q : List Pl} {H H' : Hp} {d : Addr} (h : AllR K ω P S Q H d) (s : Same H H') : AllR K ω P S Q H' d := by
  obtain ⟨as, ks, h1, ky, h2⟩ := h
  exact ⟨as, ks, rd_same h1 s, ky_same ky s, prd_imp h2 fun _ _ r => r.up s⟩
theorem MeeR.same {CM : Addr} {P S : List Pr} {Qs L R : List Pl} {W : WyL} {H H' : Hp} {x : Addr} (h : MeeR K ω CM P S Qs L R W H x) (s : Same H H') : MeeR K ω CM P S Qs L R W H' x := by
  obtain ⟨⟨dx, mv, ld, wd, h1, h2, h3, h4⟩, b, c, d⟩ := h
  exact ⟨⟨dx, mv, ld, wd, s _ _ h1, h2.same s, h3.ni (NI.ofSame s), h4.ni (NI.ofSame s)⟩, b, c, d⟩
/-- a way and its end -/
def spEnded (K : PySem.W.Frag) (ω : World) (aS aE aV CM : Addr) : Sp := fun vs H Q _ => ∃ (x c b : Addr) (P S : List Pr) (Qs L R : List Pl) (W : WyL) (w : List Nat × List Nat) (p : Pl), vs = [.ref x, .ref c, .ref b] ∧ MeeR K ω CM P S Qs L R W H x ∧ CnH K aS aE aV H ∧ WyT H c w ∧ wlen w ≤ 700 ∧ PlT K H b p ∧ p ∈ Qs ∧ (∃ v, Way P S p .fin v) ∧ PrOk P ∧ PrOk S ∧
  ∀ (e : Addr) (v : List Nat × List Nat) (H' : Hp), Same H H' → Way P S p .fin v → WyT H' e (w.1 ++ v.1, w.2 ++ v.2) → wlen v ≤ 600 → v = wayTo (waysW P S p) .fin → Q (.ref e) H'
theorem wys_at {P S : List Pr} {o : Pl} {R : List Pl} {W : WyL} {H : Hp} {d : Addr} (h : WysD K ω P S o R W H d) (nd : R.Nodup) {p : Pl} (hp : p ∈ R) : ∃ as ks c, H d = some (DX ω d as ks) ∧ KyA K H as ks ∧ valV ks (plK p) = some (.ref c) ∧ WyT H c (wayTo W p) ∧ Way P S o p (wayTo W p) ∧ wlen (wayTo W p) ≤ 600 := by
  obtain ⟨⟨as, ks, h1, ky, h2⟩, wy, sh, _⟩ := h
  obtain ⟨m, k⟩ := wayTo_has wy hp
  obtain ⟨j, hj, e⟩ := List.getElem_of_mem m
  have hjk : j < ks.length := by rw [prd_len h2]; exact hj
  obtain ⟨y, e1, e2, c, e3, hc⟩ := prd_at h2 (List.getElem?_eq_getElem hjk)
  rw [List.getElem?_eq_getElem hj, e] at e1
  cases e1
  have nk : (ks.map (·.1)).Nodup := by
    rw [keysW h2, wy.keys]
    exact map_nd nd
  exact ⟨as, ks, c, h1, ky, val_at nk (by rw [List.getElem?_eq_getElem hjk]; exact congrArg some (Prod.ext e2 e3)), hc, k, sh _ m⟩
section
variable {P : Program} {w : World} {K : PySem.W.Frag} {mg : Str → Option Value} {base : Heap} {aS aE aV CM : Addr}
theorem ok_ended {f : Addr} {fd : FuncData} (F : Fun K "ended" "ended" s_ended f fd) (T : Tn K mg aS aE aV CM) (D_ways_from : Df P w K mg base 2 "ways_from" (spWays K w)) : FnOk P w K mg base CX0 3 f fd ["meetings", "way", "place"] (spEnded K w aS aE aV CM) := by
  refine F.ok sc_ended (fun vs H Q E h => ?_) (fun cdv A outer s H vs Q E hr h => ?_)
  · obtain ⟨x, c, b, P, S, Qs, L, R, W, y, p, rfl, _⟩ := h
    rfl
  · obtain ⟨x, c, b, P1, S1, Qs, L, R, W, y, p, rfl, me, cn, hc, ly, hb, hp, ⟨v0, k0⟩, okP, okS, q⟩ := h
    refine ⟨_, (pss_cons (ps_asg (pe_dgetY (w := w) (K := K) rfl rfl (hu_of hr) (pe_c D_ways_from hr (by decide) (by rfl) (pa_cons (pe_fldK (K := K) rfl (pv 0) rfl) (pa_cons (pv 2) pa_nil))) (pe_gv T.gEND (by rfl)) (fun _ _ => rfl)) (pg_tup (by rfl) (pgs_cons (pg_name (i := 3) sc_ended.nd rfl (.inl rfl)) (pgs_cons (pg_name (i := 4) sc_ended.nd rfl (.inl rfl)) pgs_nil))))
      (pss_one (ps_ret (pe_tup (pa_cons (pe_op op_add_str (pe_ix (ix_tupK (K := K) rfl) (pv 1) pe_int (fun _ _ => rfl)) (pv 3)) (pa_cons (pe_op op_add_str (pe_ix (ix_tupK (K := K) rfl) (pv 1) pe_int (fun _ _ => rfl)) (pv 4)) pa_nil)))))), ?_⟩
    obtain ⟨⟨dx, mv, ld, wd, hx, am, lv, wy⟩, bf, br, few⟩ := id me
    refine ⟨_, rfl, x, CM, dx, _, V.ref mv, rfl, hx, T.cl, T.n1, fM_m mv ld wd, _, rfl, mv, b, P1, S1, Qs, p, rfl, am, bf, hb, hp, few, okP, okS, fun wd2 R2 W2 H2 s2 _ b2 wy2 => ?_⟩
    have hfin : Pl.fin ∈ R2 := (b2.all .fin).mpr ⟨_, k0⟩
    obtain ⟨as, ks, e, h1, ky, h2, h3, k, l3⟩ := wys_at wy2 b2.nd hfin
    have cn2 := cn.same s2
    have hc2 := s2 _ _ hc
    refine ⟨wd2, _, rfl, by rw [← h2]; exact DGetY.t (k := plK .fin) h1 ky cn2.en, e, _, rfl, .inl (.inl h3), rfl, _, _, rfl, _, _, rfl, rfl, ?_⟩
    have l1 : y.1.length + y.2.length ≤ 700 := ly
    have l2 : (wayTo W2 .fin).1.length + (wayTo W2 .fin).2.length ≤ 600 := l3
    refine ⟨_, rfl, c, _, _, _, rfl, rfl, .inl (.inl hc2), atI_nat (j := 0) rfl, _, rfl, _, _, rfl, rfl, by rw [Sx_len, Sx_len, sizeLine_eq]; omega, ?_⟩
    refine ⟨_, rfl, c, _, _, _, rfl, rfl, .inl (.inl hc2), atI_nat (j := 1) rfl, _, rfl, _, _, rfl, rfl, by rw [Sx_len, Sx_len, sizeLine_eq]; omega, by show 2 ≤ sizeLine; decide, fun d nd => ?_⟩
    rw [Sx_app, Sx_app]
    exact q d _ _ (same_put (s := s2) nd) k upd_same l3 (by rw [wy2.2.2.2])
end
end V8
set_option Elab.async false
set_option linter.all false
set_option maxRecDepth 100000
set_option maxHeartbeats 8000000
set_option pp.maxSteps 900
/-! A meeting that is not alike. -/
namespace V8
open PySem PySem.Spec PyProof.Rows L2 MZ
variable {K : PySem.W.Frag} {ω : World}
def LbOk (P : List Pr) : Prop := ∀ q ∈ P, isLt q.2
def LtW (w : List Nat × List Nat) : Prop := (∀ c ∈ w.1, isLt c) ∧ ∀ c ∈ w.2, isLt c
theorem mo_lt {P S : List Pr} (lP : LbOk P) (lS : LbOk S) {p : Pl} {m : Mo} (h : m ∈ moves P S p) : isLt m.2.1 := by
  cases p with
  | fin => cases h
  | start =>
    obtain ⟨q, hq, rfl⟩ := List.mem_map.mp h
    exact lP q hq
  | rest a r =>
    obtain ⟨q, hq, e⟩ := List.mem_filterMap.mp h
    obtain ⟨t, _, rfl⟩ := Option.map_eq_some_iff.mp e
    cases a with
    | true => exact lS q hq
    | false => exact lP q hq
theorem put_lt {w : List Nat × List Nat} (h : LtW w) (t : Bool) {l : Nat} (hl : isLt l) : LtW (put t l w) := by
  cases t with
  | true =>
    refine ⟨fun c hc => ?_, h.2⟩
    rcases List.mem_append.mp hc with a | a
    · exact h.1 c a
    · rw [List.mem_singleton.mp a]
      exact hl
  | false =>
    refine ⟨h.1, fun c hc => ?_⟩
    rcases List.mem_append.mp hc with a | a
    · exact h.2 c a
    · rw [List.mem_singleton.mp a]
      exact hl
theorem way_lt {P S : List Pr} (lP : LbOk P) (lS : LbOk S) {o p : Pl} {w : List Nat × List Nat} (h : Way P S o p w) : LtW w := by
  induction h with
  | nil => exact ⟨fun c h => (List.not_mem_nil h).elim, fun c h => (List.not_mem_nil h).elim⟩
  | step _ m ih => exact put_lt ih _ (mo_lt lP lS m)
theorem way_start {P S : List Pr} {o : Pl} {w : List Nat × List Nat} (h : Way P S o .start w) : w = ([], []) := by
  cases h with
  | nil => rfl
  | @step p w t l q _ m =>
    exfalso
    cases p with
    | fin => cases m
    | start =>
      obtain ⟨q, hq, e⟩ := List.mem_map.mp m
      cases e
    | rest a r =>
      obtain ⟨q, hq, e⟩ := List.mem_filterMap.mp m
      obtain ⟨t, et, e2⟩ := Option.map_eq_some_iff.mp e
      cases e2
      rcases behind_cases et with ⟨_, z⟩ | ⟨_, _, _, z⟩ | ⟨_, _, _, z⟩ <;> cases z
def ldD : Option (Bool × List Nat) → PyData
  | none => .none
  | some k => .tuple [.str (sideS k.1), .str (Sx k.2)]
theorem ld_dp {K : PySem.W.Frag} {H : Hp} {v : V} {o : Option (Bool × List Nat)} (h : LdO K H v o) : Dp K H v (ldD o) := by
  cases o with
  | none =>
    have h : v = .non := h
    subst h
    exact .non
  | some k =>
    obtain ⟨b, rfl, h1⟩ := h
    exact .tup h1 (.cons (.str _) (.cons (.str _) .nil))
theorem lead_lt {w : List Nat × List Nat} (h : LtW w) {k : Bool × List Nat} (e : lead w = some k) : ∀ c ∈ k.2, isLt c := fun c hc => by
  rcases lead_some e with ⟨_, e2⟩ | ⟨_, _, e2⟩
  · exact h.1 c (by rw [e2]; exact List.mem_append_right _ hc)
  · exact h.2 c (by rw [e2]; exact List.mem_append_right _ hc)
theorem ld_shaped {o : Option (Bool × List Nat)} (h : ∀ k, o = some k → ∀ c ∈ k.2, isLt c) : SeqAt.shaped (ldD o) = true := by
  cases o with
  | none => rfl
  | some k =>
    have ok1 : PyData.strOk (sideS k.1) = true := by
      cases k.1 with
      | true => exact (show PyData.strOk (sideS true) = true by decide +kernel)
      | false => exact (show PyData.strOk (sideS false) = true by decide +kernel)
    have ok2 : PyData.strOk (Sx k.2) = true := ok_sx (h k rfl)
    refine shaped_of (by simp only [ldD, PyData.canLay0, PyData.canLayAll0, ok1, ok2]; rfl) ?_
    simp [ldD, PyData.depth, PyData.depthAll]
theorem ld_eqv (k : Bool × List Nat) (o : Option (Bool × List Nat)) : PyData.eqv (ldD (some k)) (ldD o) = decide (o = some k) := by
  cases o with
  | none => rfl
  | some j =>
    show (decide (sideS k.1 = sideS j.1) && (decide (Sx k.2 = Sx j.2) && true)) = _
    rw [Bool.and_true, Bool.eq_iff_iff, Bool.and_eq_true, decide_eq_true_iff, decide_eq_true_iff, decide_eq_true_iff]
    exact ⟨fun h => by rw [Prod.ext (side_inj h.1) (Sx_inj h.2)], fun h => by rw [Option.some.inj h]; exact ⟨rfl, rfl⟩⟩
theorem all_at {P S : List Pr} {Q : List Pl} {H : Hp} {d : Addr} (h : AllR K ω P S Q H d) (nd : Q.Nodup) {p : Pl} (hp : p ∈ Q) : ∃ as kvs v, Rd H d (DX ω d as kvs) ∧ KyA K H as kvs ∧ valV kvs (plK p) = some v ∧ MoL K H v (moves P S p) := by
  obtain ⟨as, ks, h1, ky, h2⟩ := h
  obtain ⟨j, hj, e⟩ := List.getElem_of_mem hp
  have hjk : j < ks.length := by rw [prd_len h2]; exact hj
  obtain ⟨y, e1, e2, ml⟩ := prd_at h2 (List.getElem?_eq_getElem hjk)
  rw [List.getElem?_eq_getElem hj, e] at e1
  cases e1
  have nk : (ks.map (·.1)).Nodup := by
    rw [keysM h2]
    exact map_nd nd
  exact ⟨as, ks, ks[j].2, h1, ky, val_at nk (by rw [List.getElem?_eq_getElem hjk]; exact congrArg some (Prod.ext e2 rfl)), ml⟩
theorem wlen_app (a v : List Nat × List Nat) : wlen (a.1 ++ v.1, a.2 ++ v.2) = wlen a + wlen v := by
  show (a.1 ++ v.1).length + (a.2 ++ v.2).length = (a.1.length + a.2.length) + (v.1.length + v.2.length)
  rw [List.length_append, List.length_append]
  omega
open Classical in
/-- whether the end can be reached -/
noncomputable def livesB (P S : List Pr) (p : Pl) : Bool := decide (∃ v, Way P S p .fin v)
open Classical in
theorem livesB_iff {P S : List Pr} {p : Pl} : livesB P S p = true ↔ ∃ v, Way P S p .fin v := by
  unfold livesB
  exact decide_eq_true_iff
/-- the meeting that is made of an odd step -/
def foundW (P S : List Pr) (p : Pl) (m : Mo) : List Nat × List Nat :=
  if (put m.1 m.2.1 (wayTo (waysW P S .start) p)).1 ++ (wayTo (waysW P S m.2.2) .fin).1 = (put m.1 m.2.1 (wayTo (waysW P S .start) p)).2 ++ (wayTo (waysW P S m.2.2) .fin).2
  then ((wayTo (waysW P S .start) m.2.2).1 ++ (wayTo (waysW P S m.2.2) .fin).1, (wayTo (waysW P S .start) m.2.2).2 ++ (wayTo (waysW P S m.2.2) .fin).2)
  else ((put m.1 m.2.1 (wayTo (waysW P S .start) p)).1 ++ (wayTo (waysW P S m.2.2) .fin).1, (put m.1 m.2.1 (wayTo (waysW P S .start) p)).2 ++ (wayTo (waysW P S m.2.2) .fin).2)
noncomputable def oddB (P S : List Pr) (p : Pl) (m : Mo) : Bool := livesB P S m.2.2 && oddM (waysW P S .start) p m
noncomputable def oddsW (P S : List Pr) : List (Pl × Mo) := (placesQ P S).flatMap fun p => ((moves P S p).filter (oddB P S p)).map fun m => (p, m)
/-- the meeting that is told, as the program finds it -/
noncomputable def unlikeW (P S : List Pr) : Option (List Nat × List Nat) := (oddsW P S).head?.map fun z => foundW P S z.1 z.2
theorem filter_first {α : Type} {f : α → Bool} {l : List α} {i : Nat} {x : α} (e : l[i]? = some x) (h : f x = true) (no : ∀ j y, j < i → l[j]? = some y → f y = false) : ∃ r, l.filter f = x :: r := by
  obtain ⟨hi, ex⟩ := List.getElem?_eq_some_iff.mp e
  refine ⟨(l.drop (i + 1)).filter f, ?_⟩
  have e0 : (l.take i).filter f = [] := List.filter_eq_nil_iff.mpr fun y hy => by
    obtain ⟨j, hj, ey⟩ := List.getElem_of_mem hy
    have hji : j < i := by rw [List.length_take] at hj; omega
    have e1 : l[j]? = some y := by
      rw [List.getElem_take] at ey
      rw [List.getElem?_eq_getElem (by omega), ey]
    rw [no j y hji e1]
    decide
  conv => lhs; rw [← List.take_append_drop i l, List.filter_append, e0, List.drop_eq_getElem_cons hi, List.filter_cons, ex, if_pos h]
  rfl
theorem odds_first {P S : List Pr} {i k : Nat} {p : Pl} {m : Mo} (hp : (placesQ P S)[i]? = some p) (hm : (moves P S p)[k]? = some m) (h : oddB P S p m = true)
    (no : ∀ j p', j < i → (placesQ P S)[j]? = some p' → ∀ m' ∈ moves P S p', oddB P S p' m' = false) (no2 : ∀ j m', j < k → (moves P S p)[j]? = some m' → oddB P S p m' = false) : unlikeW P S = some (foundW P S p m) := by
  obtain ⟨r, er⟩ := filter_first hm h no2
  obtain ⟨hi, ep⟩ := List.getElem?_eq_some_iff.mp hp
  have e0 : ((placesQ P S).take i).flatMap (fun p => ((moves P S p).filter (oddB P S p)).map fun m => (p, m)) = [] := List.flatMap_eq_nil_iff.mpr fun y hy => by
    obtain ⟨j, hj, ey⟩ := List.getElem_of_mem hy
    have hji : j < i := by rw [List.length_take] at hj; omega
    have e1 : (placesQ P S)[j]? = some y := by
      rw [List.getElem_take] at ey
      rw [List.getElem?_eq_getElem (by omega), ey]
    rw [List.filter_eq_nil_iff.mpr fun m' hm' => by rw [no j y hji e1 m' hm']; decide]
    rfl
  have e1 : oddsW P S = (p, m) :: (r.map (fun m => (p, m)) ++ ((placesQ P S).drop (i + 1)).flatMap (fun p => ((moves P S p).filter (oddB P S p)).map fun m => (p, m))) := by
    unfold oddsW
    conv => lhs; rw [← List.take_append_drop i (placesQ P S), List.flatMap_append, e0, List.drop_eq_getElem_cons hi, List.flatMap_cons, ep, er]
    rfl
  unfold unlikeW
  rw [e1]
  rfl
def spUnlike (K : PySem.W.Frag) (ω : World) (aS aE aV CM : Addr) : Sp := fun vs H Q _ => ∃ (x : Addr) (P S : List Pr) (Qs L R : List Pl) (W : WyL), vs = [.ref x] ∧ MeeA K ω CM P S Qs L R W H x ∧ CnH K aS aE aV H ∧ PrOk P ∧ PrOk S ∧ LbOk P ∧ LbOk S ∧ (∀ q ∈ P, q.1 ≠ []) ∧
  (Alike P S → ∀ H', Same H H' → Q .non H') ∧ ∀ (e : Addr) (w : List Nat × List Nat) (H' : Hp), Same H H' → WyT H' e w → Way P S .start .fin w → w.1 ≠ w.2 → wlen w ≤ 1300 → unlikeW P S = some w → Q (.ref e) H'
section
variable {P : Program} {w : World} {K : PySem.W.Frag} {mg : Str → Option Value} {base : Heap} {aS aE aV CM : Addr}
theorem ok_unlike {f : Addr} {fd : FuncData} (F : Fun K "unlike_meeting" "unlike_meeting" s_unlike_meeting f fd) (T : Tn K mg aS aE aV CM) (D_with_label : Df P w K mg base 1 "with_label" spLabel) (D_lead_of : Df P w K mg base 1 "lead_of" (spLead K)) (D_ended : Df P w K mg base 3 "ended" (spEnded K w aS aE aV CM)) : FnOk P w K mg base CX0 4 f fd ["meetings"] (spUnlike K w aS aE aV CM) := by
  refine F.ok sc_unlike_meeting (fun vs H Q E h => ?_) (fun cdv A outer s H vs Q E hr h => ?_)
  · obtain ⟨x, P, S, Qs, L, R, W, rfl, _⟩ := h
    rfl
  · obtain ⟨x, P1, S1, Qs, L, R, W, rfl, ⟨⟨dx, mv, ld, wd, hx, ⟨vs, kvs, hd, kyv, pk⟩, lv, wy, nml, nmw⟩, bf, br, few, eqQ⟩, cn, okP, okS, lP, lS, nP, qn, qf⟩ := h
    refine ⟨_, (pss_cons (ps_lock (ps_for PassesOwn.never rfl (pi_keysXt (w := w) rfl (pe_fldK (K := K) rfl (pv 0) rfl)) (pg_name (i := 1) sc_unlike_meeting.nd rfl (.inl rfl))
        (pss_one (ps_for PassesOwn.never rfl (pi_list (pe_dgetY (w := w) (K := K) rfl rfl (hu_of hr) (pe_fldK (K := K) rfl (pv 0) rfl) (pv 1) (fun _ _ => rfl))) (pg_tup (by rfl) (pgs_cons (pg_name (i := 2) sc_unlike_meeting.nd rfl (.inl rfl)) (pgs_cons (pg_name (i := 3) sc_unlike_meeting.nd rfl (.inl rfl)) (pgs_cons (pg_name (i := 4) sc_unlike_meeting.nd rfl (.inl rfl)) pgs_nil))))
          (pss_one (ps_if (pt_cmp (pc_dinY (w := w) (K := K) rfl rfl (hu_of hr) (pv 4) (pe_fldK (K := K) rfl (pv 0) rfl)))
            (pss_cons (ps_set (i := 5) sc_unlike_meeting.nd rfl (.inl rfl) (pe_c D_with_label hr (by decide) (by rfl) (pa_cons (pe_dgetY (w := w) (K := K) rfl rfl (hu_of hr) (pe_fldK (K := K) rfl (pv 0) rfl) (pv 1) (fun _ _ => rfl)) (pa_cons (pv 2) (pa_cons (pv 3) pa_nil)))))
            (pss_cons (ps_set (i := 6) sc_unlike_meeting.nd rfl (.inl rfl) (pe_c D_lead_of hr (by decide) (by rfl) (pa_cons (pv 5) pa_nil)))
            (pss_cons (ps_set (i := 7) sc_unlike_meeting.nd rfl (.inl rfl) (pe_ifExp (pt_cmpR (op_eqDK (K := K) rfl hr.units) (pv 4) (pe_gv T.gEND (by rfl)) (nomark _)) (pe_gv T.gEVEN (by rfl)) (pe_c D_lead_of hr (by decide) (by rfl) (pa_cons (pe_dgetY (w := w) (K := K) rfl rfl (hu_of hr) (pe_fldK (K := K) rfl (pv 0) rfl) (pv 4) (fun _ _ => rfl)) pa_nil))))
            (pss_one (ps_if (PW.pt (pw_or (pt_cmpR op_isN (pv 6) pe_non (nomark _)) (pw_or1 (pt_cmpR (op_neDK (K := K) rfl hr.units) (pv 6) (pv 7) (nomark _)))))
              (pss_cons (ps_set (i := 8) sc_unlike_meeting.nd rfl (.inl rfl) (pe_c D_ended hr (by decide) (by rfl) (pa_cons (pv 0) (pa_cons (pv 5) (pa_cons (pv 4) pa_nil)))))
              (pss_one (ps_ret (pe_ifExp (pt_cmpR op_eq (pe_ix (ix_tupK (K := K) rfl) (pv 8) pe_int (fun _ _ => rfl)) (pe_ix (ix_tupK (K := K) rfl) (pv 8) pe_int (fun _ _ => rfl)) (nomark _)) (pe_c D_ended hr (by decide) (by rfl) (pa_cons (pv 0) (pa_cons (pe_dgetY (w := w) (K := K) rfl rfl (hu_of hr) (pe_fldK (K := K) rfl (pv 0) rfl) (pv 4) (fun _ _ => rfl)) (pa_cons (pv 4) pa_nil)))) (pv 8)))))
              pss_nil)))))
            pss_nil))))))
      (pss_one (ps_ret pe_non))), ?_⟩
    have lkv := prd_len pk
    have lvs := prd_len kyv
    have lv0 : Liv P1 S1 L ∧ ∀ p ∈ Qs, ∀ v, Way P1 S1 p .fin v → p ∈ L := ⟨lv.liv, lv.all⟩
    refine ⟨mv, _, hd, True.intro, fun od => ⟨_, rfl, x, CM, dx, _, V.ref mv, rfl, ?_, T.cl, T.n1, fM_m mv ld wd, mv, od, vs, kvs, rfl, upd_same, ?_⟩⟩
    · rw [upd_ne (ne_of hx hd (fun z => nomatch z))]
      exact hx
    have sf : ∀ c u, H c = some u → c ≠ mv → upd H mv (.frz od (DX w mv vs kvs)) c = some u := fun c u e n => by
      rw [upd_ne n]
      exact e
    have back : ∀ {H' : Hp}, Same (upd H mv (.frz od (DX w mv vs kvs))) H' → Same H (upd H' mv (DX w mv vs kvs)) := fun {H'} s b o e => by
      by_cases hb : b = mv
      · rw [hb, upd_same]
        rw [hb, hd] at e
        exact e
      · rw [upd_ne hb]
        exact s _ _ (sf _ _ e hb)
    have ndK : (kvs.map (·.1)).Nodup := by
      rw [keysM pk]
      exact map_nd bf.nd
    have upS : ∀ {y : Addr} {xs : List V}, SqT K H y xs → SqT K (upd H mv (.frz od (DX w mv vs kvs))) y xs := fun e => sq_dx e hd
    have upT : ∀ {y : Addr} {xs : List V}, H y = some (.tup xs) → upd H mv (.frz od (DX w mv vs kvs)) y = some (.tup xs) := fun e => sf _ _ e (ne_of e hd (fun z => nomatch z))
    have upL : ∀ {y : Addr} {xs : List V}, H y = some (.lst xs) → upd H mv (.frz od (DX w mv vs kvs)) y = some (.lst xs) := fun e => sf _ _ e (ne_of e hd (fun z => nomatch z))
    have pk1 : Paired (MvD K P1 S1 (upd H mv (.frz od (DX w mv vs kvs)))) kvs Qs := prd_imp pk fun _ _ ⟨e, d, xs, e2, h1, h2⟩ => ⟨e, d, xs, e2, upL h1, prd_imp h2 fun _ _ ⟨c, b, e3, h3, h4⟩ => ⟨c, b, e3, upT h3, upS h4⟩⟩
    have kyv1 : KyA K (upd H mv (.frz od (DX w mv vs kvs))) vs kvs := prd_imp kyv fun _ _ z => upS z
    have me1 : MeeR K w CM P1 S1 Qs L R W (upd H mv (.frz od (DX w mv vs kvs))) x := by
      obtain ⟨⟨as, ks, h1, ky1, h2⟩, h3, h4⟩ := lv
      obtain ⟨⟨a2, k2, h5, ky2, h6⟩, h7, h8, h9⟩ := wy
      exact ⟨⟨dx, mv, ld, wd, sf _ _ hx (ne_of hx hd (fun z => nomatch z)), ⟨vs, kvs, .inr ⟨od, upd_same⟩, kyv1, pk1⟩, ⟨⟨as, ks, sf _ _ h1 (Ne.symm nml), prd_imp ky1 fun _ _ z => upS z, h2⟩, h3, h4⟩, ⟨⟨a2, k2, sf _ _ h5 (Ne.symm nmw), prd_imp ky2 fun _ _ z => upS z, prd_imp h6 fun _ _ ⟨e, c, e2, h⟩ => ⟨e, c, e2, upT h⟩⟩, h7, h8, h9⟩⟩, bf, br, few⟩
    have cn1 : CnH K aS aE aV (upd H mv (.frz od (DX w mv vs kvs))) := ⟨upS cn.st, upS cn.en, upS cn.ev⟩
    have hmv1 : upd H mv (.frz od (DX w mv vs kvs)) mv = some (.frz od (DX w mv vs kvs)) := upd_same
    clear upT upS upL pk cn hx sf lv kyv
    generalize upd H mv (.frz od (DX w mv vs kvs)) = H1 at back pk1 me1 cn1 hmv1 kyv1 ⊢
    have wyW := wy.2.1
    have eWW := wy.2.2.2
    have tell : ∀ {i i2 : Nat} {p : Pl} {m : Mo}, Qs[i]? = some p → (moves P1 S1 p)[i2]? = some m → m.2.2 ∈ L → oddM W p m = true → (∀ j p', j < i → Qs[j]? = some p' → ∀ m ∈ moves P1 S1 p', m.2.2 ∈ L → oddM W p' m = false) → (∀ k m', k < i2 → (moves P1 S1 p)[k]? = some m' → m'.2.2 ∈ L → oddM W p m' = false) → unlikeW P1 S1 = some (foundW P1 S1 p m) := fun {i i2 p m} hp hm hl ho n1 n2 => by
      have toL : ∀ {p' : Pl} {m' : Mo}, p' ∈ Qs → m' ∈ moves P1 S1 p' → livesB P1 S1 m'.2.2 = true → m'.2.2 ∈ L := fun {p' m'} hp' hm' hl' => by
        obtain ⟨v, k⟩ := livesB_iff.mp hl'
        obtain ⟨w0, k0⟩ := bf.reach p' hp'
        exact lv0.2 _ ((bf.all _).mpr ⟨_, k0.step (t := m'.1) (l := m'.2.1) (q := m'.2.2) hm'⟩) v k
      have no : ∀ {p' : Pl} {m' : Mo}, p' ∈ Qs → m' ∈ moves P1 S1 p' → (m'.2.2 ∈ L → oddM W p' m' = false) → oddB P1 S1 p' m' = false := fun {p' m'} hp' hm' z => by
        unfold oddB
        cases el : livesB P1 S1 m'.2.2 with
        | false => rfl
        | true => rw [Bool.true_and, ← eWW, z (toL hp' hm' el)]
      rw [eqQ] at hp
      refine odds_first hp hm ?_ (fun j p' hj e m' hm' => ?_) fun j m' hj e => ?_
      · unfold oddB
        rw [livesB_iff.mpr (lv0.1.live _ hl), ← eWW, ho]
        rfl
      · rw [← eqQ] at e
        exact no (List.mem_of_getElem? e) hm' (n1 j p' hj e m' hm')
      · rw [← eqQ] at hp
        exact no (List.mem_of_getElem? hp) (List.mem_of_getElem? e) (n2 j m' hj e)
    have QR : ∀ p, p ∈ Qs → p ∈ R := fun p hp => (br.all p).mpr ((bf.all p).mp hp)
    have h0 : wayTo W .start = ([], []) := way_start (wayTo_has wyW ((br.all .start).mpr ⟨_, .nil⟩)).2
    refine for_it (walk_keysX (w := w) (d := mv) (o := od) (as := vs) (kvs := kvs)) (fun i σ H4 => (∃ v1 v2 v3 v4 v5 v6 v7 v8 : Option V, σ = [some (.ref x), v1, v2, v3, v4, v5, v6, v7, v8]) ∧ Same H1 H4 ∧ ∀ j p, j < i → Qs[j]? = some p → ∀ m ∈ moves P1 S1 p, m.2.2 ∈ L → oddM W p m = false) ?_ ?_ ?_ ?_
    · exact ⟨⟨_, _, _, _, _, _, _, _, rfl⟩, Same.refl _, fun j p hj => absurd hj (Nat.not_lt_zero _)⟩
    · rintro i σ H4 hi ⟨_, s4, _⟩
      exact s4 _ _ hmv1
    · rintro i y σ H40 H4 hi ⟨⟨v1, v2, v3, v4, v5, v6, v7, v8, rfl⟩, s4, no⟩ ⟨rfl, qk, hbk, rfl⟩
      obtain ⟨⟨k, v⟩, hkv, hqk0⟩ := prd_at kyv1 hbk
      obtain ⟨p, hp, ek, ml⟩ := prd_at pk1 hkv
      have ek : k = plK p := ek
      subst ek
      have hqk : PlT K H4 qk p := sq_same hqk0 s4
      have hpQ : p ∈ Qs := List.mem_of_getElem? hp
      have me4 := me1.same s4
      obtain ⟨⟨dx1, mv1, ld1, wd1, hx1, am1, lv1, wy1⟩, _, _, _⟩ := id me4
      obtain ⟨vs1, kv1, v1', hr1, hky1, hv1, d0, xs, ev, hxs, prx⟩ := all_at am1 bf.nd hpQ
      subst ev
      have lx := prd_len prx
      refine ⟨_, rfl, x, CM, dx1, _, V.ref mv1, rfl, hx1, T.cl, T.n1, fM_m mv1 ld1 wd1, _, rfl, mv1, _, rfl, ⟨vs1, kv1, plK p, qk, hr1, hky1, rfl, hqk, hv1.symm⟩, d0, rfl, ⟨_, SqL.of hxs⟩, ?_⟩
      refine for_it (walk_list (K := K) (a := d0) (xs := xs)) (fun i2 σ H5 => (∃ v2 v3 v4 v5 v6 v7 v8 : Option V, σ = [some (.ref x), some (.ref qk), v2, v3, v4, v5, v6, v7, v8]) ∧ Same H4 H5 ∧ ∀ k m, k < i2 → (moves P1 S1 p)[k]? = some m → m.2.2 ∈ L → oddM W p m = false) ?_ ?_ ?_ ?_
      · exact ⟨⟨_, _, _, _, _, _, _, rfl⟩, Same.refl _, fun k m hk => absurd hk (Nat.not_lt_zero _)⟩
      · rintro i2 σ H5 hi2 ⟨_, s5, _⟩
        exact SqL.of (s5 _ _ hxs)
      · rintro i2 y σ H50 H5 hi2 ⟨⟨v2, v3, v4, v5, v6, v7, v8, rfl⟩, s5, no5⟩ ⟨rfl, hy⟩
        obtain ⟨m, hm, mo⟩ := prd_at prx hy
        obtain ⟨c, b4, rfl, hc5, hb5⟩ := mo.same s5
        have hmm : m ∈ moves P1 S1 p := List.mem_of_getElem? hm
        have me5 := me4.same s5
        have cn5 := (cn1.same s4).same s5
        obtain ⟨⟨dx2, mv2, ld2, wd2, hx2, am2, lv2, wy2⟩, _, _, _⟩ := id me5
        obtain ⟨al, kl, hl2, hkl, kL⟩ := lv2.at_
        have next : oddM W p m = false ∨ m.2.2 ∉ L → ∀ k m', k < i2 + 1 → (moves P1 S1 p)[k]? = some m' → m'.2.2 ∈ L → oddM W p m' = false := fun z k m' hk e hL => by
          by_cases hk2 : k < i2
          · exact no5 k m' hk2 e hL
          · have : k = i2 := by omega
            subst this
            rw [hm] at e
            cases e
            rcases z with z | z
            · exact z
            · exact absurd hL z
        refine ⟨c, _, rfl, .inl (.inl hc5), rfl, _, _, rfl, _, _, rfl, _, _, rfl, rfl, ?_⟩
        refine ⟨_, rfl, _, rfl, x, CM, dx2, _, V.ref ld2, rfl, hx2, T.cl, T.n2, fM_l mv2 ld2 wd2, ld2, _, rfl, DGetY.t (k := plK m.2.2) hl2 hkl hb5, _, rfl, ?_⟩
        rw [keysP_is kL]
        by_cases hin : m.2.2 ∈ L
        · rw [decide_eq_true hin]
          refine iteT ?_
          have hqk5 := sq_same hqk s5
          obtain ⟨aw, kw, cw, hw1, hwk, hw2, hw3, kw4, lw5⟩ := wys_at wy2 br.nd (QR p hpQ)
          have lw : (wayTo W p).1.length + (wayTo W p).2.length ≤ 600 := lw5
          refine ⟨_, rfl, x, CM, dx2, _, V.ref wd2, rfl, hx2, T.cl, T.n3, fM_w mv2 ld2 wd2, _, rfl, wd2, _, rfl, (by rw [← hw2]; exact DGetY.t (k := plK p) hw1 hwk hqk5), _, rfl, _, rfl, cw, wayTo W p, m.1, m.2.1, rfl, hw3, by omega, by omega, fun ca H6 s6 hca => ?_⟩
          have kst : Way P1 S1 .start m.2.2 (put m.1 m.2.1 (wayTo W p)) := kw4.step (t := m.1) (l := m.2.1) (q := m.2.2) hmm
          have ltw := way_lt lP lS kst
          have l6 : (put m.1 m.2.1 (wayTo W p)).1.length + (put m.1 m.2.1 (wayTo W p)).2.length ≤ 601 := by
            have := wput_len m.1 m.2.1 (wayTo W p)
            unfold wlen at this
            omega
          have l6w : wlen (put m.1 m.2.1 (wayTo W p)) ≤ 601 := l6
          refine ⟨_, rfl, ca, _, rfl, hca, by omega, by omega, fun lv_ H7 s7 hl7 => ?_⟩
          have hqR : m.2.2 ∈ R := (br.all _).mpr ⟨_, kst⟩
          have s57 : Same H5 H7 := fun b o e => s7 _ _ (s6 _ _ e)
          have me7 := me5.same s57
          have cn7 := cn5.same s57
          have hb7 := sq_same hb5 s57
          obtain ⟨⟨dx7, mv7, ld7, wd7, hx7, am7, lvv7, wy7⟩, _, _, _⟩ := id me7
          obtain ⟨aq0, kq0, cq0, hq10, hqk0, hq20, hq30, kq40, lq50⟩ := wys_at wy7 br.nd hqR
          have lq0 : (wayTo W m.2.2).1.length + (wayTo W m.2.2).2.length ≤ 600 := lq50
          have pok := reach_ok nP okP okS kst
          refine via (t := tIf (tTest (tOp (rEqD K) (tVar 4) (tC (V.ref aE)))) (tC (V.ref aV)) (tCall (spLead K) [] E0 (tCons (tDGetY w K (tFld K (tVar 0) "ways") (tVar 4)) tNil))) (fun kv H8 => Same H7 H8 ∧ LdO K H8 kv (known (wayTo W) m.2.2)) (fun R' hR => ?_) (fun kv H8 z => ?_)
          · refine ⟨_, rfl, plD m.2.2, plD .fin, pl_dp hb7, pl_dp cn7.en, pl_shaped pok, pl_shaped True.intro, _, rfl, ?_⟩
            rw [pl_eqv]
            by_cases ef : m.2.2 = .fin
            · rw [decide_eq_true ef]
              refine iteT (hR _ _ ⟨Same.refl _, ?_⟩)
              rw [ef]
              exact ⟨aV, rfl, cn7.ev⟩
            · rw [decide_eq_false ef]
              refine iteF ⟨_, rfl, x, CM, dx7, _, V.ref wd7, rfl, hx7, T.cl, T.n3, fM_w mv7 ld7 wd7, _, rfl, wd7, _, rfl, (by rw [← hq20]; exact DGetY.t (k := plK m.2.2) hq10 hqk0 hb7), cq0, _, rfl, hq30, by omega, by omega, fun kv H8 s8 h8 => hR _ _ ⟨s8, ?_⟩⟩
              have e : known (wayTo W) m.2.2 = lead (wayTo W m.2.2) := by
                cases eq : m.2.2 with
                | fin => exact absurd eq ef
                | start => rfl
                | rest a r => rfl
              rw [e]
              exact h8
          obtain ⟨s8, hk8⟩ := z
          have s58 : Same H5 H8 := fun b o e => s8 _ _ (s57 _ _ e)
          have hca8 := s8 _ _ (s7 _ _ hca)
          have hb8 := sq_same hb5 s58
          have hl8 : LdO K H8 lv_ (lead (put m.1 m.2.1 (wayTo W p))) := by
            cases e : lead (put m.1 m.2.1 (wayTo W p)) with
            | none =>
              rw [e] at hl7
              exact hl7
            | some k =>
              rw [e] at hl7
              obtain ⟨b, e2, h⟩ := hl7
              exact ⟨b, e2, sq_same h s8⟩
          cases el : lead (put m.1 m.2.1 (wayTo W p)) with
          | none =>
            rw [el] at hl8
            have hl8 : lv_ = .non := hl8
            subst hl8
            have hodd : oddM W p m = true := by
              unfold oddM
              rw [el]
            refine ⟨_, rfl, rfl, true, rfl, iteT ?_⟩
            obtain ⟨v0, k0⟩ := lv0.1.live _ hin
            have hqQ : m.2.2 ∈ Qs := (bf.all _).mpr ⟨_, kst⟩
            refine ⟨_, rfl, _, rfl, _, rfl, x, ca, b4, P1, S1, Qs, L, R, W, put m.1 m.2.1 (wayTo W p), m.2.2, rfl, me5.same s58, cn5.same s58, hca8, by omega, hb8, hqQ, ⟨v0, k0⟩, okP, okS, fun e1 v1 H9 s9 kv1 he1 lv1 ev1 => ?_⟩
            obtain ⟨o1, o2, o3⟩ := odd_meets br wyW (QR p hpQ) hmm kv1 hodd
            have l9 : v1.1.length + v1.2.length ≤ 600 := lv1
            have s59 : Same H5 H9 := fun b o e => s9 _ _ (s58 _ _ e)
            have me9 := me5.same s59
            obtain ⟨⟨dx9, mv9, ld9, wd9, hx9, am9, lvv9, wy9⟩, _, _, _⟩ := id me9
            refine ⟨_, rfl, e1, _, _, _, rfl, rfl, .inl (.inl he1), atI_nat (j := 0) rfl, _, rfl, e1, _, _, _, rfl, rfl, .inl (.inl he1), atI_nat (j := 1) rfl, rfl, _, rfl, ?_⟩
            rw [Sx_eq]
            by_cases eq1 : (put m.1 m.2.1 (wayTo W p)).1 ++ v1.1 = (put m.1 m.2.1 (wayTo W p)).2 ++ v1.2
            · rw [decide_eq_true eq1]
              obtain ⟨aq, kq, cq, hq1, hqky, hq2, hq3, kq4, lq5⟩ := wys_at wy9 br.nd (QR _ hqQ)
              refine iteT ⟨_, rfl, _, rfl, x, CM, dx9, _, V.ref wd9, rfl, hx9, T.cl, T.n3, fM_w mv9 ld9 wd9, _, rfl, wd9, _, rfl, (by rw [← hq2]; exact DGetY.t (k := plK m.2.2) hq1 hqky (sq_same hb5 s59)), _, rfl, x, cq, b4, P1, S1, Qs, L, R, W, wayTo W m.2.2, m.2.2, rfl, me9, cn5.same s59, hq3, by omega, sq_same hb5 s59, hqQ, ⟨v0, k0⟩, okP, okS, fun e2 v2 H10 s10 kv2 he2 lv2 ev2 => ?_⟩
              have ev : v2 = v1 := ev2.trans ev1.symm
              rw [ev] at kv2 he2 lv2
              have sA : Same H1 H10 := fun b o e => s10 _ _ (s59 _ _ (s5 _ _ (s4 _ _ e)))
              have lq : (wayTo W m.2.2).1.length + (wayTo W m.2.2).2.length ≤ 600 := lq5
              exact ⟨sA _ _ hmv1, qf e2 _ _ (back sA) (by show upd _ _ _ _ = _; rw [upd_ne (ne_of he2 (sA _ _ hmv1) (fun z => nomatch z))]; exact he2) o2 (o3 eq1) (by rw [wlen_app]; unfold wlen; omega) (by
                rw [tell hp hm hin hodd no no5]
                unfold foundW
                rw [← eWW, ← ev1, if_pos eq1])⟩
            · rw [decide_eq_false eq1]
              have sA : Same H1 H9 := fun b o e => s59 _ _ (s5 _ _ (s4 _ _ e))
              exact iteF ⟨_, rfl, sA _ _ hmv1, qf e1 _ _ (back sA) (by show upd _ _ _ _ = _; rw [upd_ne (ne_of he1 (sA _ _ hmv1) (fun z => nomatch z))]; exact he1) o1 eq1 (by rw [wlen_app]; unfold wlen; omega) (by
                rw [tell hp hm hin hodd no no5]
                unfold foundW
                rw [← eWW, ← ev1, if_neg eq1])⟩
          | some k =>
            rw [el] at hl8
            have hl9 := hl8
            obtain ⟨bk, rfl, hbk⟩ := hl8
            have hkn : ∀ j, known (wayTo W) m.2.2 = some j → ∀ c ∈ j.2, isLt c := fun j e => by
              cases eq : m.2.2 with
              | fin =>
                rw [eq] at e
                cases e
                exact fun c hc => absurd hc List.not_mem_nil
              | start =>
                rw [eq] at e
                rw [h0] at *
                exact lead_lt (w := wayTo W .start) (way_lt lP lS (wayTo_has wyW ((br.all .start).mpr ⟨_, .nil⟩)).2) e
              | rest a r =>
                rw [eq] at e kq40
                exact lead_lt (way_lt lP lS kq40) e
            refine ⟨_, rfl, rfl, false, rfl, iteF ⟨_, rfl, _, rfl, ldD (some k), ldD (known (wayTo W) m.2.2), ld_dp hl9, ld_dp hk8, ld_shaped (fun j e => by cases e; exact lead_lt ltw el), ld_shaped hkn, _, rfl, ?_⟩⟩
            rw [ld_eqv]
            by_cases ek2 : known (wayTo W) m.2.2 = some k
            · rw [decide_eq_true ek2]
              refine iteF ⟨⟨_, _, _, _, _, _, _, rfl⟩, fun b o e => s58 _ _ (s5 _ _ e), next (.inl ?_)⟩
              unfold oddM
              rw [el]
              exact decide_eq_false fun z => z ek2
            · rw [decide_eq_false ek2]
              have hodd : oddM W p m = true := by
                unfold oddM
                rw [el]
                exact decide_eq_true ek2
              refine iteT ?_
              obtain ⟨v0, k0⟩ := lv0.1.live _ hin
              have hqQ : m.2.2 ∈ Qs := (bf.all _).mpr ⟨_, kst⟩
              refine ⟨_, rfl, _, rfl, _, rfl, x, ca, b4, P1, S1, Qs, L, R, W, put m.1 m.2.1 (wayTo W p), m.2.2, rfl, me5.same s58, cn5.same s58, hca8, by omega, hb8, hqQ, ⟨v0, k0⟩, okP, okS, fun e1 v1 H9 s9 kv1 he1 lv1 ev1 => ?_⟩
              obtain ⟨o1, o2, o3⟩ := odd_meets br wyW (QR p hpQ) hmm kv1 hodd
              have l9 : v1.1.length + v1.2.length ≤ 600 := lv1
              have s59 : Same H5 H9 := fun b o e => s9 _ _ (s58 _ _ e)
              have me9 := me5.same s59
              obtain ⟨⟨dx9, mv9, ld9, wd9, hx9, am9, lvv9, wy9⟩, _, _, _⟩ := id me9
              refine ⟨_, rfl, e1, _, _, _, rfl, rfl, .inl (.inl he1), atI_nat (j := 0) rfl, _, rfl, e1, _, _, _, rfl, rfl, .inl (.inl he1), atI_nat (j := 1) rfl, rfl, _, rfl, ?_⟩
              rw [Sx_eq]
              by_cases eq1 : (put m.1 m.2.1 (wayTo W p)).1 ++ v1.1 = (put m.1 m.2.1 (wayTo W p)).2 ++ v1.2
              · rw [decide_eq_true eq1]
                obtain ⟨aq, kq, cq, hq1, hqky, hq2, hq3, kq4, lq5⟩ := wys_at wy9 br.nd (QR _ hqQ)
                refine iteT ⟨_, rfl, _, rfl, x, CM, dx9, _, V.ref wd9, rfl, hx9, T.cl, T.n3, fM_w mv9 ld9 wd9, _, rfl, wd9, _, rfl, (by rw [← hq2]; exact DGetY.t (k := plK m.2.2) hq1 hqky (sq_same hb5 s59)), _, rfl, x, cq, b4, P1, S1, Qs, L, R, W, wayTo W m.2.2, m.2.2, rfl, me9, cn5.same s59, hq3, by omega, sq_same hb5 s59, hqQ, ⟨v0, k0⟩, okP, okS, fun e2 v2 H10 s10 kv2 he2 lv2 ev2 => ?_⟩
                have ev : v2 = v1 := ev2.trans ev1.symm
                rw [ev] at kv2 he2 lv2
                have sA : Same H1 H10 := fun b o e => s10 _ _ (s59 _ _ (s5 _ _ (s4 _ _ e)))
                have lq : (wayTo W m.2.2).1.length + (wayTo W m.2.2).2.length ≤ 600 := lq5
                exact ⟨sA _ _ hmv1, qf e2 _ _ (back sA) (by show upd _ _ _ _ = _; rw [upd_ne (ne_of he2 (sA _ _ hmv1) (fun z => nomatch z))]; exact he2) o2 (o3 eq1) (by rw [wlen_app]; unfold wlen; omega) (by
                rw [tell hp hm hin hodd no no5]
                unfold foundW
                rw [← eWW, ← ev1, if_pos eq1])⟩
              · rw [decide_eq_false eq1]
                have sA : Same H1 H9 := fun b o e => s59 _ _ (s5 _ _ (s4 _ _ e))
                exact iteF ⟨_, rfl, sA _ _ hmv1, qf e1 _ _ (back sA) (by show upd _ _ _ _ = _; rw [upd_ne (ne_of he1 (sA _ _ hmv1) (fun z => nomatch z))]; exact he1) o1 eq1 (by rw [wlen_app]; unfold wlen; omega) (by
                rw [tell hp hm hin hodd no no5]
                unfold foundW
                rw [← eWW, ← ev1, if_neg eq1])⟩
        · rw [decide_eq_false hin]
          exact iteF ⟨⟨_, _, _, _, _, _, _, rfl⟩, s5, next (.inr hin)⟩
      · rintro σ H5 ⟨⟨v2, v3, v4, v5, v6, v7, v8, rfl⟩, s5, no5⟩
        refine ⟨⟨_, _, _, _, _, _, _, _, rfl⟩, fun b o e => s5 _ _ (s4 _ _ e), fun j p' hj e m hm hl => ?_⟩
        by_cases hj2 : j < i
        · exact no j p' hj2 e m hm hl
        · have : j = i := by omega
          subst this
          rw [hp] at e
          cases e
          obtain ⟨k, hk, ek⟩ := List.getElem_of_mem hm
          exact no5 k m (by rw [lx]; exact hk) (by rw [List.getElem?_eq_getElem hk, ek]) hl
    · rintro σ H4 ⟨⟨v1, v2, v3, v4, v5, v6, v7, v8, rfl⟩, s4, no⟩
      refine ⟨s4 _ _ hmv1, qn ?_ _ (back s4)⟩
      refine alike_no (L := L) br wyW h0 (fun p hp v k => lv0.2 p ((bf.all p).mpr ((br.all p).mp hp)) v k) fun p hp m hm hl => ?_
      obtain ⟨j, hj, ej⟩ := List.getElem_of_mem ((bf.all p).mpr ((br.all p).mp hp))
      exact no j p (by rw [lvs, lkv]; exact hj) (by rw [List.getElem?_eq_getElem hj, ej]) m hm hl
end
end V8
set_option Elab.async false
set_option linter.all false
/-! Lists of texts that are sorted: one order only. -/
namespace MZ
open PySem PySem.Spec PyProof.Rows
theorem pw_perm_eq {α : Type} {r : α → α → Prop} (anti : ∀ a b, r a b → r b a → a = b) : ∀ {l m : List α}, l.Pairwise r → m.Pairwise r → l.Perm m → l = m
  | [], m, _, _, h => (List.Perm.nil_eq h)
  | a :: l, [], _, _, h => absurd (List.Perm.length_eq h) (by simp)
  | a :: l, b :: m, hl, hm, h => by
    have hab : a = b := by
      rcases List.mem_cons.mp (h.mem_iff.mp (List.mem_cons_self (a := a) (l := l))) with e | e
      · exact e
      · rcases List.mem_cons.mp (h.mem_iff.mpr (List.mem_cons_self (a := b) (l := m))) with e2 | e2
        · exact e2.symm
        · exact anti a b (List.rel_of_pairwise_cons hl e2) (List.rel_of_pairwise_cons hm e)
    subst hab
    rw [pw_perm_eq anti (List.Pairwise.of_cons hl) (List.Pairwise.of_cons hm) (List.Perm.cons_inv h)]
def leS (a b : Str) : Prop := ¬ b.cps.toList < a.cps.toList
theorem leS_trans {a b c : Str} (h : leS a b) (k : leS b c) : leS a c := List.not_lt.mpr (List.le_trans (List.not_lt.mp h) (List.not_lt.mp k))
theorem leS_anti (a b : Str) (h : leS a b) (k : leS b a) : a = b := by
  have e := List.le_antisymm (List.not_lt.mp h) (List.not_lt.mp k)
  cases a with
  | mk x =>
    cases b with
    | mk y =>
      have e : x.toList = y.toList := e
      rw [Array.toList_inj.mp e]
theorem rise_pwS : ∀ (l : List Str) (p : Str), risingS p l = true → (p :: l).Pairwise leS
  | [], p, _ => by simp
  | x :: r, p, h => by
    unfold risingS at h
    rw [Bool.and_eq_true] at h
    obtain ⟨h1, h2⟩ := h
    have ih := rise_pwS r x h2
    have hx : leS p x := fun z => by
      rw [ltCps_eq, decide_eq_true z] at h1
      cases h1
    refine List.Pairwise.cons (fun y hy => ?_) ih
    rcases List.mem_cons.mp hy with rfl | hy
    · exact hx
    · exact leS_trans hx (List.rel_of_pairwise_cons ih hy)
theorem sorted_pwS : ∀ {l : List Str}, sortedS l = true → l.Pairwise leS
  | [], _ => List.Pairwise.nil
  | x :: r, h => rise_pwS r x h
theorem sorted_one {l m : List Str} (h : sortedS l = true) (k : sortedS m = true) (p : l.Perm m) : l = m := pw_perm_eq leS_anti (sorted_pwS h) (sorted_pwS k) p
end MZ
set_option Elab.async false
set_option linter.all false
set_option maxRecDepth 100000
set_option maxHeartbeats 4000000
/-! Own classes by their names; a def by one keyword; bool(o) by an own __bool__. -/
namespace BoO
open PySem PySem.Spec PyProof.Rows
theorem bool_new_in (prog : Program) (w : World) (x : Value) (hx : ∀ b, x ≠ .bool b) (hn : x ≠ .none) :
    MeetsIn prog w (Builtin.«bool.__new__» ⟨[.type "bool", x], []⟩) (fun A R s => wpAny (model prog w) A.in1 (truthy x) (fun b s' => R (.ok (.ret (.bool b))) s') (fun e s' => R (.error e) s') s) :=
  .of_wp fun A R s hs => by
    obtain ⟨hp, g, d, tk, os⟩ := s
    have f1 := F.conv_sub_bool
    repeat (any_goals (first | assumption | (with_reducible refine wpAny_mono hs (fun _ _ h => ?_) fun _ _ h => ?_) | wp_step))
    all_goals first | exact ⟨_, rfl, h⟩ | exact h | skip
end BoO
namespace L2
open PySem PySem.Spec PyProof.Rows BoO
section
variable {X : Cx} {n k j : Nat} {CX : CXT} {C f : Addr} {fd : FuncData} {ps ks : List Str} {sp : Sp} {E : XK}
theorem call_boolOwn (F : FnOk X.prog X.w X.K X.mg X.base CX n f fd ps sp) (hb : Binds X.K fd ps []) (hx : Passes CX X E) (o : Own X.K C "__bool__" f) (hr : Room (n + 2) X.A) :
    CallR X (.type "bool") (fun xs H Q => ∃ a dx fs, xs = [.ref a] ∧ H a = some (.ins C dx fs) ∧ sp [.ref a] H (fun v H' => ∃ b, v = .bl b ∧ Q (.bl b) H') E) := by
  intro pins s σ H xs us Q I r h
  obtain ⟨a, dx, fs, rfl, ha, hs⟩ := h
  obtain ⟨u, rfl, rx⟩ := vals1 r
  cases rx
  obtain ⟨od, J⟩ := inst_at I ha
  obtain ⟨m, hF⟩ := I.fr
  refine callType_newIn PySem.F.called_bool PySem.F.newNe_bool (PySem.F.typeCall_bool_1 _) (PySem.F.newCall_bool_1 _) (fun obj => PySem.F.args_object_init_2 obj _) PySem.F.entry_bool_new (bool_new_in X.prog X.w (.ref a) (fun _ z => nomatch z) (fun z => nomatch z)) ?_
  refine PySem.W.truthy_K hF I.ok.mod.kin J o.find o.fn (thn (run_own (Sub.here hr).in1.in1 F hb hx I (show Vals [V.ref a] [Value.ref a] from .cons rfl .nil) hs) fun v s' q => ?_)
  obtain ⟨y, H', I', ry, b, rfl, q⟩ := q
  cases ry
  exact ⟨rfl, .bl b, H', I', rfl, q⟩
theorem call_boolO (c : Mf X.prog X.w X.K X.mg X.base k C "__bool__" sp) (hr : Room j X.A) (hk : k + 2 ≤ j) :
    CallR X (.type "bool") (fun xs H Q => ∃ a dx fs, xs = [.ref a] ∧ H a = some (.ins C dx fs) ∧ sp [.ref a] H (fun v H' => ∃ b, v = .bl b ∧ Q (.bl b) H') E0) := by
  obtain ⟨f, fd, ps, F, _, o, _, b⟩ := c.ex
  exact call_boolOwn F b pass0 o (hr.mono hk)
end
/-- a class of the text by its name: its __init__ has no defaults -/
structure MkC (P : Program) (w : World) (K : PySem.W.Frag) (mg : Str → Option Value) (base : Heap) (k : Nat) (C : Addr) (x : Str) (sp : Sp) : Prop where
  ex : ∃ (f : Addr) (fd : FuncData) (ps : List Str), Mk K C f ∧ FnOk P w K mg base CX0 k f fd ps sp ∧ mg x = some (.ref C) ∧ Binds K fd ps []
section
variable {X : Cx} {n k j : Nat} {C : Addr} {x : Str} {ks : List Str} {gV : List V → List V → List V} {sp : Sp} {p pos : Pos} {e : Expr} {es : List Expr} {kws : List Keyword} {t tk : TA}
theorem pe_mkC (M : MkC X.prog X.w X.K X.mg X.base k C x sp) (hr : Room j X.A) (hj : k + 1 ≤ j) (hg : Gl X x) (ha : PA X (e :: es) t) (hdb : (x == ("__debug__" : Str)) = false := by decide)
    (he : starEach (e :: es) X.env = (false, eval e X.env) :: starEach es X.env := by rfl) (hpl : (backTo pos (starEach es X.env)).any (·.1) = false := by rfl) : PE X (.Call (.Name x p) (e :: es) [] pos) (tMake C sp [] E0 t) := by
  obtain ⟨f, fd, ps, M, F, hm, b⟩ := M.ex
  exact pe_make M F (hr.mono hj) hg hm b .nil pass0 ha hdb he hpl
end
end L2
set_option Elab.async false
set_option linter.all false
set_option maxRecDepth 100000
set_option maxHeartbeats 4000000
/-! Such a dict whose keys are all texts is a dict of texts. -/
namespace L2
open PySem PySem.Spec PyProof.Rows MX
end L2
set_option Elab.async false
set_option linter.all false
set_option maxRecDepth 100000
set_option maxHeartbeats 4000000
/-! len(set(xs)), xs a list of any texts. -/
namespace SetT
open PySem PySem.Spec PyProof.Rows
/-- one more, unless it is there -/
def add1 (acc : List Str) (y : Str) : List Str := if y ∈ acc then acc else acc ++ [y]
/-- each once, as first met -/
def uqs (ys : List Str) : List Str := ys.foldl add1 []
theorem uqs_snoc (ys : List Str) (y : Str) : uqs (ys ++ [y]) = add1 (uqs ys) y := by
  unfold uqs
  rw [List.foldl_append]
  rfl
theorem mem_add1 {acc : List Str} {x y : Str} : x ∈ add1 acc y ↔ x ∈ acc ∨ x = y := by
  unfold add1
  split
  · rename_i h
    exact ⟨.inl, fun z => z.elim id fun e => e ▸ h⟩
  · rw [List.mem_append, List.mem_singleton]
theorem len_add1 (acc : List Str) (y : Str) : (add1 acc y).length = if y ∈ acc then acc.length else acc.length + 1 := by
  unfold add1
  split
  · rfl
  · rw [List.length_append]
    rfl
theorem len_fold : ∀ (ys acc : List Str), (ys.foldl add1 acc).length ≤ acc.length + ys.length
  | [], _ => Nat.le_refl _
  | y :: ys, acc => by
    have h1 := len_fold ys (add1 acc y)
    have h2 : (add1 acc y).length ≤ acc.length + 1 := by
      rw [len_add1]
      split <;> omega
    rw [List.foldl_cons, List.length_cons]
    omega
theorem uqs_len (ys : List Str) : (uqs ys).length ≤ ys.length := by
  have h := len_fold ys []
  show (ys.foldl add1 []).length ≤ ys.length
  simpa using h
section
variable {P : Program} {w : World} {A : Around} {R : Result → Shared → Prop} {J : Addr} {fr ws : List Addr} {G : Array GenState → Array GenState → Prop} {n : Nat} {Pv : Nat → Value → Prop} {St : Nat → Shared → Prop}
theorem setOf_moved {h g : Heap} {D : Addr} {S : Str → Bool} {m : Nat} (x : h.SetOf (strKind P w) D S m) (e : ∀ o, h.get? D = some o → g.get? D = some o) : g.SetOf (strKind P w) D S m := by
  obtain ⟨o, es, ep, t, ho, r⟩ := x
  exact ⟨o, es, ep, t, e o ho, r⟩
theorem fill_texts (W : WalksS P w A.in1 J fr ws G n Pv St) (D : Addr) (off : D ∉ fr) (ys : List Str) (many : ys.length = n) (few : n ≤ 4000) (val : ∀ j v, Pv j v → ∃ tk, v = .str (ys.getD j Str.empty) tk) :
    ∀ (left j : Nat) (z : Shared), n - j = left → j ≤ n → St j z → z.heap.SetOf (strKind P w) D (fun y => decide (y ∈ uqs (ys.take j))) (uqs (ys.take j)).length →
      (∀ z2, Moved (D :: ws) G z z2 → z2.heap.SetOf (strKind P w) D (fun y => decide (y ∈ uqs ys)) (uqs ys).length → R (.ok (.ret .none)) z2) →
      codeAny (model P w) A (.builtin "set.update.loop" ⟨[.ref D, .ref J], []⟩) R z := by
  have away : D ∉ ws := fun q => off (W.sub _ q)
  have more : ∀ b ∈ ws, b ∈ D :: ws := fun b q => List.mem_cons_of_mem _ q
  intro left
  induction left with
  | zero =>
    intro j z hl hj st set out
    obtain rfl : j = n := by omega
    rw [List.take_of_length_le (by omega)] at set
    refine codeAny_builtin PyProof.Rows.F.entry_set_update_loop ?_
    rw [Around.under_plainId PyProof.Rows.F.plain_set_update_loop _]
    show wpAny _ A.in1 (pyNext (.ref J) >>= _) _ _ z
    refine wpAny_bind (W.done z _ _ st fun z2 mv => ?_)
    show wpAny _ A.in1 (ret Value.none) _ _ z2
    exact wpAny_pure (out z2 (mv.mono more) (setOf_moved set fun o e => mv.heap D _ away e))
  | succ left ih =>
    intro j z hl hj st set out
    have lt : j < n := by omega
    refine codeAny_builtin PyProof.Rows.F.entry_set_update_loop ?_
    rw [Around.under_plainId PyProof.Rows.F.plain_set_update_loop _]
    show wpAny _ A.in1 (pyNext (.ref J) >>= _) _ _ z
    refine wpAny_bind (W.item j z _ _ lt st fun v z2 pv st2 mv => ?_)
    obtain ⟨tk, rfl⟩ := val j v pv
    have set2 := setOf_moved set fun o e => mv.heap D _ away e
    have at_ : ys[j]? = some (ys.getD j Str.empty) := by
      rw [List.getD_eq_getElem?_getD, List.getElem?_eq_getElem (by omega)]
      rfl
    show wpAny _ A.in1 (holding [Value.str (ys.getD j Str.empty) tk] (setAdd D (.str (ys.getD j Str.empty) tk)) >>= _) _ _ z2
    refine wpAny_bind (wpAny_holding ?_)
    unfold setAdd
    refine wpAny_holding ?_
    refine wpAny_bind ((PySem.strKind P w).pyHash (k := ys.getD j Str.empty) (strKind_is _ _ _ _) ?_)
    have l1 := uqs_len (ys.take j)
    have l2 : (ys.take j).length ≤ j := by
      rw [List.length_take]
      omega
    refine wpAny_setAddHashed_of (knd := PySem.strKind P w) (s := { z2 with toks := z2.toks + 1 }) (strKind_is _ _ _ _) rfl set2 (by unfold scanBound; omega) fun g sb set3 => ?_
    have set4 : g.SetOf (PySem.strKind P w) D (fun y => decide (y ∈ uqs (ys.take (j + 1)))) (uqs (ys.take (j + 1))).length := by
      have e : ys.take (j + 1) = ys.take j ++ [ys.getD j Str.empty] := by rw [List.take_add_one, at_]; rfl
      rw [e, uqs_snoc]
      refine SetOf_congr set3 (fun y => ?_) ?_
      · rw [Bool.eq_iff_iff, Bool.or_eq_true, decide_eq_true_iff, decide_eq_true_iff, decide_eq_true_iff, mem_add1]
      · rw [len_add1]
        by_cases q : ys.getD j Str.empty ∈ uqs (ys.take j)
        · rw [if_pos q, if_pos (decide_eq_true q)]
        · rw [if_neg q, if_neg (by rw [decide_eq_false q]; exact Bool.false_ne_true)]
    refine wpAny_pure ⟨plainId_quiet PyProof.Rows.F.plain_set_update_loop _, ih (j + 1) _ (by omega) lt (W.frame _ z2 _ _ st2 (Nat.le_succ _) fun b q o e => ?_) set4 fun z3 mv3 set5 => ?_⟩
    · rw [sb.2 b (fun u : b = D => off (by rw [← u]; exact q))]
      exact e
    · refine out z3 (Moved.trans W.gtrans ((mv.mono more).then_heap (Nat.le_succ _) fun b o q e => ?_) mv3) set5
      rw [sb.2 b (fun u : b = D => q (by rw [u]; exact List.mem_cons_self))]
      exact e
end
section
variable {P : Program} {w : World} {A : Around} {E : Value → Shared → Prop} {z : Shared}
set_option maxHeartbeats 3200000 in
theorem set_texts {l : Addr} {its : Array Value} {ys : List Str} {Q : Value → Shared → Prop} (calm : A.handled = none) (at_ : z.heap.IsList l its) (txt : PyProof.Rows.StrsAre its.toList ys) (few : ys.length ≤ 4000)
    (go : ∀ (g : Heap) (tk : Nat), g.SetOf (PySem.strKind P w) z.heap.objs.size (fun y => decide (y ∈ uqs ys)) (uqs ys).length → (∀ b o, b < z.heap.objs.size → z.heap.get? b = some o → g.get? b = some o) → Q (.ref z.heap.objs.size) { z with heap := g, toks := tk }) :
    wpAny (model P w) A (call (.type "set") [.ref l]) Q E z := by
  obtain ⟨cc, tll, hmro2⟩ := PySem.F.called_set.mro
  have made2 := PySem.F.called_set.made
  have sub2 := PySem.F.called_set.sub
  refine wpAny_call (codeAny_of_tree ?_)
  show wpAny _ _ (callAny (.type "set") _) _ _ _
  refine wpAny_pure ⟨Code.quiet_builtin _ (by decide +kernel), codeAny_builtin PySem.F.entry_type_call ?_⟩
  rw [Around.under_plain (weight_type_call_type "set" [.ref l] []) rfl]
  have nt2 := PySem.F.called_set.notType
  have cr2 := PySem.F.called_set.canCreate
  have tc2 := PySem.F.typeCall_set_1 (.ref l)
  repeat (any_goals (first | assumption | wp_step))
  refine codeAny_mono (code_set_new_1 (.ref l) (E := E) (Q₁ := fun ob z1 => ∃ led : Bool, ob = .ref z.heap.objs.size ∧ z1 = { z with heap := z.heap.push { cls := .type "set", dict := none, data := .set #[] 0 (.fresh 0 0 led) } }) fun led => ⟨led, rfl, rfl⟩) fun r z1 hr => ?_
  match r, hr with
  | .error e, hr => exact hr
  | .ok .next, hr => exact hr.elim
  | .ok .brk, hr => exact hr.elim
  | .ok .cont, hr => exact hr.elim
  | .ok (.ret ob), hr =>
    obtain ⟨led, rfl, rfl⟩ := hr
    have new2 : (z.heap.push { cls := .type "set", dict := none, data := .set #[] 0 (.fresh 0 0 led) }).get? z.heap.objs.size = some { cls := .type "set", dict := none, data := .set #[] 0 (.fresh 0 0 led) } := Heap.get?_push_size _ rfl
    have ty2 : Shared.TypeIs { z with heap := z.heap.push { cls := .type "set", dict := none, data := .set #[] 0 (.fresh 0 0 led) } } (.ref z.heap.objs.size) "set" := ⟨_, new2, rfl⟩
    have li2 := PySem.F.called_set.init.lookup
    have bi2 := PySem.F.called_set.init.bind (.ref z.heap.objs.size)
    repeat (any_goals (first | assumption | wp_step))
    refine codeAny_mono (codeAny_call_builtin (R := wants (fun r z2 => r = .none ∧ ∃ g tk, z2 = { z with heap := g, toks := tk } ∧ g.SetOf (PySem.strKind P w) z.heap.objs.size (fun y => decide (y ∈ uqs ys)) (uqs ys).length ∧
        (∀ b o, b < z.heap.objs.size → z.heap.get? b = some o → g.get? b = some o)) E) PySem.F.called_set.init.plain PySem.F.entry_set_init (check_set_init_1 ty2 ?_)) fun r2 z2 hr2 => ?_
    · obtain ⟨⟨c0, d0, t0, s0⟩, o1, o2, n2, o3⟩ := at_
      simp only at o2 o3
      subst o2
      subst o3
      have at2 : (z.heap.push { cls := .type "set", dict := none, data := .set #[] 0 (.fresh 0 0 led) }).get? l = some { cls := .type "list", dict := d0, data := .seq its n2, slots := s0 } := Heap.get?_push_of_some _ o1
      have sl1 := PySem.F.sub_list_set
      have sl2 := PySem.F.sub_list_frozenset
      have ned : (Value.type "list" == Value.type "dict") = false := by decide
      have at3 : (z.heap.push { cls := .type "set", dict := none, data := .set #[] 0 (.fresh 0 0 led) }).IsList l its := ⟨_, at2, rfl, n2, rfl⟩
      unfold Builtin.«set.__init__» noKeywords Builtin.Frozenset.updateFrom
      generalize hIT : pyIter = IT
      wp_walk
      subst hIT
      refine wpAny_pyIter_list at3 ?_
      refine wpAny_bind (wpAny_runValue ?_)
      have ll : l < z.heap.objs.size := Heap.lt_size o1
      have calm3 : A.in1.in1.in1.handled = none := by simp [calm]
      have ne3 : l ≠ (z.heap.push { cls := .type "set", dict := none, data := .set #[] 0 (.fresh 0 0 led) }).objs.size := by
        rw [Heap.size_push]
        exact Nat.ne_of_lt (Nat.lt_succ_of_lt ll)
      have off3 : z.heap.objs.size ∉ [(z.heap.push { cls := .type "set", dict := none, data := .set #[] 0 (.fresh 0 0 led) }).objs.size, l] := by
        rw [Heap.size_push]
        simp only [List.mem_cons, List.mem_singleton, List.not_mem_nil, or_false, not_or]
        exact ⟨Nat.ne_of_lt (Nat.lt_succ_self _), Nat.ne_of_gt ll⟩
      have many : ys.length = its.size := by rw [← StrsAre.len_eq txt, Array.length_toList]
      have val3 : ∀ (i : Nat) (v : Value), its[i]? = some v → ∃ tk, v = .str (ys.getD i Str.empty) tk := fun i v hv => SS.strs_at txt i v (by rw [Array.getElem?_toList]; exact hv)
      refine fill_texts ((Walks.list calm3 _ l ne3 its).toS) z.heap.objs.size off3 ys many (by rw [← many]; exact few) val3 (its.size - 0) 0 _ (by omega) (Nat.zero_le _) ⟨⟨_, Heap.get?_push_size _ rfl, rfl, rfl⟩, (at3.push _)⟩ ?first ?last
      case first =>
        have get3 : ((z.heap.push { cls := .type "set", dict := none, data := .set #[] 0 (.fresh 0 0 led) }).push { cls := .type "list_iterator", data := .fields #[.ref l, .int 0 0] }).get? z.heap.objs.size = some { cls := .type "set", dict := none, data := .set #[] 0 (.fresh 0 0 led) } := Heap.get?_push_of_some _ new2
        exact PyProof.Rows.SetOf_congr ((PyProof.Rows.setObjOf_fresh (knd := PySem.strKind P w) led).setOf get3 (by unfold scanBound; omega)) (fun _ => rfl) rfl
      case last =>
        intro z3 mv set3
        obtain ⟨g, ge, dr, tk, os⟩ := z3
        obtain rfl : ge = z.gens := mv.gens
        obtain rfl : dr = z.drawn := mv.drawn
        obtain rfl : os = z.os := mv.os
        show wpAny _ _ _ _ _ _
        refine wpAny_pure ?_
        show wpAny _ _ (ret Value.none) _ _ _
        refine wpAny_pure ⟨rfl, g, tk, rfl, set3, fun b o q e => ?_⟩
        refine mv.heap b o ?_ (Heap.get?_push_of_some _ (Heap.get?_push_of_some _ e))
        rw [Heap.size_push]
        simp only [List.mem_cons, List.mem_singleton, List.not_mem_nil, or_false, not_or]
        exact ⟨Nat.ne_of_lt q, Nat.ne_of_lt (Nat.lt_succ_of_lt q)⟩
    · match r2, hr2 with
      | .error e, hr2 => exact hr2
      | .ok .next, hr2 => exact hr2.elim
      | .ok .brk, hr2 => exact hr2.elim
      | .ok .cont, hr2 => exact hr2.elim
      | .ok (.ret u), hr2 =>
        obtain ⟨rfl, g, tk, rfl, set3, keep3⟩ := hr2
        repeat (any_goals (first | assumption | wp_step))
        exact go _ _ set3 keep3
end
end SetT
namespace L2
open PySem PySem.Spec PyProof.Rows SetT
/-- len(set(xs)), xs a list of texts -/
def tLenSetS (K : PySem.W.Frag) (ta : TE) : TE := fun σ H Q => ta σ H fun x H1 => ∃ (l : Addr) (ys : List Str), x = .ref l ∧ SqL K H1 l (ys.map V.str) ∧ ys.length ≤ 4000 ∧ Q (.int ((uqs ys).length : Nat)) H1
theorem pe_lenSetS {X : Cx} {a : Expr} {ta : TE} {p p2 q pos : Pos} (calm : X.calm = true) (hg : Gl X "len") (hm : X.mg "len" = none) (hg2 : Gl X "set") (hm2 : X.mg "set" = none) (ha : PE X a ta)
    (na : starEach [a] X.env = (false, eval a X.env) :: starEach [] X.env := by rfl) : PE X (.Call (.Name "len" p) [.Call (.Name "set" p2) [a] [] q] [] pos) (tLenSetS X.K ta) := by
  refine ⟨fun pins s σ H Q I h => ?_⟩
  refine Call_ (ld_blt I hg hm boot_len ?_)
  refine PyProof.Rows.callWith_builtin1 (PyProof.Rows.args_cons ?_ rfl) rfl rfl
  refine Call_ (ld_blt I hg2 hm2 boot_set ?_)
  refine PyProof.Rows.callWith_type1 (PyProof.Rows.args_cons (thn (ha.run pins s σ H _ I h) fun v s1 ⟨x, H1, I1, r1, q1⟩ => PyProof.Rows.args_nil ?_) na) na rfl
  obtain ⟨l, ys, rfl, sq, few, q1⟩ := q1
  obtain rfl : v = Value.ref l := r1
  obtain ⟨its, rv, pl, hz⟩ := I1.list sq
  refine set_texts (I1.ok.hd calm) pl.isList (ys := ys) (by simpa using strsAre_of rv) few fun g tk set3 keep3 => PyProof.Rows.args_nil ?_
  obtain ⟨o, es, ep, t, ho, hex, hd, _, _, _, hf, hn⟩ := set3
  have I2 : Inv X pins σ H1 { s1 with heap := g, toks := tk } := I1.kept fun b o e => keep3 b o (Heap.lt_size e) e
  have l3 := uqs_len ys
  exact call_len_set ho hex hd hf (by rw [hn] <;> omega) ⟨.int ((uqs ys).length : Nat), H1, I2.tok _, ⟨_, by rw [hn]⟩, q1⟩
end L2
set_option Elab.async false
set_option linter.all false
set_option maxRecDepth 100000
set_option maxHeartbeats 4000000
/-! Two readings of one call; a dict whose keys are texts taken as one. -/
namespace L2
open PySem PySem.Spec PyProof.Rows MX
end L2
set_option Elab.async false
set_option linter.all false
set_option maxRecDepth 100000
set_option maxHeartbeats 4000000
/-! What an own instance is as a test: by an own __bool__; of either of two classes. -/
namespace L2
open PySem PySem.Spec PyProof.Rows
section
variable {X : Cx} {n k j : Nat} {CX : CXT} {C f : Addr} {fd : FuncData} {ps : List Str} {sp : Sp} {E : XK} {a : Expr} {ta : TE}
theorem call_or {f : Value} {r1 r2 : List V → Hp → VK → Prop} (h1 : CallR X f r1) (h2 : CallR X f r2) : CallR X f (fun xs H Q => r1 xs H Q ∨ r2 xs H Q) := by
  intro pins s σ H xs us Q I r h
  rcases h with h | h
  · exact h1 pins s σ H xs us Q I r h
  · exact h2 pins s σ H xs us Q I r h
end
end L2
set_option Elab.async false
set_option linter.all false
set_option maxRecDepth 100000
set_option maxHeartbeats 4000000
/-! not x, of an own instance with an own __bool__. -/
namespace L2
open PySem PySem.Spec PyProof.Rows
end L2
set_option Elab.async false
set_option linter.all false
set_option maxRecDepth 100000
set_option maxHeartbeats 4000000
/-! A text written backwards: x[::-1]. -/
namespace L2
open PySem PySem.Spec PyProof.Rows
end L2
set_option Elab.async false
set_option linter.all false
set_option maxRecDepth 100000
set_option maxHeartbeats 4000000
/-! sorted(xs), texts, any number of them. -/
namespace SrtO
open PySem PyProof.Rows Srt
section
variable {prog : Program} {w : World} {A : Around} {E : Value → Shared → Prop} {s : Shared}
def sv : Value → PySem.Str
  | .str z _ => z
  | _ => PySem.Str.empty
def ltSv (v u : Value) : Bool := decide ((sv v).cps.toList < (sv u).cps.toList)
theorem swo_str : Swo ltSv := by
  refine ⟨fun x y h => ?_, fun x y z h1 h2 => ?_⟩
  · have a := of_decide_eq_true (p := (sv x).cps.toList < (sv y).cps.toList) h
    exact decide_eq_false (p := (sv y).cps.toList < (sv x).cps.toList) (List.not_lt.mpr (List.le_of_lt a))
  · have a := List.not_lt.mp (of_decide_eq_false (p := (sv y).cps.toList < (sv x).cps.toList) h1)
    have b := List.not_lt.mp (of_decide_eq_false (p := (sv z).cps.toList < (sv y).cps.toList) h2)
    exact decide_eq_false (p := (sv z).cps.toList < (sv x).cps.toList) (List.not_lt.mpr (List.le_trans a b))
theorem strs_mem : ∀ {vs : List Value} {ns : List PySem.Str}, StrsAre vs ns → ∀ v ∈ vs, ∃ i t, v = Value.str i t
  | _, _, .nil, v, h => absurd h (by simp)
  | _, _, .cons n t r, v, h => by
    rcases List.mem_cons.mp h with e | h
    · exact ⟨n, t, e⟩
    · exact strs_mem r v h
theorem strs_sv : ∀ {vs : List Value}, (∀ v ∈ vs, ∃ i t, v = Value.str i t) → StrsAre vs (vs.map sv)
  | [], _ => .nil
  | v :: vs, h => by
    obtain ⟨i, t, e⟩ := h v List.mem_cons_self
    subst e
    exact .cons i t (strs_sv fun u hu => h u (List.mem_cons_of_mem _ hu))
theorem sv_strs : ∀ {vs : List Value} {ns : List PySem.Str}, StrsAre vs ns → vs.map sv = ns
  | _, _, .nil => rfl
  | _, _, .cons n t r => congrArg (n :: ·) (sv_strs r)
theorem str_cmp {vs : List Value} {ns : List PySem.Str} (hI : StrsAre vs ns) : Cmp prog w A s oneType' (fun p => p.1 ∈ vs) (lt2 ltSv) := by
  intro p q hm hm'
  obtain ⟨a, t, e⟩ := strs_mem hI _ hm
  obtain ⟨b, u, e'⟩ := strs_mem hI _ hm'
  show wpAny (model prog w) A (keyLt' oneType' p.1 q.1) (fun r s' => s' = s ∧ r = ltSv p.1 q.1) (fun _ _ => False) s
  rw [e, e', keyLt'_oneType]
  exact oneLt_str ⟨rfl, rfl⟩
theorem strs_sortable {a : Addr} {vs : List Value} {ns : List PySem.Str} (hI : StrsAre vs ns) (h2 : 2 ≤ vs.length) : SortableO prog w A s a vs ltSv := by
  intro h' _
  refine ⟨oneType', fun Q E hq => ?_, str_cmp hI⟩
  match vs, hI, h2 with
  | v1 :: v2 :: rest, hI, _ =>
    rw [keyKind_strs hI]
    exact wpAny_pure hq
  | [], _, h => exact absurd h (by decide)
  | [v], _, h => exact absurd h (by simp)
theorem strs_out {vs out : List Value} {ns : List PySem.Str} (hI : StrsAre vs ns) (hs : Srtd ltSv out) (hb : Stb ltSv out vs) : StrsAre out (out.map sv) ∧ (out.map sv).Perm ns ∧ (out.map sv).Pairwise MZ.leS := by
  refine ⟨strs_sv fun v hv => strs_mem hI v (hb.perm.mem_iff.mp hv), ?_, ?_⟩
  · have q := hb.perm.map sv
    rw [sv_strs hI] at q
    exact q
  · exact List.pairwise_map.mpr (hs.imp fun {x y} h => of_decide_eq_false (p := (sv y).cps.toList < (sv x).cps.toList) h)
end
end SrtO
namespace L2
open PySem PySem.Spec PyProof.Rows
/-- sorted(xs), texts, any number of them -/
def rSortedT (K : PySem.W.Frag) : List V → Hp → VK → Prop := fun vs H Q => ∃ (a : Addr) (ns : List Str), vs = [V.ref a] ∧ SqL K H a (ns.map V.str) ∧
  ∀ (ns' : List Str) (p : Addr), ns'.Perm ns → ns'.Pairwise MZ.leS → H p = none → Q (.ref p) (upd H p (.lst (ns'.map V.str)))
section
variable {X : Cx}
theorem cr_sortedT : CallR X (.builtin "sorted") (rSortedT X.K) := by
  intro pins s σ H vs us Q I r h
  obtain ⟨a, ns, rfl, hs, q⟩ := h
  obtain ⟨its, rv, hl, hz⟩ := I.list hs
  rw [Vals.ref1 r]
  have hi := rv.strs
  refine SrtO.sorted_ord SrtO.swo_str hl.isList (by rw [← rv.length]; exact hz) (fun h2 h₁ a' _ _ => SrtO.strs_sortable hi h2) fun out h1 h2 => ?_
  obtain ⟨k1, k2, k3⟩ := SrtO.strs_out hi h1 h2
  obtain ⟨ep, he'⟩ := PyProof.Rows.sortedAll_at s.heap its out.toArray
  have hlen : ((out.map SrtO.sv).map V.str).length ≤ sizeLine := by
    rw [List.length_map, k2.length_eq]
    rw [List.length_map] at hz
    exact hz
  exact ⟨.ref _, upd H (s.heap.objs.size + 1) (.lst ((out.map SrtO.sv).map V.str)), I.laid (t' := s.toks) (fun _ _ => PyProof.Rows.sortedAll_old) (Nat.le_succ _) ⟨hlen, out, ep, vals_of_strs k1, he'⟩, rfl, q _ _ k2 k3 (I.hok.fresh (Nat.le_succ _))⟩
end
end L2
set_option Elab.async false
set_option linter.all false
set_option maxRecDepth 100000
set_option maxHeartbeats 8000000
set_option pp.maxSteps 900
/-! The rests. -/
namespace V8
open PySem PySem.Spec PyProof.Rows L2 MZ
variable {K : PySem.W.Frag} {ω : World}
abbrev s_rests_of : Stmt := topS 55
abbrev n_rests_of : List Str := ["meetings", "living", "places", "found", "side", "place", "word", "ahead", "rest"]
theorem sc_rests_of : FnScope ["meetings", "living", "places", "found", "side", "place", "word", "ahead", "rest"] ["meetings", "living"] (defScope s_rests_of) := ⟨rfl, rfl, rfl, by decide +kernel, rfl, by decide +kernel, by decide +kernel⟩
theorem pi_tupK {X : Cx} {K : PySem.W.Frag} {tg l : Expr} {tl : TE} (hK : X.K = K) (hl : PE X l tl) : PI X tg l (iTup K tl) := by
  subst hK
  exact pi_tup hl
def RsV (H : Hp) (v : V) (q : Bool × Wd) : Prop := ∃ c, v = .ref c ∧ H c = some (.tup [.str (sideS q.1), .str (Sx q.2)])
def RsT (H : Hp) (e : Addr) (rs : List (Bool × Wd)) : Prop := ∃ vs, H e = some (.tup vs) ∧ Paired (RsV H) vs rs
theorem prd_app {α β : Type} {R : α → β → Prop} {xs xs' : List α} {ys ys' : List β} (h : Paired R xs ys) (k : Paired R xs' ys') : Paired R (xs ++ xs') (ys ++ ys') := by
  induction h with
  | nil => exact k
  | cons r _ ih => exact .cons r ih
def onSide (s : Bool) : Pl → Bool
  | .rest a _ => decide (a = s)
  | _ => false
def restOf : Pl → Wd
  | .rest _ r => r
  | _ => []
/-- the rests of one side that live, or do not -/
noncomputable def sideQ (P S : List Pr) (g s : Bool) : List Wd := (((placesQ P S).filter fun p => decide (livesB P S p = g)).filter (onSide s)).map restOf
/-- few rests on each side -/
def FewR (P S : List Pr) : Prop := ∀ s, ((placesQ P S).filter (onSide s)).length ≤ 96
/-- the rests that live, or do not, in their order -/
def RsIs (P S : List Pr) (g : Bool) (rs : List (Bool × Wd)) : Prop := ∃ a b : List Wd, rs = a.map (fun r => (true, r)) ++ b.map (fun r => (false, r)) ∧ a.Perm (sideQ P S g true) ∧ b.Perm (sideQ P S g false) ∧ sortedS (a.map Sx) = true ∧ sortedS (b.map Sx) = true
theorem rise_of : ∀ (l : List Str) (p : Str), (p :: l).Pairwise MZ.leS → risingS p l = true
  | [], p, _ => rfl
  | x :: r, p, h => by
    unfold risingS
    have h1 : MZ.leS p x := List.rel_of_pairwise_cons h List.mem_cons_self
    rw [rise_of r x (List.Pairwise.of_cons h), ltCps_eq, decide_eq_false h1]
    rfl
theorem pw_sortedS : ∀ {l : List Str}, l.Pairwise MZ.leS → sortedS l = true
  | [], _ => rfl
  | x :: r, h => rise_of r x h
theorem sx_map_inj {a b : List Wd} (h : a.map Sx = b.map Sx) : a = b := by
  induction a generalizing b with
  | nil =>
    cases b with
    | nil => rfl
    | cons _ _ => cases h
  | cons x r ih =>
    cases b with
    | nil => cases h
    | cons y s =>
      rw [List.map_cons, List.map_cons] at h
      injection h with h1 h2
      rw [Sx_inj h1, ih h2]
theorem RsIs.inj {P S : List Pr} {g : Bool} {rs rs' : List (Bool × Wd)} (h : RsIs P S g rs) (k : RsIs P S g rs') : rs = rs' := by
  obtain ⟨a, b, rfl, p1, p2, s1, s2⟩ := h
  obtain ⟨c, d, rfl, q1, q2, t1, t2⟩ := k
  rw [sx_map_inj (sorted_one s1 t1 ((p1.trans q1.symm).map Sx)), sx_map_inj (sorted_one s2 t2 ((p2.trans q2.symm).map Sx))]
theorem filter_swap {α : Type} (f g : α → Bool) (l : List α) : (l.filter f).filter g = (l.filter g).filter f := by
  rw [List.filter_filter, List.filter_filter]
  exact List.filter_congr fun x _ => Bool.and_comm _ _
theorem side_few {P S : List Pr} (h : FewR P S) (g s : Bool) : (sideQ P S g s).length ≤ 96 := by
  unfold sideQ
  rw [List.length_map, filter_swap]
  exact Nat.le_trans (List.length_filter_le _ _) (h s)
theorem RsIs.mem {P S : List Pr} {g : Bool} {rs : List (Bool × Wd)} (h : RsIs P S g rs) {q : Bool × Wd} (hq : q ∈ rs) : Pl.rest q.1 q.2 ∈ placesQ P S ∧ livesB P S (.rest q.1 q.2) = g := by
  have side : ∀ {s : Bool} {r : Wd}, r ∈ sideQ P S g s → Pl.rest s r ∈ placesQ P S ∧ livesB P S (.rest s r) = g := fun {s r} hr => by
    obtain ⟨p, hp, e⟩ := List.mem_map.mp hr
    obtain ⟨hp1, hp2⟩ := List.mem_filter.mp hp
    obtain ⟨hp3, hp4⟩ := List.mem_filter.mp hp1
    cases p with
    | start => cases hp2
    | fin => cases hp2
    | rest a r' =>
      have ea : a = s := of_decide_eq_true hp2
      have er : r' = r := e
      rw [ea, er] at hp3 hp4
      exact ⟨hp3, of_decide_eq_true hp4⟩
  obtain ⟨a, b, rfl, p1, p2, _⟩ := h
  rcases List.mem_append.mp hq with m | m
  · obtain ⟨r, hr, rfl⟩ := List.mem_map.mp m
    exact side (p1.mem_iff.mp hr)
  · obtain ⟨r, hr, rfl⟩ := List.mem_map.mp m
    exact side (p2.mem_iff.mp hr)
theorem RsIs.len {P S : List Pr} {g : Bool} {rs : List (Bool × Wd)} (h : RsIs P S g rs) (f : FewR P S) : rs.length ≤ 192 := by
  obtain ⟨a, b, rfl, p1, p2, _⟩ := h
  have := side_few f g true
  have := side_few f g false
  rw [List.length_append, List.length_map, List.length_map, p1.length_eq, p2.length_eq]
  omega
theorem side_dec (s : Bool) (p : Pl) : decide (V.str (plS p).1 = V.str (sideS s)) = onSide s p := by
  cases p with
  | start => cases s <;> exact decide_eq_false (show ¬ V.str "start" = V.str _ by decide +kernel)
  | fin => cases s <;> exact decide_eq_false (show ¬ V.str "end" = V.str _ by decide +kernel)
  | rest a r =>
    refine decide_eq_decide.mpr ⟨fun e => side_inj (V.str.inj e), fun e => ?_⟩
    show V.str (sideS a) = _
    rw [e]
theorem plS_rest (p : Pl) : (plS p).2 = Sx (restOf p) := by
  cases p <;> rfl
theorem RsV.same {H H' : Hp} {v : V} {q : Bool × Wd} (h : RsV H v q) (s : Same H H') : RsV H' v q := by
  obtain ⟨c, e, h1⟩ := h
  exact ⟨c, e, s _ _ h1⟩
theorem RsV.put {H : Hp} {v : V} {q : Bool × Wd} {D : Addr} {ys : List V} {o : HO} (h : RsV H v q) (hD : H D = some (.lst ys)) : RsV (upd H D o) v q := by
  obtain ⟨c, e, h1⟩ := h
  exact ⟨c, e, by rw [upd_ne (ne_of h1 hD (fun z => nomatch z))]; exact h1⟩
def spRests (K : PySem.W.Frag) (ω : World) (aD CM : Addr) : Sp := fun vs H Q _ => ∃ (x : Addr) (g : Bool) (P S : List Pr) (Qs L R : List Pl) (W : WyL), vs = [.ref x, .bl g] ∧ MeeA K ω CM P S Qs L R W H x ∧ SqT K H aD [.str (sideS true), .str (sideS false)] ∧ PrOk P ∧ PrOk S ∧ FewR P S ∧
  ∀ (e : Addr) (rs : List (Bool × Wd)) (H' : Hp), Same H H' → RsT H' e rs → RsIs P S g rs → Q (.ref e) H'
/-- what is found when so many sides are gone through -/
def PartR (P S : List Pr) (g : Bool) (i : Nat) (rs : List (Bool × Wd)) : Prop := ∃ a b : List Wd, rs = a.map (fun r => (true, r)) ++ b.map (fun r => (false, r)) ∧ (i = 0 → a = []) ∧ (i ≤ 1 → b = []) ∧ (0 < i → a.Perm (sideQ P S g true) ∧ sortedS (a.map Sx) = true) ∧ (1 < i → b.Perm (sideQ P S g false) ∧ sortedS (b.map Sx) = true)
theorem un_mapS {ys : List Str} {xs : List Wd} (h : ys.Perm (xs.map Sx)) : ∃ zs : List Wd, ys = zs.map Sx ∧ zs.Perm xs := by
  have hs : ∀ y ∈ ys, ∃ z : Wd, y = Sx z := fun y hy => by
    obtain ⟨z, _, e⟩ := List.mem_map.mp (h.mem_iff.mp hy)
    exact ⟨z, e.symm⟩
  have ex : ∀ l : List Str, (∀ y ∈ l, ∃ z : Wd, y = Sx z) → ∃ zs : List Wd, l = zs.map Sx := by
    intro l
    induction l with
    | nil => exact fun _ => ⟨[], rfl⟩
    | cons y r ih =>
      intro hl
      obtain ⟨z, rfl⟩ := hl y List.mem_cons_self
      obtain ⟨zs, rfl⟩ := ih fun y hy => hl y (List.mem_cons_of_mem _ hy)
      exact ⟨z :: zs, rfl⟩
  obtain ⟨zs, rfl⟩ := ex ys hs
  refine ⟨zs, rfl, ?_⟩
  have h2 := h.map (fun s : Str => s.cps.toList)
  rw [List.map_map, List.map_map] at h2
  have e : ∀ l : List Wd, l.map ((fun s : Str => s.cps.toList) ∘ Sx) = l := fun l => by
    conv => rhs; rw [← List.map_id l]
    exact List.map_congr_left fun w _ => by show w.toArray.toList = w; simp
  rw [e, e] at h2
  exact h2
section
variable {P : Program} {w : World} {K : PySem.W.Frag} {mg : Str → Option Value} {base : Heap} {aS aE aV aD CM : Addr}
theorem ok_rests {f : Addr} {fd : FuncData} (F : Fun K "rests_of" "rests_of" s_rests_of f fd) (T : Tn K mg aS aE aV CM) (hSD : GV mg "SIDES" (.ref aD)) : FnOk P w K mg base CX0 1 f fd ["meetings", "living"] (spRests K w aD CM) := by
  refine F.ok sc_rests_of (fun vs H Q E h => ?_) (fun cdv A outer s H vs Q E hr h => ?_)
  · obtain ⟨x, g, P, S, Qs, L, R, W, rfl, _⟩ := h
    rfl
  · obtain ⟨x, g, P1, S1, Qs, L, R, W, rfl, ⟨⟨dx, mv, ld, wd, hx, ⟨vs0, kvs, hd, kyv, pk⟩, lv, wy, nml, nmw⟩, bf, br, few, eqQ⟩, hD, okP, okS, fewR, q⟩ := h
    refine ⟨_, (pss_cons (ps_lock (ps_setLc (i := 2) (own := [("place", 5)]) (g := gName 5) (by rfl) sc_rests_of.nd rfl rfl (sw_true rfl rfl rfl (by decide +kernel)) (pi_keysXt (w := w) rfl (pe_fldK (K := K) rfl (pv 0) rfl)) (blkOk_by (own := [("place", 5)]) (N := n_rests_of) (sc := defScope s_rests_of) (by decide +kernel)) (fun _ _ _ _ _ => (pg_name (i := 5) sc_rests_of.nd rfl (.inl rfl))) (fun _ _ _ _ _ => (pts_one (pt_cmpR op_eq (pe_cmp (pc_dinY (w := w) (K := K) rfl rfl (hu_of hr) (pv 5) (pe_fldK (K := K) rfl (pv 0) rfl)) rfl) (pv 1) (nomark _)))) (fun _ _ _ _ _ => (pv 5))))
      (pss_cons (ps_set (i := 3) sc_rests_of.nd rfl (.inl rfl) (pe_lst pa_nil))
      (pss_cons (ps_for PassesOwn.never rfl (pi_tupK (K := K) rfl (pe_gv hSD (by rfl))) (pg_name (i := 4) sc_rests_of.nd rfl (.inr rfl))
        (pss_one (ps_expr (pe_bmK (K := K) rfl PySem.F.plainAttrs_list PySem.F.slot_list_extend PySem.F.type_list_extend mt_extend (pv 3) (pa_cons (pe_lc (own := [("word", 6)]) (g := gName 6) (by rfl) sc_rests_of.nd (pi_list (pe_callB cr_sortedT (by rfl) T.sorted (by decide +kernel) (pa_cons (pe_lc (own := [("ahead", 7), ("rest", 8)]) (g := gTup K 2 (gCons (gName 7) (gCons (gName 8) gNil))) (by rfl) sc_rests_of.nd (pi_list (pv 2)) (blkOk_by (own := [("ahead", 7), ("rest", 8)]) (N := n_rests_of) (sc := defScope s_rests_of) (by decide +kernel)) (fun _ _ _ _ _ => (pg_tup (by rfl) (pgs_cons (pg_name (i := 7) sc_rests_of.nd rfl (.inl rfl)) (pgs_cons (pg_name (i := 8) sc_rests_of.nd rfl (.inl rfl)) pgs_nil)))) (fun _ _ _ _ _ => (pts_one (pt_cmpR op_eq (pv 7) (pv 4) (nomark _)))) (fun _ _ _ _ _ => (pe_callTy call_strS (by rfl) T.str (by decide +kernel) (pa_cons (pv 8) pa_nil)))) pa_nil))) (blkOk_by (own := [("word", 6)]) (N := n_rests_of) (sc := defScope s_rests_of) (by decide +kernel)) (fun _ _ _ _ _ => (pg_name (i := 6) sc_rests_of.nd rfl (.inl rfl))) (fun _ _ _ _ _ => pts_nil) (fun _ _ _ _ _ => (pe_tup (pa_cons (pv 4) (pa_cons (pv 6) pa_nil))))) pa_nil)))))
      (pss_one (ps_ret (pe_callTy (call_tuple_ofK (K := K) rfl) (by rfl) T.tuple (by decide +kernel) (pa_cons (pv 3) pa_nil))))))), ?_⟩
    have lkv := prd_len pk
    have lv0 := prd_len kyv
    refine ⟨mv, _, hd, True.intro, fun od => ⟨_, rfl, x, CM, dx, _, V.ref mv, rfl, ?_, T.cl, T.n1, fM_m mv ld wd, mv, od, vs0, kvs, rfl, upd_same, ?_⟩⟩
    · rw [upd_ne (ne_of hx hd (fun z => nomatch z))]
      exact hx
    obtain ⟨al, kl, hl0, hkl, kL⟩ := lv.at_
    have upS : ∀ {y : Addr} {xs : List V}, SqT K H y xs → SqT K (upd H mv (.frz od (DX w mv vs0 kvs))) y xs := fun e => sq_dx e hd
    have hkl1 : KyA K (upd H mv (.frz od (DX w mv vs0 kvs))) al kl := prd_imp hkl fun _ _ z => upS z
    have kyv1 : KyA K (upd H mv (.frz od (DX w mv vs0 kvs))) vs0 kvs := prd_imp kyv fun _ _ z => upS z
    have sf : ∀ c u, H c = some u → c ≠ mv → upd H mv (.frz od (DX w mv vs0 kvs)) c = some u := fun c u e n => by
      rw [upd_ne n]
      exact e
    have back : ∀ {H' : Hp}, Same (upd H mv (.frz od (DX w mv vs0 kvs))) H' → Same H (upd H' mv (DX w mv vs0 kvs)) := fun {H'} s b o e => by
      by_cases hb : b = mv
      · rw [hb, upd_same]
        rw [hb, hd] at e
        exact e
      · rw [upd_ne hb]
        exact s _ _ (sf _ _ e hb)
    clear upS
    have hx1 := sf _ _ hx (ne_of hx hd (fun z => nomatch z))
    have hl1 := sf _ _ hl0 (Ne.symm nml)
    have hmv1 : upd H mv (.frz od (DX w mv vs0 kvs)) mv = some (.frz od (DX w mv vs0 kvs)) := upd_same
    generalize upd H mv (.frz od (DX w mv vs0 kvs)) = H1 at back hx1 hl1 hmv1 hkl1 kyv1 ⊢
    refine fun D nD => lc_it (walk_keysX (w := w) (d := mv) (o := od) (as := vs0) (kvs := kvs)) (fun i H3 => ∃ qs : List Addr, Paired (PlT K H3) qs ((Qs.take i).filter fun p => decide (decide (p ∈ L) = g)) ∧ H3 D = some (.lst (qs.map V.ref)) ∧ Same H1 H3) ?_ ?_ ?_ ?_
    · exact ⟨[], .nil, upd_same, same_put (s := Same.refl H1) nD⟩
    · rintro i H3 hi ⟨qs, _, _, s3⟩
      exact s3 _ _ hmv1
    · rintro i y H30 H3 hi ⟨qs, pq, hD3, s3⟩ ⟨rfl, qk, hbk, rfl⟩
      obtain ⟨⟨k, v⟩, hkv, hqk0⟩ := prd_at kyv1 hbk
      obtain ⟨p, hp, ek, _⟩ := prd_at pk hkv
      have ek : k = plK p := ek
      subst ek
      have hqk : PlT K H3 qk p := sq_same hqk0 s3
      have lq := prd_len pq
      have lf : ((Qs.take i).filter fun p => decide (decide (p ∈ L) = g)).length ≤ 542 := Nat.le_trans (List.length_filter_le _ _) (by rw [List.length_take]; omega)
      have ef : (Qs.take (i + 1)).filter (fun p => decide (decide (p ∈ L) = g)) = ((Qs.take i).filter fun p => decide (decide (p ∈ L) = g)) ++ if decide (decide (p ∈ L) = g) = true then [p] else [] := by
        rw [List.take_add_one, hp, List.filter_append]
        congr 1
        show List.filter _ [p] = _
        rw [List.filter_cons]
        rfl
      refine ⟨rfl, _, rfl, _, rfl, x, CM, dx, _, V.ref ld, rfl, s3 _ _ hx1, T.cl, T.n2, fM_l mv ld wd, ld, _, rfl, DGetY.t (k := plK p) (s3 _ _ hl1) (ky_same hkl1 s3) hqk, _, rfl, rfl, _, rfl, ?_⟩
      rw [keysP_is kL, ef]
      have eb : decide (V.bl (decide (p ∈ L)) = V.bl g) = decide (decide (p ∈ L) = g) := decide_eq_decide.mpr ⟨fun e => V.bl.inj e, fun e => by rw [e]⟩
      rw [eb]
      by_cases hg : decide (p ∈ L) = g
      · rw [decide_eq_true hg]
        refine iteT ⟨_, rfl, _, hD3, by rw [List.length_map, sizeLine_eq]; omega, qs ++ [qk], ?_, ?_, ?_⟩
        · exact (prd_imp pq fun _ _ h => sq_lst h hD3).snoc (sq_lst hqk hD3)
        · rw [upd_same, List.map_append]
          rfl
        · intro b o e
          rw [upd_ne (ne_of_none e nD)]
          exact s3 _ _ e
      · rw [decide_eq_false hg]
        refine iteF ⟨qs, ?_, hD3, s3⟩
        show Paired _ qs (_ ++ [])
        rw [List.append_nil]
        exact pq
    rintro H3 ⟨qs, pq, hD3, s3⟩
    rw [List.take_of_length_le (by omega)] at pq
    refine ⟨s3 _ _ hmv1, ?_⟩
    have eF : (Qs.filter fun p => decide (decide (p ∈ L) = g)) = (placesQ P1 S1).filter fun p => decide (livesB P1 S1 p = g) := by
      rw [eqQ]
      refine List.filter_congr fun p hp => ?_
      rw [← eqQ] at hp
      have e1 : decide (p ∈ L) = livesB P1 S1 p := by
        rw [Bool.eq_iff_iff, decide_eq_true_iff, livesB_iff]
        exact ⟨lv.liv.live p, fun ⟨v, k⟩ => lv.all p hp v k⟩
      rw [e1]
    rw [eF] at pq
    have fl : ∀ s, ((((placesQ P1 S1).filter fun p => decide (livesB P1 S1 p = g)).filter (onSide s)).map restOf).length ≤ 96 := fun s => side_few fewR g s
    have eS : ∀ s, sideQ P1 S1 g s = (((placesQ P1 S1).filter fun p => decide (livesB P1 S1 p = g)).filter (onSide s)).map restOf := fun s => rfl
    have lq := prd_len pq
    have okF : ∀ p ∈ (placesQ P1 S1).filter fun p => decide (livesB P1 S1 p = g), p ∈ Qs := fun p hp => by
      rw [eqQ]
      exact (List.mem_filter.mp hp).1
    have sB := back s3
    have pqB : Paired (PlT K (upd H3 mv (DX w mv vs0 kvs))) qs ((placesQ P1 S1).filter fun p => decide (livesB P1 S1 p = g)) := prd_imp pq fun _ _ h => sq_ne h (s3 _ _ hmv1) (fun z => nomatch z) (fun _ z => nomatch z)
    have hDB : upd H3 mv (DX w mv vs0 kvs) D = some (.lst (qs.map V.ref)) := by
      rw [upd_ne (ne_of hD3 (s3 _ _ hmv1) (fun z => nomatch z))]
      exact hD3
    have lF : ((placesQ P1 S1).filter fun p => decide (livesB P1 S1 p = g)).length ≤ 542 := by
      refine Nat.le_trans (List.length_filter_le _ _) ?_
      rw [← eqQ]
      exact few
    generalize (placesQ P1 S1).filter (fun p => decide (livesB P1 S1 p = g)) = F at pqB lq fl eS okF lF
    show Ends.nx _ _ (upd H3 mv (DX w mv vs0 kvs))
    generalize upd H3 mv (DX w mv vs0 kvs) = H4 at sB pqB hDB ⊢
    have hD4 := sq_same hD sB
    refine ⟨Nat.zero_le _, fun fd nfd => ?_⟩
    have hfd0 : upd H4 fd (.lst []) fd = some (.lst []) := upd_same
    have s40 := same_put (s := Same.refl H4) (o := .lst []) nfd
    show tSeq _ _ _ _ (upd H4 fd (.lst []))
    generalize upd H4 fd (.lst []) = H5 at hfd0 s40 ⊢
    refine ⟨aD, rfl, ⟨_, sq_same hD4 s40⟩, for_it (walk_tup (K := K) (a := aD) (xs := [.str (sideS true), .str (sideS false)])) (fun i σ H6 => ∃ (rs : List (Bool × Wd)) (vs : List V) (v4 v5 v6 v7 v8 : Option V), σ = [some (.ref x), some (.bl g), some (.ref D), some (.ref fd), v4, v5, v6, v7, v8] ∧
      H6 fd = some (.lst vs) ∧ Paired (RsV H6) vs rs ∧ PartR P1 S1 g i rs ∧ rs.length ≤ 96 * i ∧ Same H4 H6) ?_ ?_ ?_ ?_⟩
    · exact ⟨[], [], none, none, none, none, none, rfl, hfd0, .nil, ⟨[], [], rfl, fun _ => rfl, fun _ => rfl, fun z => absurd z (by decide), fun z => absurd z (by decide)⟩, Nat.le_refl _, s40⟩
    · rintro i σ H6 hi ⟨rs, vs, v4, v5, v6, v7, v8, _, _, _, _, _, s6⟩
      exact sq_same hD4 s6
    · rintro i y σ H60 H6 hi ⟨rs, vs, v4, v5, v6, v7, v8, rfl, hfd6, pr6, part, lrs, s6⟩ ⟨rfl, hy⟩
      have hi2 : i < 2 := hi
      obtain ⟨s, hs, hsi⟩ : ∃ s : Bool, y = .str (sideS s) ∧ s = decide (i = 0) := by
        match i, hi2 with
        | 0, _ => exact ⟨true, (Option.some.inj hy).symm, rfl⟩
        | 1, _ => exact ⟨false, (Option.some.inj hy).symm, rfl⟩
      subst hs
      have lvs := prd_len pr6
      have pq6 : Paired (PlT K H6) qs F := prd_imp pqB fun _ _ h => sq_same h s6
      have hD6 := s6 _ _ hDB
      refine ⟨_, rfl, .inl ⟨rfl, _, SqL.of hfd6⟩, ?_⟩
      -- the rests of this side
      refine ⟨_, rfl, D, rfl, ⟨_, SqL.of hD6⟩, fun D2 nD2 => lc_it (walk_list (K := K) (a := D) (xs := qs.map V.ref)) (fun j H7 => H7 = upd H6 D2 (.lst (((((F.take j).filter (onSide s)).map restOf).map Sx).map V.str))) rfl ?_ ?_ ?_⟩
      · rintro j H7 hj rfl
        exact SqL.of (by rw [upd_ne (ne_of_none hD6 nD2)]; exact hD6)
      · rintro j y H70 H7 hj rfl ⟨eH, hy2⟩
        rw [eH]
        obtain ⟨b, hb, rfl⟩ : ∃ b, qs[j]? = some b ∧ y = .ref b := by
          rw [List.getElem?_map] at hy2
          obtain ⟨b, hb, e⟩ := Option.map_eq_some_iff.mp hy2
          exact ⟨b, hb, e.symm⟩
        obtain ⟨p, hp, hpl⟩ := prd_at pq6 hb
        have hpl : SqT K H6 b (plV p) := hpl
        have s7 := same_put (s := Same.refl H6) (o := .lst (((((F.take j).filter (onSide s)).map restOf).map Sx).map V.str)) nD2
        have et : (F.take (j + 1)).filter (onSide s) = (F.take j).filter (onSide s) ++ if onSide s p = true then [p] else [] := by
          rw [List.take_add_one, hp, List.filter_append]
          congr 1
          show List.filter _ [p] = _
          rw [List.filter_cons]
          rfl
        have lj : ((((F.take j).filter (onSide s)).map restOf).map Sx).length ≤ 600 := by
          rw [List.length_map, List.length_map]
          refine Nat.le_trans (List.length_filter_le _ _) ?_
          rw [List.length_take]
          have lqq := congrArg List.length (rfl : qs = qs)
          have h1 : j < qs.length := by
            have := (List.getElem?_eq_some_iff.mp hb).1
            exact this
          have h2 := lF
          omega
        refine ⟨b, _, rfl, sq_same hpl s7, rfl, _, _, rfl, _, _, rfl, rfl, ?_⟩
        refine ⟨rfl, _, rfl, _, rfl, rfl, _, rfl, ?_⟩
        rw [side_dec, et]
        cases eo : onSide s p with
        | false =>
          refine iteF ?_
          rw [if_neg (by decide), List.append_nil]
        | true =>
          refine iteT ⟨_, rfl, _, rfl, _, upd_same, by rw [List.length_map, sizeLine_eq]; omega, ?_⟩
          rw [if_pos rfl, upd_upd, plS_rest, List.map_append, List.map_append, List.map_append]
          rfl
      rintro H7 rfl
      rw [List.take_of_length_le (by rw [List.length_map, lq]; exact Nat.le_refl _)]
      have fls := fl s
      rw [← eS] at fls ⊢
      have s7 := same_put (s := Same.refl H6) (o := .lst (((sideQ P1 S1 g s).map Sx).map V.str)) nD2
      have hD27 : upd H6 D2 (.lst (((sideQ P1 S1 g s).map Sx).map V.str)) D2 = some (.lst (((sideQ P1 S1 g s).map Sx).map V.str)) := upd_same
      generalize upd H6 D2 (.lst (((sideQ P1 S1 g s).map Sx).map V.str)) = H7 at s7 hD27 ⊢
      refine ⟨D2, (sideQ P1 S1 g s).map Sx, rfl, SqL.of hD27, fun ys p2 pm so0 np2 => ?_⟩
      have so := pw_sortedS so0
      obtain ⟨zs, rfl, pz⟩ := un_mapS pm
      have lz := pz.length_eq
      have s8 := same_put (s := s7) (o := .lst ((zs.map Sx).map V.str)) np2
      have hp28 : upd H7 p2 (.lst ((zs.map Sx).map V.str)) p2 = some (.lst ((zs.map Sx).map V.str)) := upd_same
      refine ⟨p2, rfl, ⟨_, SqL.of upd_same⟩, fun D3 nD3 => ?_⟩
      generalize upd H7 p2 (.lst ((zs.map Sx).map V.str)) = H8 at s8 hp28 nD3 ⊢
      refine lc_it (walk_list (K := K) (a := p2) (xs := (zs.map Sx).map V.str)) (fun j H9 => ∃ ws, Paired (RsV H9) ws ((zs.take j).map fun r => (s, r)) ∧ H9 D3 = some (.lst ws) ∧ Same H8 H9) ?_ ?_ ?_ ?_
      · exact ⟨[], .nil, upd_same, same_put (s := Same.refl H8) nD3⟩
      · rintro j H9 hj ⟨ws, _, _, s9⟩
        exact SqL.of (s9 _ _ hp28)
      · rintro j y H90 H9 hj ⟨ws, pw, hD39, s9⟩ ⟨rfl, hy2⟩
        obtain ⟨r, hr, rfl⟩ : ∃ r, zs[j]? = some r ∧ y = .str (Sx r) := by
          rw [List.getElem?_map, List.getElem?_map] at hy2
          obtain ⟨b, hb, e⟩ := Option.map_eq_some_iff.mp hy2
          obtain ⟨r, hr, e2⟩ := Option.map_eq_some_iff.mp hb
          exact ⟨r, hr, by rw [← e, ← e2]⟩
        have lw := prd_len pw
        rw [List.length_map, List.length_take] at lw
        refine ⟨rfl, _, rfl, _, rfl, by show 2 ≤ sizeLine; decide, fun c nc => ?_⟩
        have sc := same_put (s := Same.refl H9) (o := .tup [.str (sideS s), .str (Sx r)]) nc
        have hc : upd H9 c (.tup [.str (sideS s), .str (Sx r)]) c = some (.tup [.str (sideS s), .str (Sx r)]) := upd_same
        have hD3c := sc _ _ hD39
        generalize upd H9 c (.tup [.str (sideS s), .str (Sx r)]) = H10 at sc hc hD3c ⊢
        refine ⟨_, hD3c, by rw [sizeLine_eq]; omega, ws ++ [.ref c], ?_, upd_same, ?_⟩
        · rw [List.take_add_one, hr, List.map_append]
          exact (prd_imp pw fun _ _ z => (z.same sc).put hD3c).snoc (RsV.put ⟨c, rfl, hc⟩ hD3c)
        · intro b o e
          rw [upd_ne (ne_of_none e nD3)]
          exact sc _ _ (s9 _ _ e)
      rintro H9 ⟨ws, pw, hD39, s9⟩
      rw [List.take_of_length_le (by rw [List.length_map, List.length_map]; exact Nat.le_refl _)] at pw
      have s69 : Same H6 H9 := fun b o e => s9 _ _ (s8 _ _ e)
      have hfd9 := s69 _ _ hfd6
      have lw := prd_len pw
      rw [List.length_map] at lw
      refine ⟨fd, D3, vs, ws, rfl, rfl, hfd9, hD39, by rw [sizeLine_eq]; omega, ?_⟩
      have nfd4 : ∀ {b o}, H4 b = some o → b ≠ fd := fun {b o} e z => by
        rw [z] at e
        rw [nfd] at e
        cases e
      refine ⟨rs ++ zs.map (fun r => (s, r)), vs ++ ws, _, _, _, _, _, rfl, upd_same, ?_, ?_, ?_, ?_⟩
      · exact prd_app (prd_imp pr6 fun _ _ z => (z.same s69).put hfd9) (prd_imp pw fun _ _ z => z.put hfd9)
      · obtain ⟨a, b, er, p1, p2', p3, p4⟩ := part
        match i, hi2 with
        | 0, _ =>
          have hsi : s = true := hsi
          subst hsi
          have ea := p1 rfl
          have eb := p2' (by decide)
          subst ea eb
          refine ⟨zs, [], by rw [er]; simp, fun z => absurd z (by decide), fun _ => rfl, fun _ => ⟨pz, so⟩, fun z => absurd z (by decide)⟩
        | 1, _ =>
          have hsi : s = false := hsi
          subst hsi
          have eb := p2' (by decide)
          subst eb
          refine ⟨a, zs, by rw [er, List.map_nil, List.append_nil], fun z => absurd z (by decide), fun z => absurd z (by decide), fun _ => p3 (by decide), fun _ => ⟨pz, so⟩⟩
      · rw [List.length_append, List.length_map]
        omega
      · intro b o e
        rw [upd_ne (nfd4 e)]
        exact s69 _ _ (s6 _ _ e)
    · rintro σ H6 ⟨rs, vs, v4, v5, v6, v7, v8, rfl, hfd6, pr6, ⟨a, b, er, _, _, p3, p4⟩, lrs, s6⟩
      obtain ⟨pa, sa⟩ := p3 (by show 0 < 2; decide)
      obtain ⟨pb, sb⟩ := p4 (by show 1 < 2; decide)
      refine ⟨_, rfl, fd, vs, rfl, .inl ⟨SqL.of hfd6, fun e ne => ?_⟩⟩
      refine q e rs _ (fun b o h => same_put (s := Same.refl H6) ne _ _ (s6 _ _ (sB _ _ h))) ⟨vs, upd_same, prd_imp pr6 fun _ _ z => z.same (same_put (s := Same.refl H6) ne)⟩ ⟨a, b, er, pa, pb, sa, sb⟩
end
end V8
set_option Elab.async false
set_option linter.all false
set_option maxRecDepth 100000
set_option maxHeartbeats 8000000
set_option pp.maxSteps 900
/-! The leads. -/
namespace V8
open PySem PySem.Spec PyProof.Rows L2 MZ
variable {K : PySem.W.Frag} {ω : World}
abbrev s_leads_of : Stmt := topS 56
abbrev n_leads_of : List Str := ["meetings", "rest"]
theorem sc_leads_of : FnScope ["meetings", "rest"] ["meetings"] (defScope s_leads_of) := ⟨rfl, rfl, rfl, by decide +kernel, rfl, by decide +kernel, by decide +kernel⟩
theorem op_catTK {X : Cx} {K : PySem.W.Frag} (hK : X.K = K) : OpR X (binaryOp .Add) (rCatT K) := by
  subst hK
  exact op_catT
/-- the lead of a rest -/
def leadQ (P S : List Pr) (q : Bool × Wd) : Bool × List Nat := (lead (wayTo (waysW P S .start) (.rest q.1 q.2))).getD (true, [])
def LsV (P S : List Pr) (H : Hp) (v : V) (q : Bool × Wd) : Prop := ∃ c, v = .ref c ∧ H c = some (.tup [.str (sideS q.1), .str (Sx q.2), .str (sideS (leadQ P S q).1), .str (Sx (leadQ P S q).2)])
def LsT (P S : List Pr) (H : Hp) (e : Addr) (rs : List (Bool × Wd)) : Prop := ∃ vs, H e = some (.tup vs) ∧ Paired (LsV P S H) vs rs
theorem LsV.same {P S : List Pr} {H H' : Hp} {v : V} {q : Bool × Wd} (h : LsV P S H v q) (s : Same H H') : LsV P S H' v q := by
  obtain ⟨c, e, h1⟩ := h
  exact ⟨c, e, s _ _ h1⟩
theorem LsV.put {P S : List Pr} {H : Hp} {v : V} {q : Bool × Wd} {D : Addr} {ys : List V} {o : HO} (h : LsV P S H v q) (hD : H D = some (.lst ys)) : LsV P S (upd H D o) v q := by
  obtain ⟨c, e, h1⟩ := h
  exact ⟨c, e, by rw [upd_ne (ne_of h1 hD (fun z => nomatch z))]; exact h1⟩
theorem MeeA.same {CM : Addr} {P S : List Pr} {Qs L R : List Pl} {W : WyL} {H H' : Hp} {x : Addr} (h : MeeA K ω CM P S Qs L R W H x) (s : Same H H') : MeeA K ω CM P S Qs L R W H' x := by
  obtain ⟨⟨dx, mv, ld, wd, h1, h2, h3, h4, n1, n2⟩, b, c, d, e⟩ := h
  exact ⟨⟨dx, mv, ld, wd, s _ _ h1, h2.ni (NI.ofSame s), h3.ni (NI.ofSame s), h4.ni (NI.ofSame s), n1, n2⟩, b, c, d, e⟩
def spLeads (K : PySem.W.Frag) (ω : World) (aD CM : Addr) : Sp := fun vs H Q _ => ∃ (x : Addr) (P S : List Pr) (Qs L R : List Pl) (W : WyL), vs = [.ref x] ∧ MeeA K ω CM P S Qs L R W H x ∧ SqT K H aD [.str (sideS true), .str (sideS false)] ∧ PrOk P ∧ PrOk S ∧ FewR P S ∧ Alike P S ∧
  ∀ (e : Addr) (rs : List (Bool × Wd)) (H' : Hp), Same H H' → LsT P S H' e rs → RsIs P S true rs → Q (.ref e) H'
section
variable {P : Program} {w : World} {K : PySem.W.Frag} {mg : Str → Option Value} {base : Heap} {aS aE aV aD CM : Addr}
theorem ok_leads {f : Addr} {fd : FuncData} (F : Fun K "leads_of" "leads_of" s_leads_of f fd) (T : Tn K mg aS aE aV CM) (D_rests_of : Df P w K mg base 1 "rests_of" (spRests K w aD CM)) (D_lead_of : Df P w K mg base 1 "lead_of" (spLead K)) : FnOk P w K mg base CX0 2 f fd ["meetings"] (spLeads K w aD CM) := by
  refine F.ok sc_leads_of (fun vs H Q E h => ?_) (fun cdv A outer s H vs Q E hr h => ?_)
  · obtain ⟨x, P, S, Qs, L, R, W, rfl, _⟩ := h
    rfl
  · obtain ⟨x, P1, S1, Qs, L, R, W, rfl, me, hD, okP, okS, fewR, ak, q⟩ := h
    refine ⟨_, (pss_one (ps_ret (pe_callTy (call_tuple_ofK (K := K) rfl) (by rfl) T.tuple (by decide +kernel) (pa_cons (pe_lc (own := [("rest", 1)]) (g := gName 1) (by rfl) sc_leads_of.nd (pi_tupK (K := K) rfl (pe_c D_rests_of hr (by decide) (by rfl) (pa_cons (pv 0) (pa_cons pe_bl pa_nil)))) (blkOk_by (own := [("rest", 1)]) (N := n_leads_of) (sc := defScope s_leads_of) (by decide +kernel)) (fun _ _ _ _ _ => (pg_name (i := 1) sc_leads_of.nd rfl (.inl rfl))) (fun _ _ _ _ _ => pts_nil) (fun _ _ _ _ _ => (pe_op (op_catTK (K := K) rfl) (pv 1) (pe_c D_lead_of hr (by decide) (by rfl) (pa_cons (pe_dgetY (w := w) (K := K) rfl rfl (hu_of hr) (pe_fldK (K := K) rfl (pv 0) rfl) (pv 1) (fun _ _ => rfl)) pa_nil))))) pa_nil)))), ?_⟩
    refine ⟨_, rfl, x, true, P1, S1, Qs, L, R, W, rfl, me, hD, okP, okS, fewR, fun e rs H1 s1 hrs isr => ?_⟩
    obtain ⟨vs, hvs, prs⟩ := hrs
    have lvs := prd_len prs
    have lrs := isr.len fewR
    have me1 := me.same s1
    refine ⟨e, rfl, ⟨_, .inl (.inl hvs)⟩, fun D nD => lc_it (walk_tup (K := K) (a := e) (xs := vs)) (fun i H2 => ∃ ws, Paired (LsV P1 S1 H2) ws (rs.take i) ∧ H2 D = some (.lst ws) ∧ Same H1 H2) ?_ ?_ ?_ ?_⟩
    · exact ⟨[], .nil, upd_same, same_put (s := Same.refl H1) nD⟩
    · rintro i H2 hi ⟨ws, _, _, s2⟩
      exact .inl (.inl (s2 _ _ hvs))
    · rintro i y H20 H2 hi ⟨ws, pw, hD2, s2⟩ ⟨rfl, hy⟩
      obtain ⟨r, hr0, c, rfl, hc⟩ := prd_at prs hy
      have lw := prd_len pw
      rw [List.length_take] at lw
      obtain ⟨hrQ, hrl⟩ := isr.mem (List.mem_of_getElem? hr0)
      obtain ⟨⟨dx, mv, ld, wd, hx, am, lv, wy, n1, n2⟩, bf, br, few, eqQ⟩ := me1.same s2
      rw [← eqQ] at hrQ
      have hrR : Pl.rest r.1 r.2 ∈ R := (br.all _).mpr ((bf.all _).mp hrQ)
      obtain ⟨aw, kw, cw, hw1, hwk, hw2, hw3, kw4, lw5⟩ := wys_at wy br.nd hrR
      have lw6 : (wayTo W (.rest r.1 r.2)).1.length + (wayTo W (.rest r.1 r.2)).2.length ≤ 600 := lw5
      have hc2 := s2 _ _ hc
      have el : lead (wayTo W (.rest r.1 r.2)) = some (leadQ P1 S1 r) := by
        obtain ⟨v, kv⟩ := livesB_iff.mp hrl
        have e1 := ak _ (kw4.trans kv)
        obtain ⟨k, e2, _⟩ := lead_back e1 e1
        unfold leadQ
        rw [← wy.2.2.2, e2]
        rfl
      refine ⟨rfl, _, rfl, _, rfl, x, CM, dx, _, V.ref wd, rfl, hx, T.cl, T.n3, fM_w mv ld wd, _, rfl, wd, _, rfl, (by rw [← hw2]; exact DGetY.t (k := plK (.rest r.1 r.2)) hw1 hwk (SqT.of hc2)), cw, _, rfl, hw3, by omega, by omega, fun lv_ H3 s3 hl3 => ?_⟩
      rw [el] at hl3
      obtain ⟨b, rfl, hb⟩ := hl3
      refine ⟨c, b, _, _, rfl, rfl, SqT.of (s3 _ _ hc2), hb, (by intro z; cases z), by show 4 ≤ sizeLine; decide, (fun z => by cases z), fun _ p np => ?_⟩
      have s4 := same_put (s := s3) (o := .tup ([V.str (sideS r.1), V.str (Sx r.2)] ++ [V.str (sideS (leadQ P1 S1 r).1), V.str (Sx (leadQ P1 S1 r).2)])) np
      have hp : upd H3 p (.tup ([V.str (sideS r.1), V.str (Sx r.2)] ++ [V.str (sideS (leadQ P1 S1 r).1), V.str (Sx (leadQ P1 S1 r).2)])) p = some (.tup [V.str (sideS r.1), V.str (Sx r.2), V.str (sideS (leadQ P1 S1 r).1), V.str (Sx (leadQ P1 S1 r).2)]) := upd_same
      have hD4 := s4 _ _ hD2
      generalize upd H3 p (.tup ([V.str (sideS r.1), V.str (Sx r.2)] ++ [V.str (sideS (leadQ P1 S1 r).1), V.str (Sx (leadQ P1 S1 r).2)])) = H4 at s4 hp hD4 ⊢
      refine ⟨_, hD4, by rw [sizeLine_eq]; omega, ws ++ [.ref p], ?_, upd_same, ?_⟩
      · rw [List.take_add_one, hr0]
        exact (prd_imp pw fun _ _ z => (z.same s4).put hD4).snoc (LsV.put ⟨p, rfl, hp⟩ hD4)
      · intro b o e
        rw [upd_ne (ne_of_none e nD)]
        exact s4 _ _ (s2 _ _ e)
    · rintro H2 ⟨ws, pw, hD2, s2⟩
      rw [List.take_of_length_le (by omega)] at pw
      refine ⟨D, ws, rfl, .inl ⟨SqL.of hD2, fun e2 ne => ?_⟩⟩
      have s3 := same_put (s := Same.refl H2) (o := .tup ws) ne
      exact q e2 rs _ (fun b o h => s3 _ _ (s2 _ _ (s1 _ _ h))) ⟨ws, upd_same, prd_imp pw fun _ _ z => z.same s3⟩ isr
end
end V8
set_option Elab.async false
set_option linter.all false
set_option maxRecDepth 100000
set_option maxHeartbeats 8000000
set_option pp.maxSteps 900
/-! Values of tuples, texts and None: copied and compared. -/
namespace V8
open PySem PySem.Spec PyProof.Rows L2 MZ
variable {K : PySem.W.Frag} {ω : World}
abbrev s_equal : Stmt := topS 3
theorem sc_equal : FnScope ["one", "other"] ["one", "other"] (defScope s_equal) := ⟨rfl, rfl, rfl, by decide +kernel, rfl, by decide +kernel, by decide +kernel⟩
abbrev s_equal_rows : Stmt := topS 4
abbrev n_equal_rows : List Str := ["one", "other", "left", "right"]
theorem sc_equal_rows : FnScope ["one", "other", "left", "right"] ["one", "other"] (defScope s_equal_rows) := ⟨rfl, rfl, rfl, by decide +kernel, rfl, by decide +kernel, by decide +kernel⟩
mutual
/-- a value of tuples, texts and None -/
inductive TV (H : Hp) : V → PyData → Prop
  | non : TV H .non .none
  | str (z : Str) : TV H (.str z) (.str z)
  | int (i : Int) : TV H (.int i) (.int i)
  | tup {a : Addr} {xs : List V} {ds : List PyData} : H a = some (.tup xs) → TVs H xs ds → TV H (.ref a) (.tuple ds)
inductive TVs (H : Hp) : List V → List PyData → Prop
  | nil : TVs H [] []
  | cons {x : V} {d : PyData} {xs : List V} {ds : List PyData} : TV H x d → TVs H xs ds → TVs H (x :: xs) (d :: ds)
end
mutual
theorem TV.keep {H H2 : Hp} (s : ∀ b xs, H b = some (.tup xs) → H2 b = some (.tup xs)) : ∀ {x : V} {d : PyData}, TV H x d → TV H2 x d
  | _, _, .non => .non
  | _, _, .str z => .str z
  | _, _, .int i => .int i
  | _, _, .tup h r => .tup (s _ _ h) (TVs.keep s r)
theorem TVs.keep {H H2 : Hp} (s : ∀ b xs, H b = some (.tup xs) → H2 b = some (.tup xs)) : ∀ {xs : List V} {ds : List PyData}, TVs H xs ds → TVs H2 xs ds
  | _, _, .nil => .nil
  | _, _, .cons h r => .cons (TV.keep s h) (TVs.keep s r)
end
theorem TV.same {H H2 : Hp} {x : V} {d : PyData} (h : TV H x d) (s : Same H H2) : TV H2 x d := h.keep fun b xs e => s b _ e
theorem TVs.same {H H2 : Hp} {xs : List V} {ds : List PyData} (h : TVs H xs ds) (s : Same H H2) : TVs H2 xs ds := h.keep fun b xs e => s b _ e
theorem TVs.put {H : Hp} {xs : List V} {ds : List PyData} {D : Addr} {ys : List V} {o : HO} (h : TVs H xs ds) (hD : H D = some (.lst ys)) : TVs (upd H D o) xs ds := h.keep fun b zs e => by
  rw [upd_ne (ne_of e hD (fun z => nomatch z))]
  exact e
theorem TV.put {H : Hp} {x : V} {d : PyData} {D : Addr} {ys : List V} {o : HO} (h : TV H x d) (hD : H D = some (.lst ys)) : TV (upd H D o) x d := h.keep fun b zs e => by
  rw [upd_ne (ne_of e hD (fun z => nomatch z))]
  exact e
theorem TVs.len {H : Hp} : ∀ {xs : List V} {ds : List PyData}, TVs H xs ds → xs.length = ds.length
  | _, _, .nil => rfl
  | _, _, .cons _ r => congrArg Nat.succ (TVs.len r)
theorem TVs.at {H : Hp} : ∀ {xs : List V} {ds : List PyData} {i : Nat} {x : V}, TVs H xs ds → xs[i]? = some x → ∃ d, ds[i]? = some d ∧ TV H x d
  | _, _, i, x, .nil, e => by simp at e
  | _, _, 0, x, .cons h _, e => by
    rw [List.getElem?_cons_zero] at e
    cases e
    exact ⟨_, rfl, h⟩
  | _, _, i + 1, x, .cons _ r, e => by
    rw [List.getElem?_cons_succ] at e ⊢
    exact TVs.at r e
theorem TVs.snoc {H : Hp} : ∀ {xs : List V} {ds : List PyData} {x : V} {d : PyData}, TVs H xs ds → TV H x d → TVs H (xs ++ [x]) (ds ++ [d])
  | _, _, _, _, .nil, h => .cons h .nil
  | _, _, _, _, .cons h r, k => .cons h (TVs.snoc r k)
mutual
theorem TV.dp {K : PySem.W.Frag} {H : Hp} : ∀ {x : V} {d : PyData}, TV H x d → Dp K H x d
  | _, _, .non => .non
  | _, _, .str z => .str z
  | _, _, .int i => .int i
  | _, _, .tup h r => .tup (.inl (.inl h)) (TVs.dp r)
theorem TVs.dp {K : PySem.W.Frag} {H : Hp} : ∀ {xs : List V} {ds : List PyData}, TVs H xs ds → DpAll K H xs ds
  | _, _, .nil => .nil
  | _, _, .cons h r => .cons (TV.dp h) (TVs.dp r)
end
def FlT (d : PyData) : Prop := d = .none ∨ (∃ z, d = .str z ∧ PyData.strOk z = true) ∨ ∃ i, d = .int i
/-- at most so deep -/
def TD : Nat → PyData → Prop
  | 0, d => FlT d
  | n + 1, d => FlT d ∨ ∃ ds, d = .tuple ds ∧ ds.length ≤ 200 ∧ ∀ e ∈ ds, TD n e
theorem TD.flat {d : PyData} (h : FlT d) : ∀ n, TD n d
  | 0 => h
  | _ + 1 => .inl h
theorem TD.up : ∀ {n : Nat} {d : PyData}, TD n d → TD (n + 1) d
  | 0, _, h => .inl h
  | n + 1, _, .inl h => .inl h
  | n + 1, _, .inr ⟨ds, e, l, k⟩ => .inr ⟨ds, e, l, fun x hx => TD.up (k x hx)⟩
theorem td_cases {n : Nat} {d : PyData} (h : TD n d) : FlT d ∨ ∃ m ds, n = m + 1 ∧ d = .tuple ds ∧ ds.length ≤ 200 ∧ ∀ e ∈ ds, TD m e := by
  cases n with
  | zero => exact .inl h
  | succ m =>
    rcases h with h | ⟨ds, e, l, k⟩
    · exact .inl h
    · exact .inr ⟨m, ds, rfl, e, l, k⟩
mutual
theorem td_lay : ∀ (n : Nat) (d : PyData), TD n d → d.canLay0 = true ∧ d.depth ≤ n
  | 0, d, h => by
    rcases h with rfl | ⟨z, rfl, hz⟩ | ⟨i, rfl⟩
    · exact ⟨rfl, Nat.le_refl _⟩
    · exact ⟨hz, Nat.le_refl _⟩
    · exact ⟨rfl, Nat.le_refl _⟩
  | n + 1, d, h => by
    rcases h with (rfl | ⟨z, rfl, hz⟩ | ⟨i, rfl⟩) | ⟨ds, rfl, _, k⟩
    · exact ⟨rfl, Nat.zero_le _⟩
    · exact ⟨hz, Nat.zero_le _⟩
    · exact ⟨rfl, Nat.zero_le _⟩
    · obtain ⟨h1, h2⟩ := tds_lay n ds k
      refine ⟨by simpa [PyData.canLay0] using h1, ?_⟩
      simp only [PyData.depth]
      omega
theorem tds_lay : ∀ (n : Nat) (ds : List PyData), (∀ e ∈ ds, TD n e) → PyData.canLayAll0 ds = true ∧ PyData.depthAll ds ≤ n
  | n, [], _ => ⟨rfl, Nat.zero_le _⟩
  | n, d :: ds, h => by
    obtain ⟨a1, a2⟩ := td_lay n d (h d List.mem_cons_self)
    obtain ⟨b1, b2⟩ := tds_lay n ds fun e he => h e (List.mem_cons_of_mem _ he)
    refine ⟨by simp [PyData.canLayAll0, a1, b1], ?_⟩
    simp only [PyData.depthAll]
    omega
end
theorem td_shaped {n : Nat} {d : PyData} (h : TD n d) (hn : n ≤ 64) : SeqAt.shaped d = true := by
  obtain ⟨h1, h2⟩ := td_lay n d h
  exact shaped_of h1 (by omega)
theorem flt_ty {H : Hp} {x : V} {d : PyData} (h : TV H x d) (f : FlT d) : Flat x := by
  rcases f with rfl | ⟨z, rfl, _⟩ | ⟨i, rfl⟩
  · cases h
    exact .inr (.inr (.inl rfl))
  · cases h
    exact .inl ⟨z, rfl⟩
  · cases h
    exact .inr (.inl ⟨i, rfl⟩)
def isTup : PyData → Bool
  | .tuple _ => true
  | _ => false
theorem tv_ty {K : PySem.W.Frag} {H : Hp} {x : V} {d : PyData} (h : TV H x d) : ∃ t, (∀ H2, Same H H2 → TyX K H2 x t) ∧ PySem.W.kitOne K t (.type "dict") = some false ∧ PySem.W.kitOne K t (.type "list") = some false ∧ PySem.W.kitOne K t (.type "bool") = some false ∧ PySem.W.kitOne K t (.type "tuple") = some (isTup d) := by
  cases h with
  | non => exact ⟨_, fun _ _ => .base .non, kit_ty (by decide +kernel), kit_ty (by decide +kernel), kit_ty (by decide +kernel), kit_ty (by decide +kernel)⟩
  | str z => exact ⟨_, fun _ _ => ty_str z, kit_ty (by decide +kernel), kit_ty (by decide +kernel), kit_ty (by decide +kernel), (kit_ty (by decide +kernel) : PySem.W.kitOne K (.type "str") (.type "tuple") = some false)⟩
  | int i => exact ⟨_, fun _ _ => .base (.int i), kit_ty (by decide +kernel), kit_ty (by decide +kernel), kit_ty (by decide +kernel), (kit_ty (by decide +kernel) : PySem.W.kitOne K (.type "int") (.type "tuple") = some false)⟩
  | tup ha _ => exact ⟨_, fun _ s => .base (.tup (s _ _ ha)), kit_ty (by decide +kernel), kit_ty (by decide +kernel), kit_ty (by decide +kernel), (kit_ty (by decide +kernel) : PySem.W.kitOne K (.type "tuple") (.type "tuple") = some true)⟩
structure Te (mg : Str → Option Value) : Prop extends Tq mg where
  bool : mg "bool" = none
  all : mg "all" = none
  zip : mg "zip" = none
def spCopT (n : Nat) : Sp := fun vs H Q _ => ∃ (x : V) (d : PyData), vs = [x] ∧ TV H x d ∧ TD n d ∧ ∀ y H', Same H H' → TV H' y d → Q y H'
def spRowsT : Nat → Sp
  | 0 => fun _ _ _ _ => False
  | n + 1 => fun vs H Q _ => ∃ (a b : Addr) (xs ys : List V) (ds es : List PyData), vs = [.ref a, .ref b] ∧ H a = some (.tup xs) ∧ H b = some (.tup ys) ∧ TVs H xs ds ∧ TVs H ys es ∧ ds.length ≤ 200 ∧ es.length ≤ 200 ∧ (∀ d ∈ ds, TD n d) ∧ (∀ d ∈ es, TD n d) ∧ ∀ H', Same H H' → Q (.bl (PyData.eqvAll ds es)) H'
def spEqT (n : Nat) : Sp := fun vs H Q _ => ∃ (x y : V) (d e : PyData), vs = [x, y] ∧ TV H x d ∧ TV H y e ∧ TD n d ∧ TD n e ∧ ∀ H', Same H H' → Q (.bl (PyData.eqv d e)) H'
theorem eqvAll_len : ∀ {ds es : List PyData}, ds.length ≠ es.length → PyData.eqvAll ds es = false
  | [], [], h => absurd rfl h
  | [], _ :: _, _ => by simp [PyData.eqvAll]
  | _ :: _, [], _ => by simp [PyData.eqvAll]
  | d :: ds, e :: es, h => by
    rw [PyData.eqvAll, eqvAll_len (fun z => h (congrArg Nat.succ z)), Bool.and_false]
theorem eqvAll_zip : ∀ {ds es : List PyData}, ds.length = es.length → ((ds.zip es).map fun q => PyData.eqv q.1 q.2).all id = PyData.eqvAll ds es
  | [], [], _ => by simp [PyData.eqvAll]
  | [], _ :: _, h => by cases h
  | _ :: _, [], h => by cases h
  | d :: ds, e :: es, h => by
    rw [PyData.eqvAll, List.zip_cons_cons, List.map_cons, List.all_cons, eqvAll_zip (Nat.succ.inj h)]
    rfl
theorem walk_zipT {K : PySem.W.Frag} {a b : Addr} {xs ys : List V} {n : Nat} (hn : n = min xs.length ys.length) : Walk (RZ.ItzT K a b) n (fun H => SqT K H a xs ∧ SqT K H b ys) (YPair (fun i => xs[i]?) (fun i => ys[i]?)) := by
  subst hn
  refine ⟨fun i _ hi q => ?_, fun _ q => ⟨xs, ys, q.1, q.2, by omega⟩, fun i H v H' _ q y => ?_⟩
  · have h1 : i < xs.length := by omega
    have h2 : i < ys.length := by omega
    exact ⟨xs, ys, xs[i], ys[i], q.1, q.2, by simp [h1], by simp [h2]⟩
  · obtain ⟨T, x, z, h1, h2, h3, h4, h5⟩ := y
    exact ⟨T, x, z, h1, h2, h3, h4 xs q.1, h5 ys q.2⟩
section
variable {P : Program} {w : World} {K : PySem.W.Frag} {mg : Str → Option Value} {base : Heap}
theorem ok_copT {f : Addr} {fd : FuncData} {n k : Nat} (F : Fun K "copied" "copied" s_copied f fd) (T : Te mg) (D_copied : Df P w K mg base k "copied" (if n = 0 then fun _ _ _ _ => False else spCopT (n - 1))) : FnOk P w K mg base CX0 (k + 1) f fd ["value"] (spCopT n) := by
  refine F.ok sc_copied (fun vs H Q E h => ?_) (fun cdv A outer s H vs Q E hr h => ?_)
  · obtain ⟨x, d, rfl, _⟩ := h
    rfl
  · obtain ⟨x, d, rfl, tv, td, q⟩ := h
    refine ⟨_, (pss_cons (ps_if (pt_val (pe_callB call_isi (by rfl) T.isinstance (by decide +kernel) (pa_cons (pv 0) (pa_cons (pe_bltn (v := .ty "list") (by rfl) T.list (by decide +kernel) rfl) pa_nil))))
        (pss_one (ps_ret (pe_lc (own := [("part", 1)]) (g := gName 1) (by rfl) sc_copied.nd (pi_list (pv 0)) (blkOk_by (own := [("part", 1)]) (N := n_copied) (sc := defScope s_copied) (by decide +kernel)) (fun _ _ _ _ _ => (pg_name (i := 1) sc_copied.nd rfl (.inl rfl))) (fun _ _ _ _ _ => pts_nil) (fun _ _ _ _ _ => (pe_c D_copied hr (Nat.le_refl _) (by rfl) (pa_cons (pv 1) pa_nil))))))
        pss_nil)
      (pss_cons (ps_if (pt_val (pe_callB call_isi (by rfl) T.isinstance (by decide +kernel) (pa_cons (pv 0) (pa_cons (pe_bltn (v := .ty "tuple") (by rfl) T.tuple (by decide +kernel) rfl) pa_nil))))
        (pss_one (ps_ret (pe_callTy (call_tuple_ofK (K := K) rfl) (by rfl) T.tuple (by decide +kernel) (pa_cons (pe_lc (own := [("part", 1)]) (g := gName 1) (by rfl) sc_copied.nd (pi_tup (pv 0)) (blkOk_by (own := [("part", 1)]) (N := n_copied) (sc := defScope s_copied) (by decide +kernel)) (fun _ _ _ _ _ => (pg_name (i := 1) sc_copied.nd rfl (.inl rfl))) (fun _ _ _ _ _ => pts_nil) (fun _ _ _ _ _ => (pe_c D_copied hr (Nat.le_refl _) (by rfl) (pa_cons (pv 1) pa_nil)))) pa_nil))))
        pss_nil)
      (pss_cons (ps_if (pt_val (pe_callB call_isi (by rfl) T.isinstance (by decide +kernel) (pa_cons (pv 0) (pa_cons (pe_bltn (v := .ty "dict") (by rfl) T.dict (by decide +kernel) rfl) pa_nil))))
        (pss_one (ps_ret (pe_lock (pe_dc (own := [("key", 2)]) (g := gName 2) (by rfl) sc_copied.nd (pi_keys (pv 0)) (blkOk_by (own := [("key", 2)]) (N := n_copied) (sc := defScope s_copied) (by decide +kernel)) (fun _ _ _ _ _ => (pg_name (i := 2) sc_copied.nd rfl (.inl rfl))) (fun _ _ _ _ _ => pts_nil) (fun _ _ _ _ _ => (pv 2)) (fun _ _ _ _ _ => (pe_c D_copied hr (Nat.le_refl _) (by rfl) (pa_cons (pe_dget (hu_of hr) (pv 0) (pv 2) (fun _ _ => rfl)) pa_nil)))))))
        pss_nil)
      (pss_one (ps_ret (pv 0)))))), ?_⟩
    rcases td_cases td with fl | ⟨m, ds, rfl, rfl, l200, hd⟩
    · obtain ⟨t, ty, e1, e2, e3⟩ := (flt_ty tv fl).ty (K := K)
      refine ⟨_, rfl, _, .ty "list", t, .type "list", false, rfl, .ty _, ty _, e1, false, rfl, iteF ?_⟩
      refine ⟨_, rfl, _, .ty "tuple", t, .type "tuple", false, rfl, .ty _, ty _, e2, false, rfl, iteF ?_⟩
      refine ⟨_, rfl, _, .ty "dict", t, .type "dict", false, rfl, .ty _, ty _, e3, false, rfl, iteF ?_⟩
      exact ⟨_, rfl, q _ _ (Same.refl H) tv⟩
    · cases tv with
      | @tup a xs ds ha tvs =>
        have lx := tvs.len
        refine ⟨_, rfl, _, .ty "list", .type "tuple", .type "list", false, rfl, .ty _, .base (.tup ha), kit_ty (by decide +kernel), false, rfl, iteF ?_⟩
        refine ⟨_, rfl, _, .ty "tuple", .type "tuple", .type "tuple", true, rfl, .ty _, .base (.tup ha), kit_ty (by decide +kernel), true, rfl, iteT ?_⟩
        refine ⟨_, rfl, a, rfl, ⟨_, .inl (.inl ha)⟩, fun D nD => lc_it (walk_tup (K := K) (a := a) (xs := xs)) (fun i H2 => ∃ ys, TVs H2 ys (ds.take i) ∧ H2 D = some (.lst ys) ∧ Same H H2) ?_ ?_ ?_ ?_⟩
        · exact ⟨[], .nil, upd_same, same_put (s := Same.refl H) nD⟩
        · rintro i H2 hi ⟨ys, _, _, s2⟩
          exact .inl (.inl (s2 _ _ ha))
        · rintro i y H2 H3 hi ⟨ys, ty, hD, s2⟩ ⟨rfl, hy⟩
          obtain ⟨d, hdi, tv⟩ := tvs.at hy
          have ly := ty.len
          rw [List.length_take] at ly
          refine ⟨rfl, _, rfl, y, d, rfl, tv.same s2, hd d (List.mem_of_getElem? hdi), fun z H4 s4 tz => ?_⟩
          have hD4 := s4 _ _ hD
          refine ⟨_, hD4, by rw [sizeLine_eq]; omega, ys ++ [z], ?_, upd_same, ?_⟩
          · rw [List.take_add_one, hdi]
            exact ((ty.same s4).put hD4).snoc (tz.put hD4)
          · intro b o e
            rw [upd_ne (ne_of_none e nD)]
            exact s4 _ _ (s2 _ _ e)
        · rintro H2 ⟨ys, ty, hD, s2⟩
          rw [List.take_of_length_le (by omega)] at ty
          refine ⟨D, ys, rfl, .inl ⟨SqL.of hD, fun b nb => ?_⟩⟩
          exact q _ _ (same_put (s := s2) nb) (.tup upd_same (ty.same (same_put (s := Same.refl H2) nb)))
theorem ok_rowsT {f : Addr} {fd : FuncData} {n k : Nat} (F : Fun K "equal_rows" "equal_rows" s_equal_rows f fd) (T : Te mg) (D_equal : Df P w K mg base k "equal" (spEqT n)) : FnOk P w K mg base CX0 (k + 1) f fd ["one", "other"] (spRowsT (n + 1)) := by
  refine F.ok sc_equal_rows (fun vs H Q E h => ?_) (fun cdv A outer s H vs Q E hr h => ?_)
  · obtain ⟨a, b, xs, ys, ds, es, rfl, _⟩ := h
    rfl
  · obtain ⟨a, b, xs, ys, ds, es, rfl, ha, hb, tx, ty, l1, l2, t1, t2, q⟩ := h
    refine ⟨_, (pss_one (ps_ret (pe_and (pe_cmpR op_eq (pe_callB (call_len_seqK (K := K) rfl) (by rfl) T.len (by decide +kernel) (pa_cons (pv 0) pa_nil)) (pe_callB (call_len_seqK (K := K) rfl) (by rfl) T.len (by decide +kernel) (pa_cons (pv 1) pa_nil)) (nomark _)) (pe_one (pe_callB (cr_all rfl) (by rfl) T.all (by decide +kernel) (pa_cons (pe_lc (own := [("left", 2), ("right", 3)]) (g := gTup K 2 (gCons (gName 2) (gCons (gName 3) gNil))) (by rfl) sc_equal_rows.nd (RZ.pi_zipA (by rfl) T.zip (pa_cons (pv 0) (pa_cons (pv 1) pa_nil))) (blkOk_by (own := [("left", 2), ("right", 3)]) (N := n_equal_rows) (sc := defScope s_equal_rows) (by decide +kernel)) (fun _ _ _ _ _ => (pg_tup (by rfl) (pgs_cons (pg_name (i := 2) sc_equal_rows.nd rfl (.inl rfl)) (pgs_cons (pg_name (i := 3) sc_equal_rows.nd rfl (.inl rfl)) pgs_nil)))) (fun _ _ _ _ _ => pts_nil) (fun _ _ _ _ _ => (pe_c D_equal hr (Nat.le_refl _) (by rfl) (pa_cons (pv 2) (pa_cons (pv 3) pa_nil))))) pa_nil)))))), ?_⟩
    have lx := tx.len
    have ly := ty.len
    refine ⟨_, rfl, a, xs, rfl, .inr (.inl (.inl ha)), _, rfl, b, ys, rfl, .inr (.inl (.inl hb)), rfl, _, rfl, ?_⟩
    by_cases el : ds.length = es.length
    · rw [decide_eq_true (show V.int ((xs.length : Nat) : Int) = V.int ((ys.length : Nat) : Int) by rw [lx, ly, el])]
      refine iteT ?_
      refine ⟨_, rfl, _, rfl, a, b, xs, ys, rfl, .inr ⟨.inl (.inl ha), .inl (.inl hb), fun D nD => lc_it (walk_zipT (K := K) (a := a) (b := b) (xs := xs) (ys := ys) (n := ds.length) (by omega)) (fun i H2 => H2 D = some (.lst ((((ds.zip es).take i).map fun q => PyData.eqv q.1 q.2).map V.bl)) ∧ Same H H2) ?_ ?_ ?_ ?_⟩⟩
      · exact ⟨upd_same, same_put (s := Same.refl H) nD⟩
      · rintro i H2 hi ⟨_, s2⟩
        exact ⟨.inl (.inl (s2 _ _ ha)), .inl (.inl (s2 _ _ hb))⟩
      · rintro i v H2 H3 hi ⟨hD, s2⟩ ⟨Tq_, x, y, rfl, nT, rfl, hx, hy⟩
        obtain ⟨d, hd, tvx⟩ := tx.at hx
        obtain ⟨e, he, tvy⟩ := ty.at hy
        have s3 := same_put (s := s2) (o := .tup [x, y]) nT
        have hD3 := same_put (s := Same.refl H2) (o := .tup [x, y]) nT _ _ hD
        refine ⟨Tq_, _, rfl, .inl (.inl upd_same), rfl, _, _, rfl, _, _, rfl, rfl, ?_⟩
        generalize upd H2 Tq_ (.tup [x, y]) = H4 at s3 hD3 ⊢
        refine ⟨rfl, _, rfl, _, rfl, x, y, d, e, rfl, tvx.same s3, tvy.same s3, t1 d (List.mem_of_getElem? hd), t2 e (List.mem_of_getElem? he), fun H5 s5 => ?_⟩
        have hD5 := s5 _ _ hD3
        have ez : (ds.zip es)[i]? = some (d, e) := by
          rw [List.getElem?_zip_eq_some]
          exact ⟨hd, he⟩
        refine ⟨_, hD5, ?_, ?_, ?_⟩
        · rw [List.length_map, List.length_map, List.length_take, sizeLine_eq]
          omega
        · rw [upd_same, List.take_add_one, ez, List.map_append, List.map_append]
          rfl
        · intro b2 o e2
          rw [upd_ne (ne_of_none e2 nD)]
          exact s5 _ _ (s3 _ _ e2)
      · rintro H2 ⟨hD, s2⟩
        rw [List.take_of_length_le (by rw [List.length_zip]; omega)] at hD
        refine ⟨D, _, rfl, SqL.of hD, ?_⟩
        rw [eqvAll_zip el]
        exact q H2 s2
    · rw [decide_eq_false (show ¬ V.int ((xs.length : Nat) : Int) = V.int ((ys.length : Nat) : Int) from fun z => el (by have := V.int.inj z; omega))]
      refine iteF ?_
      have := q H (Same.refl H)
      rw [eqvAll_len el] at this
      exact this
theorem ok_eqT {f : Addr} {fd : FuncData} {n k : Nat} (hn : n ≤ 60) (F : Fun K "equal" "equal" s_equal f fd) (T : Te mg) (D_equal_rows : Df P w K mg base k "equal_rows" (spRowsT n)) : FnOk P w K mg base CX0 (k + 1) f fd ["one", "other"] (spEqT n) := by
  refine F.ok sc_equal (fun vs H Q E h => ?_) (fun cdv A outer s H vs Q E hr h => ?_)
  · obtain ⟨x, y, d, e, rfl, _⟩ := h
    rfl
  · obtain ⟨x, y, d, e, rfl, tx, ty, t1, t2, q⟩ := h
    refine ⟨_, (pss_cons (ps_if (pt_val (pe_callB call_isi (by rfl) T.isinstance (by decide +kernel) (pa_cons (pv 0) (pa_cons (pe_bltn (v := .ty "dict") (by rfl) T.dict (by decide +kernel) rfl) pa_nil))))
        (pss_one ps_never)
        pss_nil)
      (pss_cons (ps_if (pt_val (pe_callB call_isi (by rfl) T.isinstance (by decide +kernel) (pa_cons (pv 0) (pa_cons (pe_bltn (v := .ty "list") (by rfl) T.list (by decide +kernel) rfl) pa_nil))))
        (pss_one ps_never)
        pss_nil)
      (pss_cons (ps_if (pt_val (pe_callB call_isi (by rfl) T.isinstance (by decide +kernel) (pa_cons (pv 0) (pa_cons (pe_bltn (v := .ty "tuple") (by rfl) T.tuple (by decide +kernel) rfl) pa_nil))))
        (pss_one (ps_ret (pe_and (pe_callB call_isi (by rfl) T.isinstance (by decide +kernel) (pa_cons (pv 1) (pa_cons (pe_bltn (v := .ty "tuple") (by rfl) T.tuple (by decide +kernel) rfl) pa_nil))) (pe_one (pe_c D_equal_rows hr (Nat.le_refl _) (by rfl) (pa_cons (pv 0) (pa_cons (pv 1) pa_nil)))))))
        pss_nil)
      (pss_one (ps_ret (pe_and (pe_cmpR op_eq (pe_callB call_isi (by rfl) T.isinstance (by decide +kernel) (pa_cons (pv 0) (pa_cons (pe_bltn (v := .ty "bool") (by rfl) T.bool (by decide +kernel) rfl) pa_nil))) (pe_callB call_isi (by rfl) T.isinstance (by decide +kernel) (pa_cons (pv 1) (pa_cons (pe_bltn (v := .ty "bool") (by rfl) T.bool (by decide +kernel) rfl) pa_nil))) (nomark _)) (pe_one (pe_cmpR (op_eqDK (K := K) rfl hr.units) (pv 0) (pv 1) (nomark _))))))))), ?_⟩
    obtain ⟨t, y1, a1, a2, a3, a4⟩ := tv_ty (K := K) tx
    obtain ⟨u, y2, b1, b2, b3, b4⟩ := tv_ty (K := K) ty
    have y1 := y1 H (Same.refl H)
    have y2 := y2 H (Same.refl H)
    refine ⟨_, rfl, _, .ty "dict", t, .type "dict", false, rfl, .ty _, y1, a1, false, rfl, iteF ?_⟩
    refine ⟨_, rfl, _, .ty "list", t, .type "list", false, rfl, .ty _, y1, a2, false, rfl, iteF ?_⟩
    rcases td_cases t1 with fl | ⟨m, ds, rfl, rfl, l200, hd⟩
    · have nt : isTup d = false := by
        rcases fl with rfl | ⟨z, rfl, _⟩ | ⟨i, rfl⟩ <;> rfl
      rw [nt] at a4
      refine ⟨_, rfl, _, .ty "tuple", t, .type "tuple", false, rfl, .ty _, y1, a4, false, rfl, iteF ?_⟩
      refine ⟨_, rfl, _, .ty "bool", t, .type "bool", false, rfl, .ty _, y1, a3, _, rfl, _, .ty "bool", u, .type "bool", false, rfl, .ty _, y2, b3, rfl, _, rfl, ?_⟩
      exact iteT ⟨_, rfl, _, rfl, d, e, tx.dp, ty.dp, td_shaped t1 (by omega), td_shaped t2 (by omega), q H (Same.refl H)⟩
    · refine ⟨_, rfl, _, .ty "tuple", t, .type "tuple", true, rfl, .ty _, y1, a4, true, rfl, iteT ?_⟩
      rcases td_cases t2 with fl | ⟨m2, es, em, rfl, l2, he⟩
      · have nt : isTup e = false ∧ PyData.eqv (.tuple ds) e = false := by
          rcases fl with rfl | ⟨z, rfl, _⟩ | ⟨i, rfl⟩ <;> exact ⟨rfl, by simp [PyData.eqv]⟩
        rw [nt.1] at b4
        have q := q H (Same.refl H)
        rw [nt.2] at q
        exact ⟨_, rfl, _, .ty "tuple", u, .type "tuple", false, rfl, .ty _, y2, b4, _, rfl, iteF q⟩
      · obtain rfl : m = m2 := by omega
        refine ⟨_, rfl, _, .ty "tuple", u, .type "tuple", true, rfl, .ty _, y2, b4, _, rfl, iteT ?_⟩
        cases tx with
        | @tup a xs _ ha tvx =>
          cases ty with
          | @tup b ys _ hb tvy =>
            exact ⟨_, rfl, _, rfl, a, b, xs, ys, ds, es, rfl, ha, hb, tvx, tvy, l200, l2, hd, he, fun H' s => by
              have := q H' s
              rw [PyData.eqv] at this
              exact this⟩
end
end V8
set_option Elab.async false
set_option linter.all false
/-! The places as a function of the words; how many stand on one side. -/
namespace MZ
end MZ
set_option Elab.async false
set_option linter.all false
set_option maxRecDepth 100000
set_option maxHeartbeats 8000000
set_option pp.maxSteps 900
/-! A misreading's images as pairs; its checks. -/
namespace V8
open PySem PySem.Spec PyProof.Rows L2 MZ
variable {K : PySem.W.Frag} {ω : World}
abbrev s_check_misreading : Stmt := topS 38
theorem sc_check_misreading : FnScope ["value"] ["value"] (defScope s_check_misreading) := ⟨rfl, rfl, rfl, by decide +kernel, rfl, by decide +kernel, by decide +kernel⟩
abbrev s_check_length : Stmt := topS 80
abbrev n_check_length : List Str := ["misreading", "letter"]
theorem sc_check_length : FnScope ["misreading", "letter"] ["misreading"] (defScope s_check_length) := ⟨rfl, rfl, rfl, by decide +kernel, rfl, by decide +kernel, by decide +kernel⟩
abbrev s_check_images : Stmt := topS 79
theorem sc_check_images : FnScope ["misreading"] ["misreading"] (defScope s_check_images) := ⟨rfl, rfl, rfl, by decide +kernel, rfl, by decide +kernel, by decide +kernel⟩
abbrev s_image_pairs : Stmt := topS 78
abbrev n_image_pairs : List Str := ["misreading", "letter"]
theorem sc_image_pairs : FnScope ["misreading", "letter"] ["misreading"] (defScope s_image_pairs) := ⟨rfl, rfl, rfl, by decide +kernel, rfl, by decide +kernel, by decide +kernel⟩
/-- the images with their letters as labels -/
def pairsT (u : Tab) : List Pr := (keysOf u).map fun c => ((lookT u c).getD [], c)
structure OkU (u : Tab) : Prop where
  few : (keysOf u).length ≤ 12
  img : ∀ c ∈ keysOf u, ∃ s, lookT u c = some s ∧ s ≠ [] ∧ s.length ≤ 8 ∧ ∀ d ∈ s, isLt d
theorem OkU.pr {u : Tab} (o : OkU u) : ∀ q ∈ pairsT u, q.1 ≠ [] ∧ q.1.length ≤ 8 ∧ (∀ d ∈ q.1, isLt d) ∧ isLt q.2 := fun q hq => by
  obtain ⟨c, hc, rfl⟩ := List.mem_map.mp hq
  obtain ⟨s, e, h1, h2, h3⟩ := o.img c hc
  show (lookT u c).getD [] ≠ [] ∧ _
  rw [e]
  exact ⟨h1, h2, h3, keysOf_sub u c hc⟩
theorem OkU.len {u : Tab} (o : OkU u) : (pairsT u).length ≤ 12 := by
  unfold pairsT
  rw [List.length_map]
  exact o.few
theorem OkU.prOk {u : Tab} (o : OkU u) : PrOk (pairsT u) := ⟨Nat.le_trans o.len (by decide), fun q hq => ⟨Nat.le_trans (o.pr q hq).2.1 (by decide), (o.pr q hq).2.2.1⟩⟩
theorem OkU.lb {u : Tab} (o : OkU u) : LbOk (pairsT u) := fun q hq => (o.pr q hq).2.2.2
theorem OkU.ne {u : Tab} (o : OkU u) : ∀ q ∈ pairsT u, q.1 ≠ [] := fun q hq => (o.pr q hq).1
theorem runQ_reach {P S : List Pr} : ∀ n, (runQ P S n).Nodup ∧ ∀ p ∈ runQ P S n, ∃ w, Way P S .start p w
  | 0 => ⟨List.nodup_cons.mpr ⟨List.not_mem_nil, List.nodup_nil⟩, fun p hp => by
    rw [List.mem_singleton.mp hp]
    exact ⟨_, .nil⟩⟩
  | n + 1 => by
    obtain ⟨nd, h⟩ := runQ_reach (P := P) (S := S) n
    show (stepQ P S (runQ P S n) n).Nodup ∧ ∀ p ∈ stepQ P S (runQ P S n) n, _
    unfold stepQ
    cases e : (runQ P S n)[n]? with
    | none => exact ⟨nd, h⟩
    | some p =>
      refine ⟨addTo_nd _ _ nd, fun q hq => ?_⟩
      rcases (addTo_has _ _ _).mp hq with a | ⟨m, hm, rfl⟩
      · exact h q a
      · obtain ⟨w, k⟩ := h p (List.mem_of_getElem? e)
        exact ⟨_, k.step (t := m.1) (l := m.2.1) (q := m.2.2) hm⟩
theorem sumL_le8 {P : List Pr} (h : ∀ q ∈ P, q.1.length ≤ 8) : sumL P ≤ P.length * 8 := by
  unfold sumL
  induction P with
  | nil => exact Nat.le_refl _
  | cons p r ih =>
    have h1 := ih fun q hq => h q (List.mem_cons_of_mem _ hq)
    have h2 := h p List.mem_cons_self
    rw [List.map_cons, List.sum_cons, List.length_cons]
    omega
theorem rests_few12 {P : List Pr} (hP : P.length ≤ 12) (h8 : ∀ q ∈ P, q.1.length ≤ 8) (ne : ∀ q ∈ P, q.1 ≠ []) {rs : List Wd} {s : Bool} (nd : rs.Nodup) (hr : ∀ r ∈ rs, ∃ w, Way P P .start (.rest s r) w) : rs.length ≤ 96 := by
  have hs := sumL_le8 h8
  have : rs.length ≤ (P.flatMap fun q => tails q.1).length := nd_le nd fun r hr2 => by
    obtain ⟨w, k⟩ := hr r hr2
    have z := (reach_uni ne k).2
    have z2 : r ≠ [] ∧ ∃ q ∈ P, ∃ a, q.1 = a ++ r := by
      cases s with
      | true => exact z
      | false => exact z
    obtain ⟨nr, q, hq, a, e⟩ := z2
    exact List.mem_flatMap.mpr ⟨q, hq, tails_has _ a r e nr⟩
  have e : (P.flatMap fun q => tails q.1).length = sumL P := by
    rw [List.length_flatMap]
    unfold sumL
    congr 1
    exact List.map_congr_left fun q _ => tails_len _
  omega
theorem OkU.fewR {u : Tab} (o : OkU u) : FewR (pairsT u) (pairsT u) := fun s => by
  obtain ⟨nd, hr⟩ := runQ_reach (P := pairsT u) (S := pairsT u) 600
  have nd2 : ((placesQ (pairsT u) (pairsT u)).filter (onSide s)).Nodup := nd.filter _
  have side : ∀ {p : Pl}, onSide s p = true → p = .rest s (restOf p) := fun {p} h => by
    cases p with
    | start => cases h
    | fin => cases h
    | rest a r =>
      rw [of_decide_eq_true (show decide (a = s) = true from h)]
      rfl
  have inj : ∀ {l : List Pl}, l.Nodup → (∀ p ∈ l, onSide s p = true) → (l.map restOf).Nodup := by
    intro l
    induction l with
    | nil => exact fun _ _ => List.nodup_nil
    | cons p r ih =>
      intro nd h
      rw [List.nodup_cons] at nd
      rw [List.map_cons, List.nodup_cons]
      refine ⟨fun z => ?_, ih nd.2 fun q hq => h q (List.mem_cons_of_mem _ hq)⟩
      obtain ⟨q, hq, e⟩ := List.mem_map.mp z
      refine nd.1 ?_
      rw [side (h p List.mem_cons_self), ← e, ← side (h q (List.mem_cons_of_mem _ hq))]
      exact hq
  have nd3 : (((placesQ (pairsT u) (pairsT u)).filter (onSide s)).map restOf).Nodup := by
    exact inj nd2 fun p hp => (List.mem_filter.mp hp).2
  have z := rests_few12 (s := s) o.len (fun q hq => (o.pr q hq).2.1) o.ne nd3 fun r h => by
    obtain ⟨p, hp, rfl⟩ := List.mem_map.mp h
    obtain ⟨h1, h2⟩ := List.mem_filter.mp hp
    obtain ⟨w, k⟩ := hr p h1
    rw [side h2] at k
    exact ⟨w, k⟩
  rw [List.length_map] at z
  exact z
theorem MisAt.same2 {C : Addr} {H H' : Hp} {x : Addr} {u : Tab} (m : MisAt C H x u) (s : Same H H') : MisAt C H' x u := m.mono fun b o e _ => s b o e
def spChkM (CM : Addr) : Sp := fun vs H Q _ => ∃ (x : Addr) (u : Tab), vs = [.ref x] ∧ MisAt CM H x u ∧ Q .non H
def spChkL (CM : Addr) : Sp := fun vs H Q _ => ∃ (x : Addr) (u : Tab), vs = [.ref x] ∧ MisAt CM H x u ∧ OkU u ∧ ∀ H', Same H H' → Q .non H'
def spPairs (CM : Addr) : Sp := fun vs H Q _ => ∃ (x : Addr) (u : Tab), vs = [.ref x] ∧ MisAt CM H x u ∧ OkU u ∧ ∀ a H', Same H H' → PrL H' a (pairsT u) → Q (.ref a) H'
structure Tp (K : PySem.W.Frag) (mg : Str → Option Value) (CM CJ : Addr) : Prop extends Tz K mg CM CJ where
  any : mg "any" = none
  gLONGEST_IMAGE : GV mg "LONGEST_IMAGE" (.int 8)
section
variable {P : Program} {w : World} {K : PySem.W.Frag} {mg : Str → Option Value} {base : Heap} {CM CJ : Addr}
theorem ok_check_misreading {f : Addr} {fd : FuncData} (F : Fun K "check_misreading" "check_misreading" s_check_misreading f fd) (T : Tp K mg CM CJ) : FnOk P w K mg base CX0 1 f fd ["value"] (spChkM CM) := by
  refine F.ok sc_check_misreading (fun vs H Q E h => ?_) (fun cdv A outer s H vs Q E hr h => ?_)
  · obtain ⟨x, u, rfl, _⟩ := h
    rfl
  · obtain ⟨x, u, rfl, m, q⟩ := h
    refine ⟨_, (pss_one (ps_if (pt_not (pt_val (pe_callB call_isi (by rfl) T.isinstance (by decide +kernel) (pa_cons (pv 0) (pa_cons (pe_gv T.gMisreading (by rfl)) pa_nil)))))
        (pss_one ps_never)
        pss_nil)), ?_⟩
    obtain ⟨dx, fs, hx⟩ := m.ins
    exact ⟨_, rfl, _, .ref CM, .ref CM, .ref CM, true, rfl, .own _, .base (.ins hx T.cl T.tA T.tB T.tC T.tD), T.mM, true, rfl, iteF q⟩
theorem ok_check_length {f : Addr} {fd : FuncData} (F : Fun K "check_length" "check_length" s_check_length f fd) (T : Tp K mg CM CJ) (D_iter : ItM P w K mg base 1 CM (snIter CM)) (D_get : Mf P w K mg base 2 CM "__getitem__" (spGet CM)) : FnOk P w K mg base CX0 4 f fd ["misreading"] (spChkL CM) := by
  refine F.ok sc_check_length (fun vs H Q E h => ?_) (fun cdv A outer s H vs Q E hr h => ?_)
  · obtain ⟨x, u, rfl, _⟩ := h
    rfl
  · obtain ⟨x, u, rfl, m, ok, q⟩ := h
    refine ⟨_, (pss_one (ps_if (pt_val (pe_callB (cr_any rfl) (by rfl) T.any (by decide +kernel) (pa_cons (pe_lc (own := [("letter", 1)]) (g := gName 1) (by rfl) sc_check_length.nd (pi_ownI D_iter hr (by decide) (pv 0)) (blkOk_by (own := [("letter", 1)]) (N := n_check_length) (sc := defScope s_check_length) (by decide +kernel)) (fun _ _ _ _ _ => (pg_name (i := 1) sc_check_length.nd rfl (.inl rfl))) (fun _ _ _ _ _ => pts_nil) (fun _ _ _ _ _ => (pe_cmpR op_gt (pe_callB call_len_str (by rfl) T.len (by decide +kernel) (pa_cons (pe_ixO D_get hr (by decide) (pv 0) (pv 1)) pa_nil)) (pe_gv T.gLONGEST_IMAGE (by rfl)) (nomark _)))) pa_nil)))
        (pss_one ps_never)
        pss_nil)), ?_⟩
    have few := ok.few
    have lk := lets_len (keysOf u)
    obtain ⟨dx0, fs0, hx0⟩ := m.ins
    refine ⟨_, rfl, x, dx0, _, rfl, hx0, fun k0 hk0 => ⟨x, u, rfl, m, fun it a ni hi ha => ⟨it, a, rfl, hi, upd_same, ?_⟩⟩⟩
    rw [dropH_upd ni]
    refine fun D nD => lc_it (walk_tup (K := K) (a := a) (xs := lets (keysOf u))) (fun i H2 => H2 D = some (.lst ((List.replicate i false).map V.bl)) ∧ Same H H2) ?_ ?_ ?_ ?_
    · exact ⟨upd_same, same_put (s := Same.refl H) nD⟩
    · rintro i H2 hi ⟨_, s2⟩
      exact .inl (.inl (s2 _ _ ha))
    · rintro i y H20 H2 hi ⟨hD, s2⟩ ⟨rfl, hy⟩
      obtain ⟨hi', rfl⟩ := lets_get hy
      have hc := List.getElem_mem hi'
      obtain ⟨s', es, n0, l8, _⟩ := ok.img _ hc
      have m2 := m.same2 s2
      obtain ⟨dx, a1, b1, c1, h1, _⟩ := m2.at_
      refine ⟨rfl, _, rfl, _, rfl, x, dx, _, rfl, h1, x, u, _, s', rfl, m2, hc, es, ?_⟩
      refine ⟨_, rfl, by rw [Sx_len, sizeLine_eq]; omega, _, _, rfl, rfl, ?_⟩
      have e0 : decide ((8 : Int) < ((Sx s').length : Int)) = false := decide_eq_false (by rw [Sx_len]; omega)
      refine ⟨_, hD, by rw [List.length_map, List.length_replicate, sizeLine_eq]; omega, ?_, fun b o e => ?_⟩
      · show upd _ _ (.lst (_ ++ [V.bl (decide ((8 : Int) < ((Sx s').length : Int)))])) D = _
        rw [upd_same, e0, List.replicate_succ', List.map_append]
        rfl
      · show upd H2 D _ b = _
        rw [upd_ne (ne_of_none e nD)]
        exact s2 _ _ e
    · rintro H2 ⟨hD, s2⟩
      refine ⟨D, _, rfl, SqL.of hD, false, ?_, iteF (q H2 s2)⟩
      have e0 : ∀ n : Nat, (List.replicate n false).any id = false := fun n => by
        induction n with
        | zero => rfl
        | succ n ih => rw [List.replicate_succ, List.any_cons, ih]; rfl
      rw [e0]
theorem ok_check_images {f : Addr} {fd : FuncData} (F : Fun K "check_images" "check_images" s_check_images f fd) (T : Tp K mg CM CJ) (D_check_misreading : Df P w K mg base 1 "check_misreading" (spChkM CM)) (D_check_length : Df P w K mg base 4 "check_length" (spChkL CM)) : FnOk P w K mg base CX0 5 f fd ["misreading"] (spChkL CM) := by
  refine F.ok sc_check_images (fun vs H Q E h => ?_) (fun cdv A outer s H vs Q E hr h => ?_)
  · obtain ⟨x, u, rfl, _⟩ := h
    rfl
  · obtain ⟨x, u, rfl, m, ok, q⟩ := h
    refine ⟨_, (pss_cons (ps_expr (pe_c D_check_misreading hr (by decide) (by rfl) (pa_cons (pv 0) pa_nil)))
      (pss_one (ps_expr (pe_c D_check_length hr (by decide) (by rfl) (pa_cons (pv 0) pa_nil))))), ?_⟩
    refine ⟨_, rfl, x, u, rfl, m, ?_⟩
    exact ⟨_, rfl, x, u, rfl, m, ok, fun H' s => q H' s⟩
theorem ok_image_pairs {f : Addr} {fd : FuncData} (F : Fun K "image_pairs" "image_pairs" s_image_pairs f fd) (T : Tp K mg CM CJ) (D_iter : ItM P w K mg base 1 CM (snIter CM)) (D_get : Mf P w K mg base 2 CM "__getitem__" (spGet CM)) : FnOk P w K mg base CX0 4 f fd ["misreading"] (spPairs CM) := by
  refine F.ok sc_image_pairs (fun vs H Q E h => ?_) (fun cdv A outer s H vs Q E hr h => ?_)
  · obtain ⟨x, u, rfl, _⟩ := h
    rfl
  · obtain ⟨x, u, rfl, m, ok, q⟩ := h
    refine ⟨_, (pss_one (ps_ret (pe_lc (own := [("letter", 1)]) (g := gName 1) (by rfl) sc_image_pairs.nd (pi_ownI D_iter hr (by decide) (pv 0)) (blkOk_by (own := [("letter", 1)]) (N := n_image_pairs) (sc := defScope s_image_pairs) (by decide +kernel)) (fun _ _ _ _ _ => (pg_name (i := 1) sc_image_pairs.nd rfl (.inl rfl))) (fun _ _ _ _ _ => pts_nil) (fun _ _ _ _ _ => (pe_tup (pa_cons (pe_ixO D_get hr (by decide) (pv 0) (pv 1)) (pa_cons (pv 1) pa_nil))))))), ?_⟩
    have few := ok.few
    have lk := lets_len (keysOf u)
    obtain ⟨dx0, fs0, hx0⟩ := m.ins
    refine ⟨_, rfl, x, dx0, _, rfl, hx0, fun k0 hk0 => ⟨x, u, rfl, m, fun it a ni hi ha => ⟨it, a, rfl, hi, upd_same, ?_⟩⟩⟩
    rw [dropH_upd ni]
    refine fun D nD => lc_it (walk_tup (K := K) (a := a) (xs := lets (keysOf u))) (fun i H2 => ∃ ys, Paired (PrT H2) ys ((pairsT u).take i) ∧ H2 D = some (.lst ys) ∧ Same H H2) ?_ ?_ ?_ ?_
    · exact ⟨[], .nil, upd_same, same_put (s := Same.refl H) nD⟩
    · rintro i H2 hi ⟨ys, _, _, s2⟩
      exact .inl (.inl (s2 _ _ ha))
    · rintro i y H20 H2 hi ⟨ys, pr, hD, s2⟩ ⟨rfl, hy⟩
      obtain ⟨hi', rfl⟩ := lets_get hy
      have hc := List.getElem_mem hi'
      obtain ⟨s', es, n0, l8, _⟩ := ok.img _ hc
      have m2 := m.same2 s2
      obtain ⟨dx, a1, b1, c1, h1, _⟩ := m2.at_
      have ly := prd_len pr
      rw [List.length_take] at ly
      have ep : (pairsT u)[i]? = some (s', (keysOf u)[i]) := by
        unfold pairsT
        rw [List.getElem?_map, List.getElem?_eq_getElem hi']
        show some ((lookT u _).getD [], _) = _
        rw [es]
        rfl
      refine ⟨rfl, _, rfl, _, rfl, x, dx, _, rfl, h1, x, u, _, s', rfl, m2, hc, es, _, rfl, by show 2 ≤ sizeLine; decide, fun p np => ?_⟩
      have s3 := same_put (s := Same.refl H2) (o := .tup [.str (Sx s'), .str (L1 (keysOf u)[i])]) np
      have hp : upd H2 p (.tup [.str (Sx s'), .str (L1 (keysOf u)[i])]) p = some (.tup [.str (Sx s'), .str (L1 (keysOf u)[i])]) := upd_same
      have hD3 := s3 _ _ hD
      generalize upd H2 p (.tup [.str (Sx s'), .str (L1 (keysOf u)[i])]) = H3 at s3 hp hD3 ⊢
      refine ⟨_, hD3, by rw [sizeLine_eq]; omega, ys ++ [.ref p], ?_, upd_same, ?_⟩
      · rw [List.take_add_one, ep]
        have up : ∀ {v : V} {q0 : Pr}, PrT H3 v q0 → PrT (upd H3 D (.lst (ys ++ [.ref p]))) v q0 := fun {v q0} ⟨c, e, h⟩ => ⟨c, e, by rw [upd_ne (ne_of h hD3 (fun z => nomatch z))]; exact h⟩
        exact (prd_imp pr fun _ _ z => up (z.same s3)).snoc (up ⟨p, rfl, hp⟩)
      · intro b o e
        rw [upd_ne (ne_of_none e nD)]
        exact s3 _ _ (s2 _ _ e)
    · rintro H2 ⟨ys, pr, hD, s2⟩
      rw [List.take_of_length_le (by rw [lk]; unfold pairsT; rw [List.length_map]; exact Nat.le_refl _)] at pr
      exact q D H2 s2 ⟨ys, hD, pr⟩
end
end V8
set_option Elab.async false
set_option linter.all false
set_option maxRecDepth 100000
set_option maxHeartbeats 8000000
set_option pp.maxSteps 900
/-! The papers of merging: made, compared, True or False. -/
namespace V8
open PySem PySem.Spec PyProof.Rows L2 MZ
variable {K : PySem.W.Frag} {ω : World}
abbrev s_OneToOne_init : Stmt := inClass (topS 72) 0
theorem sc_OneToOne_init : FnScope ["self", "leads", "dead"] ["self", "leads", "dead"] (defScope s_OneToOne_init) := ⟨rfl, rfl, rfl, by decide +kernel, rfl, by decide +kernel, by decide +kernel⟩
abbrev s_OneToOne_eq : Stmt := inClass (topS 72) 1
theorem sc_OneToOne_eq : FnScope ["self", "other"] ["self", "other"] (defScope s_OneToOne_eq) := ⟨rfl, rfl, rfl, by decide +kernel, rfl, by decide +kernel, by decide +kernel⟩
abbrev s_OneToOne_bool : Stmt := inClass (topS 72) 2
theorem sc_OneToOne_bool : FnScope ["self"] ["self"] (defScope s_OneToOne_bool) := ⟨rfl, rfl, rfl, by decide +kernel, rfl, by decide +kernel, by decide +kernel⟩
abbrev s_Merged_init : Stmt := inClass (topS 73) 0
theorem sc_Merged_init : FnScope ["self", "one", "other"] ["self", "one", "other"] (defScope s_Merged_init) := ⟨rfl, rfl, rfl, by decide +kernel, rfl, by decide +kernel, by decide +kernel⟩
abbrev s_Merged_bool : Stmt := inClass (topS 73) 2
theorem sc_Merged_bool : FnScope ["self"] ["self"] (defScope s_Merged_bool) := ⟨rfl, rfl, rfl, by decide +kernel, rfl, by decide +kernel, by decide +kernel⟩
def fO (a b : V) : List (Str × V) := putF "dead" b (putF "leads" a [])
theorem fO_l (a b : V) : (fO a b).lookup ("leads" : Str) = some a := by rfl
theorem fO_d (a b : V) : (fO a b).lookup ("dead" : Str) = some b := by rfl
def fR (a b : V) : List (Str × V) := putF "other" b (putF "one" a [])
structure Tv (K : PySem.W.Frag) (mg : Str → Option Value) (CO CR : Addr) : Prop extends Te mg where
  clO : Cls K CO
  clR : Cls K CR
  nO1 : NoAttr K CO "leads"
  nO2 : NoAttr K CO "dead"
  nR1 : NoAttr K CR "one"
  nR2 : NoAttr K CR "other"
  gOneToOne : GV mg "OneToOne" (.ref CO)
  gMerged : GV mg "Merged" (.ref CR)
  /-- what an instance's type is, for the tests below -/
  tyO : ∀ (H : Hp) (x dx : Addr) (fs : List (Str × V)), H x = some (.ins CO dx fs) → TyX K H (.ref x) (.ref CO)
  tyR : ∀ (H : Hp) (x dx : Addr) (fs : List (Str × V)), H x = some (.ins CR dx fs) → TyX K H (.ref x) (.ref CR)
  kOO : PySem.W.kitOne K (.ref CO) (.ref CO) = some true
  kRR : PySem.W.kitOne K (.ref CR) (.ref CR) = some true
/-- all but x stays -/
def ButX (x : Addr) (H H' : Hp) : Prop := ∀ c o, H c = some o → c ≠ x → H' c = some o
def spOneI (CO : Addr) : Sp := fun vs H Q _ => ∃ (x dx : Addr) (a b : V) (da db : PyData), vs = [.ref x, a, b] ∧ H x = some (.ins CO dx []) ∧ TV H a da ∧ TD 2 da ∧ TV H b db ∧ TD 2 db ∧
  ∀ a' b' H', ButX x H H' → H' x = some (.ins CO dx (fO a' b')) → TV H' a' da → TV H' b' db → Q .non H'
def spMrgI (CR : Addr) : Sp := fun vs H Q _ => ∃ (x dx : Addr) (a b : V) (da db : PyData), vs = [.ref x, a, b] ∧ H x = some (.ins CR dx []) ∧ Told2 H a ∧ PyW H a da ∧ Told2 H b ∧ PyW H b db ∧
  ∀ a' b' H', ButX x H H' → H' x = some (.ins CR dx (fR a' b')) → PyW H' a' da → PyW H' b' db → Q .non H'
def spTrue (b : Bool) : Sp := fun vs H Q _ => ∃ x : Addr, vs = [.ref x] ∧ Q (.bl b) H
/-- compared with one of its own kind, or with something else -/
def spOneE (K : PySem.W.Frag) (CO : Addr) : Sp := fun vs H Q _ => ∃ (x dx : Addr) (a b : V) (da db : PyData) (y : V), vs = [.ref x, y] ∧ H x = some (.ins CO dx (fO a b)) ∧ TV H a da ∧ TV H b db ∧ TD 2 da ∧ TD 2 db ∧
  ((∃ (z dz : Addr) (c d : V) (dc dd : PyData), y = .ref z ∧ H z = some (.ins CO dz (fO c d)) ∧ TV H c dc ∧ TV H d dd ∧ TD 2 dc ∧ TD 2 dd ∧ ∀ H', Same H H' → Q (.bl (PyData.eqv da dc && PyData.eqv db dd)) H') ∨
   (∃ t, TyX K H y t ∧ PySem.W.kitOne K t (.ref CO) = some false ∧ Q (.bl false) H))
section
variable {P : Program} {w : World} {K : PySem.W.Frag} {mg : Str → Option Value} {base : Heap} {CO CR : Addr}
theorem PyW.butx {H H' : Hp} {x : Addr} {v : V} {d : PyData} {C dx : Addr} {fs : List (Str × V)} (p : PyW H v d) (s : ButX x H H') (hx : H x = some (.ins C dx fs)) : PyW H' v d := p.keep fun b o e k => s b o e fun z => by
  rw [z, hx] at e
  cases e
  rcases k with ⟨xs, k⟩ | ⟨xs, k⟩ | ⟨xs, k⟩ <;> cases k
theorem TV.butx {H H' : Hp} {x : Addr} {v : V} {d : PyData} {C dx : Addr} {fs : List (Str × V)} (p : TV H v d) (s : ButX x H H') (hx : H x = some (.ins C dx fs)) : TV H' v d := p.keep fun b ys e => s b _ e fun z => by
  rw [z, hx] at e
  cases e
theorem ok_oneI {f : Addr} {fd : FuncData} (F : Fun K "__init__" "OneToOne.__init__" s_OneToOne_init f fd) (T : Tv K mg CO CR) (D_copied : Df P w K mg base 3 "copied" (spCopT 2)) : FnOk P w K mg base CX0 4 f fd ["self", "leads", "dead"] (spOneI CO) := by
  refine F.ok sc_OneToOne_init (fun vs H Q E h => ?_) (fun cdv A outer s H vs Q E hr h => ?_)
  · obtain ⟨x, dx, a, b, da, db, rfl, _⟩ := h
    rfl
  · obtain ⟨x, dx, a, b, da, db, rfl, hx, ta, a2, tb, b2, q⟩ := h
    refine ⟨_, (pss_cons (ps_fld (pv 0) (pe_c D_copied hr (by decide) (by rfl) (pa_cons (pv 1) pa_nil)) rfl)
      (pss_one (ps_fld (pv 0) (pe_c D_copied hr (by decide) (by rfl) (pa_cons (pv 2) pa_nil)) rfl))), ?_⟩
    refine ⟨_, rfl, a, da, rfl, ta, a2, fun a' H1 s1 ta' => ?_⟩
    have hx1 := s1 _ _ hx
    refine ⟨_, rfl, x, CO, dx, _, rfl, hx1, T.clO, T.nO1, by show 0 < 1000; decide, ?_⟩
    have k1 : ButX x H (upd H1 x (.ins CO dx (putF "leads" a' []))) := fun c o e n => by
      rw [upd_ne n]
      exact s1 _ _ e
    have k2 : ButX x H1 (upd H1 x (.ins CO dx (putF "leads" a' []))) := fun c o e n => by
      rw [upd_ne n]
      exact e
    have hx2 : upd H1 x (.ins CO dx (putF "leads" a' [])) x = some (.ins CO dx (putF "leads" a' [])) := upd_same
    show Ends.nx _ _ (upd H1 x (.ins CO dx (putF "leads" a' [])))
    have ta2 := ta'.butx k2 hx1
    have tb2 := tb.butx k1 hx
    generalize upd H1 x (.ins CO dx (putF "leads" a' [])) = H2 at k1 hx2 ta2 tb2 ⊢
    refine ⟨_, rfl, b, db, rfl, tb2, b2, fun b' H3 s3 tb' => ?_⟩
    have hx3 := s3 _ _ hx2
    refine ⟨_, rfl, x, CO, dx, _, rfl, hx3, T.clO, T.nO2, by show 1 < 1000; decide, ?_⟩
    have k4 : ButX x H3 (upd H3 x (.ins CO dx (fO a' b'))) := fun c o e n => by
      rw [upd_ne n]
      exact e
    exact q a' b' _ (fun c o e n => by
      show upd H3 x _ c = _
      rw [upd_ne n]
      exact s3 _ _ (k1 _ _ e n)) upd_same ((ta2.same s3).butx k4 hx3) (tb'.butx k4 hx3)
theorem ok_mrgI {f : Addr} {fd : FuncData} (F : Fun K "__init__" "Merged.__init__" s_Merged_init f fd) (T : Tv K mg CO CR) (D_copied : Df P w K mg base 2 "copied" spCopyW) : FnOk P w K mg base CX0 4 f fd ["self", "one", "other"] (spMrgI CR) := by
  refine F.ok sc_Merged_init (fun vs H Q E h => ?_) (fun cdv A outer s H vs Q E hr h => ?_)
  · obtain ⟨x, dx, a, b, da, db, rfl, _⟩ := h
    rfl
  · obtain ⟨x, dx, a, b, da, db, rfl, hx, ta, a2, tb, b2, q⟩ := h
    refine ⟨_, (pss_cons (ps_fld (pv 0) (pe_c D_copied hr (by decide) (by rfl) (pa_cons (pv 1) pa_nil)) rfl)
      (pss_one (ps_fld (pv 0) (pe_c D_copied hr (by decide) (by rfl) (pa_cons (pv 2) pa_nil)) rfl))), ?_⟩
    refine ⟨_, rfl, a, da, rfl, ta, a2, fun a' H1 s1 ta' => ?_⟩
    have hx1 := s1 _ _ hx
    refine ⟨_, rfl, x, CR, dx, _, rfl, hx1, T.clR, T.nR1, by show 0 < 1000; decide, ?_⟩
    have k1 : ButX x H (upd H1 x (.ins CR dx (putF "one" a' []))) := fun c o e n => by
      rw [upd_ne n]
      exact s1 _ _ e
    have k2 : ButX x H1 (upd H1 x (.ins CR dx (putF "one" a' []))) := fun c o e n => by
      rw [upd_ne n]
      exact e
    have hx2 : upd H1 x (.ins CR dx (putF "one" a' [])) x = some (.ins CR dx (putF "one" a' [])) := upd_same
    show Ends.nx _ _ (upd H1 x (.ins CR dx (putF "one" a' [])))
    have ta2 := PyW.butx ta' k2 hx1
    have tb2 := PyW.butx b2 k1 hx
    have td2 : Told2 (upd H1 x (.ins CR dx (putF "one" a' []))) b := by
      rcases tb with f | ⟨c, xs, e, h, l, g⟩ | ⟨c, kvs, e, h, l, n, g⟩
      · exact .inl f
      · refine .inr (.inl ⟨c, xs, e, h.imp (fun h => k1 _ _ h ?_) (fun h => k1 _ _ h ?_), l, g⟩)
        · exact ne_of h hx (fun z => nomatch z)
        · exact ne_of h hx (fun z => nomatch z)
      · exact .inr (.inr ⟨c, kvs, e, k1 _ _ h (ne_of h hx (fun z => nomatch z)), l, n, g⟩)
    generalize upd H1 x (.ins CR dx (putF "one" a' [])) = H2 at k1 hx2 ta2 tb2 td2 ⊢
    refine ⟨_, rfl, b, db, rfl, td2, tb2, fun b' H3 s3 tb' => ?_⟩
    have hx3 := s3 _ _ hx2
    refine ⟨_, rfl, x, CR, dx, _, rfl, hx3, T.clR, T.nR2, by show 1 < 1000; decide, ?_⟩
    have k4 : ButX x H3 (upd H3 x (.ins CR dx (fR a' b'))) := fun c o e n => by
      rw [upd_ne n]
      exact e
    exact q a' b' _ (fun c o e n => by
      show upd H3 x _ c = _
      rw [upd_ne n]
      exact s3 _ _ (k1 _ _ e n)) upd_same (PyW.butx (PyW.same s3 ta2) k4 hx3) (PyW.butx tb' k4 hx3)
theorem ok_oneB {f : Addr} {fd : FuncData} (F : Fun K "__bool__" "OneToOne.__bool__" s_OneToOne_bool f fd) : FnOk P w K mg base CX0 1 f fd ["self"] (spTrue true) := by
  refine F.ok sc_OneToOne_bool (fun vs H Q E h => ?_) (fun cdv A outer s H vs Q E hr h => ?_)
  · obtain ⟨x, rfl, _⟩ := h
    rfl
  · obtain ⟨x, rfl, q⟩ := h
    refine ⟨_, (pss_one (ps_ret pe_bl)), ?_⟩
    exact q
theorem ok_mrgB {f : Addr} {fd : FuncData} (F : Fun K "__bool__" "Merged.__bool__" s_Merged_bool f fd) : FnOk P w K mg base CX0 1 f fd ["self"] (spTrue false) := by
  refine F.ok sc_Merged_bool (fun vs H Q E h => ?_) (fun cdv A outer s H vs Q E hr h => ?_)
  · obtain ⟨x, rfl, _⟩ := h
    rfl
  · obtain ⟨x, rfl, q⟩ := h
    refine ⟨_, (pss_one (ps_ret pe_bl)), ?_⟩
    exact q
theorem ok_oneE {f : Addr} {fd : FuncData} (F : Fun K "__eq__" "OneToOne.__eq__" s_OneToOne_eq f fd) (T : Tv K mg CO CR) (D_equal : Df P w K mg base 7 "equal" (spEqT 3)) : FnOk P w K mg base CX0 8 f fd ["self", "other"] (spOneE K CO) := by
  refine F.ok sc_OneToOne_eq (fun vs H Q E h => ?_) (fun cdv A outer s H vs Q E hr h => ?_)
  · obtain ⟨x, dx, a, b, da, db, y, rfl, _⟩ := h
    rfl
  · obtain ⟨x, dx, a, b, da, db, y, rfl, hx, ta, tb, a2, b2, h⟩ := h
    refine ⟨_, (pss_one (ps_ret (pe_and (pe_callB call_isi (by rfl) T.isinstance (by decide +kernel) (pa_cons (pv 1) (pa_cons (pe_gv T.gOneToOne (by rfl)) pa_nil))) (pe_one (pe_c D_equal hr (by decide) (by rfl) (pa_cons (pe_tup (pa_cons (pe_fldK (K := K) rfl (pv 0) rfl) (pa_cons (pe_fldK (K := K) rfl (pv 0) rfl) pa_nil))) (pa_cons (pe_tup (pa_cons (pe_fldK (K := K) rfl (pv 1) rfl) (pa_cons (pe_fldK (K := K) rfl (pv 1) rfl) pa_nil))) pa_nil))))))), ?_⟩
    rcases h with ⟨z, dz, c, d, dc, dd, rfl, hz, tc, td, c2, d2, q⟩ | ⟨t, ty, e, q⟩
    · refine ⟨_, rfl, _, .ref CO, .ref CO, .ref CO, true, rfl, .own _, T.tyO H z dz _ hz, T.kOO, _, rfl, iteT ?_⟩
      refine ⟨_, rfl, x, CO, dx, _, a, rfl, hx, T.clO, T.nO1, fO_l a b, _, rfl, x, CO, dx, _, b, rfl, hx, T.clO, T.nO2, fO_d a b, by show 2 ≤ sizeLine; decide, fun p np => ?_⟩
      have s1 := same_put (s := Same.refl H) (o := .tup [a, b]) np
      have hp : upd H p (.tup [a, b]) p = some (.tup [a, b]) := upd_same
      generalize upd H p (.tup [a, b]) = H1 at s1 hp ⊢
      refine ⟨_, rfl, z, CO, dz, _, c, rfl, s1 _ _ hz, T.clO, T.nO1, fO_l c d, _, rfl, z, CO, dz, _, d, rfl, s1 _ _ hz, T.clO, T.nO2, fO_d c d, by show 2 ≤ sizeLine; decide, fun p2 np2 => ?_⟩
      have s2 := same_put (s := Same.refl H1) (o := .tup [c, d]) np2
      have hp2 : upd H1 p2 (.tup [c, d]) p2 = some (.tup [c, d]) := upd_same
      generalize upd H1 p2 (.tup [c, d]) = H2 at s2 hp2 ⊢
      have s02 : Same H H2 := fun b o e => s2 _ _ (s1 _ _ e)
      have two : ∀ {u v : PyData}, TD 2 u → TD 2 v → TD 3 (.tuple [u, v]) := fun {u v} h1 h2 => .inr ⟨[u, v], rfl, by show 2 ≤ 200; decide, fun e he => by
        rcases List.mem_cons.mp he with rfl | he
        · exact h1
        · rw [List.mem_singleton.mp he]
          exact h2⟩
      refine ⟨.ref p, .ref p2, .tuple [da, db], .tuple [dc, dd], rfl, .tup (s2 _ _ hp) (.cons (ta.same s02) (.cons (tb.same s02) .nil)), .tup hp2 (.cons (tc.same s02) (.cons (td.same s02) .nil)), two a2 b2, two c2 d2, fun H' s3 => ?_⟩
      have q := q H' fun b o e => s3 _ _ (s02 _ _ e)
      rw [PyData.eqv, PyData.eqvAll, PyData.eqvAll, PyData.eqvAll, Bool.and_true]
      exact q
    · exact ⟨_, rfl, _, .ref CO, t, .ref CO, false, rfl, .own _, ty, e, _, rfl, iteF q⟩
end
end V8
set_option Elab.async false
set_option linter.all false
set_option maxRecDepth 100000
set_option maxHeartbeats 8000000
set_option pp.maxSteps 900
/-! merging. -/
namespace V8
open PySem PySem.Spec PyProof.Rows L2 MZ
variable {K : PySem.W.Frag} {ω : World}
abbrev s_merging : Stmt := topS 74
theorem sc_merging : FnScope ["misreading", "pairs", "meetings", "unlike", "one", "other"] ["misreading"] (defScope s_merging) := ⟨rfl, rfl, rfl, by decide +kernel, rfl, by decide +kernel, by decide +kernel⟩
def leadsD (P : List Pr) (rs : List (Bool × Wd)) : PyData := .tuple (rs.map fun q => .tuple [.str (sideS q.1), .str (Sx q.2), .str (sideS (leadQ P P q).1), .str (Sx (leadQ P P q).2)])
def restsD (rs : List (Bool × Wd)) : PyData := .tuple (rs.map fun q => .tuple [.str (sideS q.1), .str (Sx q.2)])
theorem ls_tv {P : List Pr} {H : Hp} {e : Addr} {rs : List (Bool × Wd)} (h : LsT P P H e rs) : TV H (.ref e) (leadsD P rs) := by
  obtain ⟨vs, h1, h2⟩ := h
  refine .tup h1 ?_
  clear h1
  induction h2 with
  | nil => exact .nil
  | cons r _ ih =>
    obtain ⟨c, rfl, hc⟩ := r
    exact .cons (.tup hc (.cons (.str _) (.cons (.str _) (.cons (.str _) (.cons (.str _) .nil))))) ih
theorem rs_tv {H : Hp} {e : Addr} {rs : List (Bool × Wd)} (h : RsT H e rs) : TV H (.ref e) (restsD rs) := by
  obtain ⟨vs, h1, h2⟩ := h
  refine .tup h1 ?_
  clear h1
  induction h2 with
  | nil => exact .nil
  | cons r _ ih =>
    obtain ⟨c, rfl, hc⟩ := r
    exact .cons (.tup hc (.cons (.str _) (.cons (.str _) .nil))) ih
theorem side_ok (b : Bool) : PyData.strOk (sideS b) = true := by
  cases b with
  | true => exact (show PyData.strOk (sideS true) = true by decide +kernel)
  | false => exact (show PyData.strOk (sideS false) = true by decide +kernel)
theorem rest_lt {u : Tab} (o : OkU u) {g : Bool} {rs : List (Bool × Wd)} (h : RsIs (pairsT u) (pairsT u) g rs) {q : Bool × Wd} (hq : q ∈ rs) : ∀ c ∈ q.2, isLt c := by
  obtain ⟨h1, _⟩ := h.mem hq
  obtain ⟨w, k⟩ := (runQ_reach (P := pairsT u) (S := pairsT u) 600).2 _ h1
  exact (reach_ok o.ne o.prOk o.prOk k).2
theorem rests_td {u : Tab} (o : OkU u) {g : Bool} {rs : List (Bool × Wd)} (h : RsIs (pairsT u) (pairsT u) g rs) : TD 2 (restsD rs) := by
  refine .inr ⟨_, rfl, ?_, fun e he => ?_⟩
  · rw [List.length_map]
    exact Nat.le_trans (h.len o.fewR) (by decide)
  · obtain ⟨q, hq, rfl⟩ := List.mem_map.mp he
    refine .inr ⟨_, rfl, by show 2 ≤ 200; decide, fun e he => ?_⟩
    rcases List.mem_cons.mp he with rfl | he
    · exact .inr (.inl ⟨_, rfl, side_ok _⟩)
    · rw [List.mem_singleton.mp he]
      exact .inr (.inl ⟨_, rfl, ok_sx (rest_lt o h hq)⟩)
theorem leads_td {u : Tab} (o : OkU u) {rs : List (Bool × Wd)} (h : RsIs (pairsT u) (pairsT u) true rs) (lt : ∀ q ∈ rs, ∀ c ∈ (leadQ (pairsT u) (pairsT u) q).2, isLt c) : TD 2 (leadsD (pairsT u) rs) := by
  refine .inr ⟨_, rfl, ?_, fun e he => ?_⟩
  · rw [List.length_map]
    exact Nat.le_trans (h.len o.fewR) (by decide)
  · obtain ⟨q, hq, rfl⟩ := List.mem_map.mp he
    refine .inr ⟨_, rfl, by show 4 ≤ 200; decide, fun e he => ?_⟩
    rcases List.mem_cons.mp he with rfl | he
    · exact .inr (.inl ⟨_, rfl, side_ok _⟩)
    rcases List.mem_cons.mp he with rfl | he
    · exact .inr (.inl ⟨_, rfl, ok_sx (rest_lt o h hq)⟩)
    rcases List.mem_cons.mp he with rfl | he
    · exact .inr (.inl ⟨_, rfl, side_ok _⟩)
    · rw [List.mem_singleton.mp he]
      exact .inr (.inl ⟨_, rfl, ok_sx (lt q hq)⟩)
/-- what merging answers -/
def VerO (CO CR : Addr) (P : List Pr) (H : Hp) (z : Addr) : Prop :=
  (∃ dx l d rs rs', Alike P P ∧ H z = some (.ins CO dx (fO l d)) ∧ TV H l (leadsD P rs) ∧ TV H d (restsD rs') ∧ RsIs P P true rs ∧ RsIs P P false rs' ∧ TD 2 (leadsD P rs) ∧ TD 2 (restsD rs')) ∨
  ∃ dx w, H z = some (.ins CR dx (fR (.str (Sx w.1)) (.str (Sx w.2)))) ∧ Way P P .start .fin w ∧ w.1 ≠ w.2 ∧ unlikeW P P = some w ∧ LtW w ∧ wlen w ≤ 1300
def spMerging (K : PySem.W.Frag) (aS aE aV aD CM CO CR : Addr) : Sp := fun vs H Q _ => ∃ (x : Addr) (u : Tab), vs = [.ref x] ∧ MisAt CM H x u ∧ OkU u ∧ CnH K aS aE aV H ∧ SqT K H aD [.str (sideS true), .str (sideS false)] ∧
  ∀ z H', Same H H' → H z = none → VerO CO CR (pairsT u) H' z → Q (.ref z) H'
section
variable {P : Program} {w : World} {K : PySem.W.Frag} {mg : Str → Option Value} {base : Heap} {aS aE aV aD CM CJ CG CO CR : Addr}
theorem same_mk {H : Hp} {x dx C : Addr} {o : HO} (hx : H x = none) (hd : H dx = none) : Same H (upd (upd H dx o) x (.ins C dx [])) := fun b u e => by
  rw [upd_ne (ne_of_none e hx), upd_ne (ne_of_none e hd)]
  exact e
theorem same_butx {H H1 H2 : Hp} {x : Addr} (s : Same H H1) (k : ButX x H1 H2) (hx : H x = none) : Same H H2 := fun b o e => k _ _ (s _ _ e) (ne_of_none e hx)
theorem ok_merging {f : Addr} {fd : FuncData} (F : Fun K "merging" "merging" s_merging f fd) (T : Tp K mg CM CJ) (D_check_images : Df P w K mg base 5 "check_images" (spChkL CM)) (D_image_pairs : Df P w K mg base 4 "image_pairs" (spPairs CM)) (D_Meetings : MkC P w K mg base 5 CG "Meetings" (spMee K w aS aE aV CG))
    (D_unlike_meeting : Df P w K mg base 4 "unlike_meeting" (spUnlike K w aS aE aV CG)) (D_leads_of : Df P w K mg base 2 "leads_of" (spLeads K w aD CG)) (D_rests_of : Df P w K mg base 1 "rests_of" (spRests K w aD CG))
    (D_OneToOne : MkC P w K mg base 4 CO "OneToOne" (spOneI CO)) (D_Merged : MkC P w K mg base 4 CR "Merged" (spMrgI CR)) : FnOk P w K mg base CX0 7 f fd ["misreading"] (spMerging K aS aE aV aD CM CO CR) := by
  refine F.ok sc_merging (fun vs H Q E h => ?_) (fun cdv A outer s H vs Q E hr h => ?_)
  · obtain ⟨x, u, rfl, _⟩ := h
    rfl
  · obtain ⟨x, u, rfl, m, ok, cn, hD, q⟩ := h
    refine ⟨_, (pss_cons (ps_expr (pe_c D_check_images hr (by decide) (by rfl) (pa_cons (pv 0) pa_nil)))
      (pss_cons (ps_set (i := 1) sc_merging.nd rfl (.inl rfl) (pe_c D_image_pairs hr (by decide) (by rfl) (pa_cons (pv 0) pa_nil)))
      (pss_cons (ps_set (i := 2) sc_merging.nd rfl (.inl rfl) (pe_mkC D_Meetings hr (by decide) (by rfl) (pa_cons (pv 1) (pa_cons (pv 1) pa_nil))))
      (pss_cons (ps_set (i := 3) sc_merging.nd rfl (.inl rfl) (pe_c D_unlike_meeting hr (by decide) (by rfl) (pa_cons (pv 2) pa_nil)))
      (pss_cons (ps_if (pt_cmpR op_isN (pv 3) pe_non (nomark _))
        (pss_one (ps_ret (pe_mkC D_OneToOne hr (by decide) (by rfl) (pa_cons (pe_c D_leads_of hr (by decide) (by rfl) (pa_cons (pv 2) pa_nil)) (pa_cons (pe_c D_rests_of hr (by decide) (by rfl) (pa_cons (pv 2) (pa_cons pe_bl pa_nil))) pa_nil)))))
        pss_nil)
      (pss_cons (ps_asg (pv 3) (pg_tup (by rfl) (pgs_cons (pg_name (i := 4) sc_merging.nd rfl (.inl rfl)) (pgs_cons (pg_name (i := 5) sc_merging.nd rfl (.inl rfl)) pgs_nil))))
      (pss_one (ps_ret (pe_mkC D_Merged hr (by decide) (by rfl) (pa_cons (pv 4) (pa_cons (pv 5) pa_nil))))))))))), ?_⟩
    refine ⟨_, rfl, x, u, rfl, m, ok, fun H0 s0 => ?_⟩
    refine ⟨_, rfl, x, u, rfl, m.same2 s0, ok, fun a H1 s1 hP => ?_⟩
    have s01 : Same H H1 := fun b o e => s1 _ _ (s0 _ _ e)
    refine ⟨_, rfl, _, rfl, fun g dg ng nd ne => ?_⟩
    have sm := same_mk (C := CG) (o := .own g) ng nd
    refine ⟨g, dg, a, a, pairsT u, pairsT u, rfl, upd_same, hP.same sm, hP.same sm, (cn.same s01).same sm, ok.prOk, ok.prOk, ok.ne, fun Qs L R W H2 k2 me => ⟨rfl, ?_⟩⟩
    have s12 : Same H1 H2 := same_butx sm k2 ng
    have s02 : Same H H2 := fun b o e => s12 _ _ (s01 _ _ e)
    show Ends.nx _ _ H2
    refine ⟨_, rfl, g, pairsT u, pairsT u, Qs, L, R, W, rfl, me, cn.same s02, ok.prOk, ok.prOk, ok.lb, ok.lb, ok.ne, fun ak H3 s3 => ?_, fun e v H3 s3 he hw ne2 l13 eU => ?_⟩
    · refine ⟨_, rfl, rfl, true, rfl, iteT ?_⟩
      have me3 := me.same s3
      have s03 : Same H H3 := fun b o e => s3 _ _ (s02 _ _ e)
      refine ⟨_, rfl, g, pairsT u, pairsT u, Qs, L, R, W, rfl, me3, sq_same hD s03, ok.prOk, ok.prOk, ok.fewR, ak, fun el rs H4 s4 hl isl => ?_⟩
      have me4 := me3.same s4
      have s04 : Same H H4 := fun b o e => s4 _ _ (s03 _ _ e)
      refine ⟨_, rfl, g, false, pairsT u, pairsT u, Qs, L, R, W, rfl, me4, sq_same hD s04, ok.prOk, ok.prOk, ok.fewR, fun ed rs' H5 s5 hd isd => ?_⟩
      have s05 : Same H H5 := fun b o e => s5 _ _ (s04 _ _ e)
      have tl := (ls_tv hl).same s5
      have td := rs_tv hd
      have lt : ∀ q ∈ rs, ∀ c ∈ (leadQ (pairsT u) (pairsT u) q).2, isLt c := fun q0 hq => by
        obtain ⟨h1, h2⟩ := isl.mem hq
        obtain ⟨⟨_, _, _, _, _, _, _, wy, _, _⟩, bf, br, few, eqQ⟩ := me
        rw [← eqQ] at h1
        obtain ⟨_, kw⟩ := wayTo_has wy.2.1 ((br.all _).mpr ((bf.all _).mp h1))
        obtain ⟨v, kv⟩ := livesB_iff.mp h2
        have e1 := ak _ (kw.trans kv)
        obtain ⟨k, e2, _⟩ := lead_back e1 e1
        have e3 : leadQ (pairsT u) (pairsT u) q0 = k := by
          unfold leadQ
          rw [← wy.2.2.2, e2]
          rfl
        rw [e3]
        exact lead_lt (way_lt ok.lb ok.lb kw) e2
      have td1 := leads_td ok isl lt
      have td2 := rests_td ok isd
      refine fun z dz nz ndz nez => ?_
      have sz := same_mk (C := CO) (o := .own z) nz ndz
      refine ⟨z, dz, .ref el, .ref ed, _, _, rfl, upd_same, tl.same sz, td1, td.same sz, td2, fun a' b' H6 k6 hz ta tb => ⟨rfl, ?_⟩⟩
      exact q z H6 (fun b o e => same_butx sz k6 nz _ _ (s05 _ _ e)) (same_none s05 nz) (.inl ⟨dz, a', b', rs, rs', ak, hz, ta, tb, isl, isd, td1, td2⟩)
    · refine ⟨_, rfl, rfl, false, rfl, iteF ?_⟩
      have s03 : Same H H3 := fun b o e => s3 _ _ (s02 _ _ e)
      refine ⟨_, rfl, e, _, rfl, .inl (.inl he), rfl, _, _, rfl, _, _, rfl, rfl, ?_⟩
      refine ⟨_, rfl, _, rfl, fun z dz nz ndz nez => ?_⟩
      have sz := same_mk (C := CR) (o := .own z) nz ndz
      refine ⟨z, dz, .str (Sx v.1), .str (Sx v.2), _, _, rfl, upd_same, .inl (.inl ⟨_, rfl⟩), .str _, .inl (.inl ⟨_, rfl⟩), .str _, fun a' b' H6 k6 hz ta tb => ⟨rfl, ?_⟩⟩
      cases ta
      cases tb
      exact q z H6 (fun b o e => same_butx sz k6 nz _ _ (s03 _ _ e)) (same_none s03 nz) (.inr ⟨dz, v, hz, hw, ne2, eU, way_lt ok.lb ok.lb hw, l13⟩)
end
end V8
set_option Elab.async false
set_option linter.all false
set_option maxRecDepth 100000
set_option maxHeartbeats 4000000
/-! Where no repr is under way: lambdas, kept or written on the spot, called by the def that gets them. -/
namespace LamX
open PySem PySem.Spec PyProof.Rows L2
/-- what a lambda of X must be there -/
structure LamG (X : Cx) (k : Nat) (params : Arguments) (body : Expr) (scope : Scope) (t : XK → TE) : Prop where
  own : LamS X.env.scope scope
  bind : ∀ (q : Str) (cl : List (Str × Addr)) (pm cv ctv : Value), bindArgs (PySem.W.kla_fn "<lambda>" q params body scope cl pm cv ctv) ⟨[], []⟩ = pure []
  reads : ∀ (A : Around) (outer : List Env) (s : Shared) (H : Hp) (E : XK) (f c' : Addr), Quiet A → Room k (A.deeper (lamEnv X scope s.heap.objs.size f c')) → PE (lamCx X A outer s H E scope f c') body (t E)
section
variable {X : Cx} {pins : List (Addr × Obj)} {σ : L2.St} {H : Hp} {s : Shared}
/-- a() in the def that got the lambda -/
theorem act_quiet {CXg : CXT} {Eg : XK} {Ng : List Str} {qg : Str} {sg : Scope} {g f c1 : Addr} {cdg pm ctv : Value} {params : Arguments} {body : Expr} {scope : Scope} {k i : Nat} {a : Str} {pn : List (Addr × Obj)} {xe : Value → Shared → Prop} {W : WX} {E : XK} {t : XK → TE} {p1 p2 : Pos}
    (I : Inv X pins σ H s) (qu : Quiet X.A) (l : LamG X k params body scope t) (tk : Takes ((cxOf CXg X.prog X.w X.K X.mg X.base Ng qg sg g cdg X.A X.stack s H Eg).tr pn xe) W) (hW : ∀ cls d σ' H', E cls d H' → W cls d σ' H')
    (room : Room (k + 1) (X.A.deeper (envOfC qg sg s.heap.objs.size g cdg))) (hN : Ng[i]? = some a) (hv : Vis sg a) (hd : (a == ("__debug__" : Str)) = false := by decide) (hcd : (a == ("__classdict__" : Str)) = false := by decide) :
    PE ((cxOf CXg X.prog X.w X.K X.mg X.base Ng qg sg g cdg X.A X.stack s H Eg).tr pn xe) (.Call (.Name a p1) [] [] p2)
      (fun σZ HZ Q => σZ[i]? = some (some (.ref f)) ∧ (HZ f = some (FnO f (lamObj X params body scope pm ctv c1)) ∧ HZ c1 = some (CodeO c1 (X.env.qual ++ "<lambda>"))) ∧ t E σ HZ Q) := by
  have own := l.own
  refine ⟨fun pinsZ sZ σZ HZ Q IZ h => ?_⟩
  obtain ⟨at_, ⟨kf, kc⟩, rest⟩ := h
  have name := (pe_var (pos := p1) (i := i) hN hv hd hcd).run pinsZ sZ σZ HZ (fun v H1 => v = .ref f ∧ H1 = HZ) IZ ⟨.ref f, at_, rfl, rfl⟩
  refine wpAny_Call_Name_kw (thn name fun u s1 z => ?_)
  obtain ⟨v, H1, J, rel, rfl, rfl⟩ := z
  obtain rfl : u = Value.ref f := rel
  have obj : s1.heap.get? f = some (lamObj X params body scope pm ctv c1) := (J.hok f _ kf).1
  have code := (J.hok c1 _ kc).1
  obtain ⟨oc, vs, tt, code1, code2, code3⟩ := code
  refine PySem.W.callWith_F0 ⟨_, _, _, _, obj⟩ ?_
  have ran : codeAny (model X.prog X.w) (X.A.deeper (envOfC qg sg s.heap.objs.size g cdg)) (.call (.ref f) ⟨[], []⟩) (CR (L2.CX X.prog X.w) (envOfC qg sg s.heap.objs.size g cdg :: X.stack) X.prog X.w H1 s1 Q E) s1 := by
    refine PySem.W.kla_callFunE room.depth obj rfl own.co own.gen rfl ⟨c1, oc, vs, tt, rfl, code1, code2, code3⟩ ?_
    rw [l.bind]
    refine wpAny_pure (wpAny_newFunctionEnv (fun y hy => (own.own y hy).2) (fun y hy => absurd hy (by simp)) (fun h₁ hns hsb => ?_) own.kind)
    refine ⟨J.nolimit.fresh _ hsb, ?_⟩
    have stay : ∀ b o, s1.heap.get? b = some o → h₁.get? b = some o := fun b o e => hsb.extBut b o (Nat.ne_of_lt (Heap.lt_size e)) (Heap.get?_push_of_some _ e)
    have start : Inv (lamCx X (X.A.deeper (envOfC qg sg s.heap.objs.size g cdg)) (envOfC qg sg s.heap.objs.size g cdg :: X.stack) s1 H1 E scope f c1) [] σ H1 { s1 with heap := h₁, toks := s1.toks + ([] : List (Str × Value)).length } :=
      lam_start2 I own J.env0 room.hd J.base hns stay
    have go := (l.reads (X.A.deeper (envOfC qg sg s.heap.objs.size g cdg)) (envOfC qg sg s.heap.objs.size g cdg :: X.stack) s1 H1 E f c1 (show Quiet (X.A.deeper _) from qu) (room.deeper _)).run [] _ _ H1 Q start rest
    refine PySem.W.kla_codeExpr (wpAny_mono go (fun v s' hq => ?_) fun e s' hq => hq)
    obtain ⟨w', H', J', rv, q⟩ := hq
    exact ⟨w', H', J'.os, J'.bare, J'.base, J'.hok, rv, q⟩
  have out : Passes (L2.CX X.prog X.w) ((cxOf CXg X.prog X.w X.K X.mg X.base Ng qg sg g cdg X.A X.stack s H Eg).tr pn xe) E := passes_call tk hW
  refine wpAny_call (codeAny_mono ran fun r s' hq => ?_)
  match r, hq with
  | .error e, hq => exact out pinsZ σZ H1 s1 e s' J hq
  | .ok (.ret u), hq => exact J.after hq
  | .ok .next, hq => exact False.elim hq
  | .ok .brk, hq => exact False.elim hq
  | .ok .cont, hq => exact False.elim hq
/-- a lambda written where it is handed on -/
def tLamG (T : List (Addr × Str)) (TT : (XK → Hp → VK → Prop) → Hp → VK → Prop) (t : XK → TE) : TE := fun σ H Q => Tabs T H ∧ ∀ H1, ExtN H H1 → Tabs T H1 → TT (fun E H' Q' => t E σ H' Q') H1 Q
theorem pe_lamcallG {T : List (Addr × Str)} {TT : (XK → Hp → VK → Prop) → Hp → VK → Prop} {x a : Str} {g c P : Addr} {k : Nat} {pg : Arguments} {bg : List Stmt} {sg : Scope} {dV kV doc pm cdv ct oc : Value} {an od : Option Addr} {osl : Array (Option Value)} {Ng : List Str}
    {params : Arguments} {body : Expr} {scope : Scope} {t : XK → TE} {p lpos pos : Pos} (qu : Quiet X.A) (hg : Gl X x) (hm : X.mg x = some (.ref g)) (hk : PySem.W.keepIn X.K (.ref g) = true) (lk : X.K.lookup g = some ⟨oc, od, .func (PySem.W.fnOf x x pg bg sg dV kV doc pm an cdv ct), osl⟩) (hcg : PySem.W.codeIn X.K cdv x = true)
    (hb : L2.Binds X.K (PySem.W.fnOf x x pg bg sg dV kV doc pm an cdv ct) [a] []) (Sg : FnScope Ng [a] sg) (hNg : Ng[0]? = some a) (hva : Vis sg a) (hG : GivesK X Ng x sg g cdv bg a TT) (TB : TabB X.base X.mg c P) (hcode : X.env.code = .ref c) (hmT : (P, X.env.qual ++ "<lambda>") ∈ T)
    (hu : ∀ q ∈ T, q.1 = P → q.2 = X.env.qual ++ "<lambda>") (hr : Room (k + 2) X.A) (hdef : defaultsOf params X.env = ([], [])) (l : LamG X k params body scope t)
    (hdb : (x == ("__debug__" : Str)) = false := by decide) (hd : (a == ("__debug__" : Str)) = false := by decide) (hcd : (a == ("__classdict__" : Str)) = false := by decide) :
    PE X (.Call (.Name x p) [.Lambda params body scope lpos] [] pos) (tLamG T TT t) := by
  refine ⟨fun pins s σ H Q I h => wpAny_Call_Name_kw (ld_glob I hg hm ?_ hdb)⟩
  obtain ⟨hT, h⟩ := h
  refine PySem.W.callWith_K (h₀ := X.base) I.ok.mod.kin hk ?_ (by rfl) (by rfl)
  show wpAny _ _ (spliced ((false, eval (.Lambda params body scope lpos) X.env) :: backTo pos (starEach [] X.env))) _ _ s
  refine Calls.spliced_cons (lam_made I TB hcode hmT hu hT hdef (l.own.has I.ok) fun f H1 s1 J eN tA nf lo => ?_)
  refine Calls.spliced_nil ⟨J.kIn, ?_⟩
  obtain ⟨c1, pmf, ctf, kf, kc⟩ := lo
  have ran : codeAny (model X.prog X.w) X.A (.call (.ref g) ⟨[.ref f], []⟩) (CR C8.CX0 X.stack X.prog X.w H1 s1 Q C8.E0) s1 := by
    refine run_ofS (N := Ng) (ps := [a]) (us := [.ref f]) (vs := [.ref f]) lk hcg Sg hr J.env0 (hb s1 [.ref f] J.kIn rfl) (.cons rfl .nil) rfl fun room => ?_
    have gave := hG f (fun HZ => HZ f = some (FnO f (lamObj X params body scope pmf ctf c1)) ∧ HZ c1 = some (CodeO c1 (X.env.qual ++ "<lambda>"))) s1 H1 Q (fun E H' Q' => t E σ H' Q')
      (fun _ _ z e => ⟨e _ _ z.1, e _ _ z.2⟩) (fun W pn xe E p1 p2 tk hW => act_quiet (i := 0) J qu l tk hW room hNg hva hd hcd) ⟨kf, kc⟩ (h H1 eN tA)
    obtain ⟨t1, ht1, hq1⟩ := gave
    exact ⟨t1, ht1.nox, hq1⟩
  refine wpAny_call (codeAny_mono ran fun r s2 hq => ?_)
  match r, hq with
  | .error e, hq => exact (show False from hq).elim
  | .ok (.ret u), hq => exact J.after hq
  | .ok .next, hq => exact False.elim hq
  | .ok .brk, hq => exact False.elim hq
  | .ok .cont, hq => exact False.elim hq
end
end LamX
set_option Elab.async false
set_option linter.all false
set_option maxRecDepth 100000
set_option maxHeartbeats 4000000
/-! The end of a law whose promise wants that no repr is under way. -/
namespace LamX
open PySem PySem.Spec PyProof.Rows L2
/-- tables are tracked from the beginning, and so is the script unless it stands in the text -/
def firstH (K : PySem.W.Frag) (ts : List Addr) (a : Addr) (o : Obj) (xs : List V) : Hp := fun b =>
  if b ∈ ts then some (.tbl #[]) else if b = a ∧ K.lookup a = none then some (.frz o (.lst xs)) else none
theorem firstH_tab {K : PySem.W.Frag} {ts : List Addr} {a b : Addr} {o : Obj} {xs : List V} (h : b ∈ ts) : firstH K ts a o xs b = some (.tbl #[]) := by
  unfold firstH
  rw [if_pos h]
theorem firstH_at {K : PySem.W.Frag} {ts : List Addr} {a : Addr} {o : Obj} {xs : List V} (h : a ∉ ts) (n : K.lookup a = none) : firstH K ts a o xs a = some (.frz o (.lst xs)) := by
  unfold firstH
  rw [if_neg h, if_pos ⟨rfl, n⟩]
theorem firstH_of {K : PySem.W.Frag} {ts : List Addr} {a b : Addr} {o : Obj} {xs : List V} {u : HO} (h : firstH K ts a o xs b = some u) : (b ∈ ts ∧ u = .tbl #[]) ∨ (b = a ∧ K.lookup a = none ∧ u = .frz o (.lst xs)) := by
  unfold firstH at h
  by_cases h1 : b ∈ ts
  · rw [if_pos h1] at h
    exact .inl ⟨h1, (Option.some.inj h).symm⟩
  · rw [if_neg h1] at h
    by_cases h2 : b = a ∧ K.lookup a = none
    · rw [if_pos h2] at h
      exact .inr ⟨h2.1, h2.2, (Option.some.inj h).symm⟩
    · rw [if_neg h2] at h
      cases h
end LamX
set_option Elab.async false
set_option linter.all false
set_option maxRecDepth 100000
set_option maxHeartbeats 4000000
/-! An error raised while a dict is gone over: the dict is unlocked on the way out. -/
namespace L2
open PySem PySem.Spec PyProof.Rows MX
end L2
namespace L2
open PySem PySem.Spec PyProof.Rows MX
end L2
namespace L2
open PySem PySem.Spec PyProof.Rows MX
end L2
set_option Elab.async false
set_option linter.all false
set_option maxRecDepth 100000
set_option maxHeartbeats 4000000
/-! Where no repr is under way: own classes made, methods, [ ], staticmethods, by defs that may raise. -/
namespace L2
open PySem PySem.Spec PyProof.Rows
/-- two promises, of which the one raises nothing -/
theorem FnG.either0 {P : Program} {w : World} {K : PySem.W.Frag} {mg : Str → Option Value} {base : Heap} {C : CXT} {k : Nat} {f : Addr} {fd : FuncData} {ps : List Str} {sp1 sp2 : Sp} (F1 : FnG P w K mg base CX0 k f fd ps sp1) (F2 : FnG P w K mg base C k f fd ps sp2) :
    FnG P w K mg base C k f fd ps (fun vs H Q E => sp1 vs H Q E0 ∨ sp2 vs H Q E) := by
  refine ⟨fun vs H Q E h => h.elim (F1.count _ _ _ _) (F2.count _ _ _ _), fun A outer s H args us vs Q E g r e b v h => ?_⟩
  rcases h with h | h
  · refine codeAny_mono (F1.runs A outer s H args us vs Q E0 g r e b v h) fun x s2 q => ?_
    match x, q with
    | .error er, q => exact (show False from q).elim
    | .ok (.ret u), q => exact q
    | .ok .next, q => exact q
    | .ok .brk, q => exact q
    | .ok .cont, q => exact q
  · exact F2.runs A outer s H args us vs Q E g r e b v h
section
variable {X : Cx} {C : CXT} {k j n : Nat} {f Cl p0 : Addr} {fd : FuncData} {ps ks : List Str} {sp : Sp} {E : XK} {m : Str} {o e : Expr} {es : List Expr} {kws : List Keyword} {pos apos : Pos} {ta tb : TE} {t tk : TA} {mc : Value}
/-- the def runs, wherever it is quiet -/
theorem runQ {A : Around} {pins : List (Addr × Obj)} {σ : St} {H : Hp} {s : Shared} {Q : VK} {us : List Value} {xs : List V} (F : FnG X.prog X.w X.K X.mg X.base C k f fd ps sp) (g : Quiet A) (sb : Sub X k A) (b : Binds X.K fd ps []) (out : Passes C X E)
    (I : Inv X pins σ H s) (v : Vals xs us) (h : sp xs H Q E) : wpAny (model X.prog X.w) A (call (.ref f) us) (EP X pins σ Q) X.xe s := by
  have en : Env0 X.prog X.w X.K X.mg X.base A X.stack s H := by
    have z := I.env0
    exact ⟨by rw [sb.fr]; exact z.frames, z.mod, z.bs, z.bsz, z.funs, z.frf, z.hok, z.bare⟩
  have many : us.length = ps.length := by
    rw [← v.length]
    exact F.count _ _ _ _ h
  have bd := b s us I.kIn (by rw [List.append_nil]; exact many)
  rw [List.append_nil] at bd
  refine wpAny_call (codeAny_mono (F.runs A X.stack s H ⟨us, []⟩ us xs Q E g sb.room en bd v h) fun x s2 q => ?_)
  match x, q with
  | .error er, q => exact out pins σ H s er s2 I q
  | .ok (.ret u), q => exact I.after q
  | .ok .next, q => exact q.elim
  | .ok .brk, q => exact q.elim
  | .ok .cont, q => exact q.elim
end
end L2
set_option Elab.async false
set_option linter.all false
set_option maxRecDepth 100000
set_option maxHeartbeats 8000000
set_option pp.maxSteps 900
/-! What is due of any thing for merging; long images refused; merging and shows_merging of any thing. -/
namespace V8
open PySem PySem.Spec PyProof.Rows L2 MZ MX LamX
abbrev s_shows_merging : Stmt := topS 75
theorem sc_shows_merging : FnScope ["misreading", "value", "pairs"] ["misreading", "value"] (defScope s_shows_merging) := ⟨rfl, rfl, rfl, by decide +kernel, rfl, by decide +kernel, by decide +kernel⟩
inductive Due where
  | bad
  | long
  | fine
  deriving DecidableEq
def OutD (CB CX : Addr) (H : Hp) (due : Due) (E : XK) : Prop := match due with
  | .bad => ∀ dd H2, Same H H2 → H2 dd = some (.xd [("part", .str "misreading")]) → E (.ref CB) (some dd) H2
  | .long => ∀ dd H2, Same H H2 → H2 dd = some (.xd [("most", .int 8), ("what", .str "image")]) → E (.ref CX) (some dd) H2
  | .fine => True
theorem OutD.same {CB CX : Addr} {H H1 : Hp} {due : Due} {E : XK} (o : OutD CB CX H due E) (s : Same H H1) : OutD CB CX H1 due E := by
  cases due with
  | bad => exact fun dd H2 s2 e => o dd H2 (fun b u h => s2 _ _ (s _ _ h)) e
  | long => exact fun dd H2 s2 e => o dd H2 (fun b u h => s2 _ _ (s _ _ h)) e
  | fine => trivial
def shortT (u : Tab) : Bool := ((keysOf u).filter fun c => decide (8 < ((lookT u c).getD []).length)).isEmpty
theorem mis_ext {C x : Addr} {H H2 : Hp} {u : Tab} (m : MisAt C H x u) (s : ExtN H H2) : MisAt C H2 x u := by
  obtain ⟨dx, a, b, c, h1, h2, h3, h4⟩ := m.at_
  exact ⟨dx, a, b, c, s _ _ h1 (fun _ z => nomatch z), s _ _ h2 (fun _ z => nomatch z), s _ _ h3 (fun _ z => nomatch z), s _ _ h4 (fun _ z => nomatch z)⟩
/-- a table of a misreading that the law makes -/
structure Mad (u : Tab) : Prop where
  im : ∀ c ∈ keysOf u, ((lookT u c).getD []).length ≤ 100
  ok : shortT u = true → OkU u
/-- any thing: no misreading, or one -/
def ThingM (K : PySem.W.Frag) (CM : Addr) (H : Hp) (y : V) : Option Tab → Prop
  | none => ∃ t, (∀ H2, ExtN H H2 → TyX K H2 y t) ∧ PySem.W.kitOne K t (.ref CM) = some false
  | some u => ∃ x : Addr, y = .ref x ∧ MisAt CM H x u ∧ Mad u
theorem ThingM.ext {K : PySem.W.Frag} {CM : Addr} {H H1 : Hp} {y : V} {d : Option Tab} (h : ThingM K CM H y d) (s : ExtN H H1) : ThingM K CM H1 y d := by
  cases d with
  | none =>
    obtain ⟨t, ty, k⟩ := h
    exact ⟨t, fun H2 s2 => ty H2 (s.trans s2), k⟩
  | some u =>
    obtain ⟨x, e, m, l⟩ := h
    exact ⟨x, e, mis_ext m s, l⟩
theorem ThingM.same {K : PySem.W.Frag} {CM : Addr} {H H1 : Hp} {y : V} {d : Option Tab} (h : ThingM K CM H y d) (s : Same H H1) : ThingM K CM H1 y d := h.ext (ExtN.of s)
def dueO : Option Tab → Due
  | none => .bad
  | some u => if shortT u = true then .fine else .long
theorem due_short {u : Tab} (h : shortT u = true) : dueO (some u) = .fine := by
  show (if shortT u = true then Due.fine else Due.long) = _
  rw [if_pos h]
theorem due_long {u : Tab} (h : shortT u = false) : dueO (some u) = .long := by
  show (if shortT u = true then Due.fine else Due.long) = _
  rw [h]
  rfl
theorem th_mis {H : Hp} : Th1 H (.str "misreading") (.str "misreading") := ⟨.inl (.inl ⟨_, rfl⟩), .str _, ⟨by decide +kernel, by decide +kernel, by decide +kernel⟩, by decide +kernel, by decide +kernel⟩
theorem OutD.rz {CB CX : Addr} {H : Hp} {E : XK} (d : OutD CB CX H .bad E) : Rz1 CB "part" (.str "misreading") H E := ⟨.str "misreading", th_mis, fun dx y H2 s2 p e => by
  have ey : y = .str "misreading" := by
    cases p
    rfl
  rw [ey] at e
  exact d dx H2 s2 e⟩
def spCkE (K : PySem.W.Frag) (CM CB CX : Addr) : Sp := fun vs H Q E => ∃ (v : V) (o : Option Tab), vs = [v] ∧ ThingM K CM H v o ∧ (o = none → OutD CB CX H .bad E) ∧ (o ≠ none → ∀ H', Same H H' → Q .non H')
section
variable {P : Program} {w : World} {K : PySem.W.Frag} {mg : Str → Option Value} {base : Heap} {CM CJ CB CX : Addr}
theorem ok_ckE {f : Addr} {fd : FuncData} (F : Fun K "check_misreading" "check_misreading" s_check_misreading f fd) (T : Tp K mg CM CJ) (E_BadTable : Er1 P w K mg base "BadTable" "part" CB) : FnG P w K mg base (L2.CX P w) 5 f fd ["value"] (spCkE K CM CB CX) := by
  refine F.okXG sc_check_misreading (fun vs H Q E h => ?_) (fun cdv A outer s H vs Q E quiet hr h => ?_)
  · obtain ⟨v, o, rfl, _⟩ := h
    rfl
  · obtain ⟨v, o, rfl, tv, bad, q⟩ := h
    have hr2 := hr
    refine ⟨_, (pss_one (ps_if (pt_not (pt_val (pe_callB call_isi (by rfl) T.isinstance (by decide +kernel) (pa_cons (pv 0) (pa_cons (pe_gv T.gMisreading (by rfl)) pa_nil)))))
        (pss_one (ps_raise rfl (takes_of rfl rfl rfl rfl) (pmk_one E_BadTable quiet hr (by decide) (by rfl) (pa_cons pe_str pa_nil))))
        pss_nil)), ?_⟩
    cases o with
    | none =>
      obtain ⟨t, ty, k⟩ := tv
      refine ⟨_, rfl, _, .ref CM, t, .ref CM, false, rfl, .own _, ty _ (ExtN.refl _), k, false, rfl, iteT ?_⟩
      exact ⟨by show 1 ≤ 1000; decide, fun a na => rz1 E_BadTable.oc E_BadTable.no (OutD.rz (CX := CX) (bad rfl)) a na⟩
    | some u =>
      obtain ⟨x, rfl, m, _⟩ := tv
      obtain ⟨dx, fs, hx⟩ := m.ins
      refine ⟨_, rfl, _, .ref CM, .ref CM, .ref CM, true, rfl, .own _, .base (.ins hx T.cl T.tA T.tB T.tC T.tD), T.mM, true, rfl, iteF ?_⟩
      exact q (fun z => nomatch z) _ (Same.refl _)
end
theorem passTk {X : Cx} {E : XK} (tk : Takes X fun cls d _ H => E cls d H) : Passes (L2.CX X.prog X.w) X E := passes_call tk fun _ _ _ _ h => h
def lngC (u : Tab) (c : Nat) : Bool := decide (8 < ((lookT u c).getD []).length)
theorem any_long (u : Tab) : ((keysOf u).map (lngC u)).any id = !shortT u := by
  have e : shortT u = ((keysOf u).filter (lngC u)).isEmpty := rfl
  rw [e]
  generalize keysOf u = ks
  induction ks with
  | nil => rfl
  | cons c r ih =>
    rw [List.map_cons, List.any_cons, List.filter_cons, ih]
    cases h : lngC u c <;> rfl
theorem th_image {H : Hp} : Th1 H (.str "image") (.str "image") := ⟨.inl (.inl ⟨_, rfl⟩), .str _, ⟨by decide +kernel, by decide +kernel, by decide +kernel⟩, by decide +kernel, by decide +kernel⟩
theorem th_eight {H : Hp} : Th1 H (.int 8) (.int 8) := ⟨.inl (.inr (.inl ⟨_, rfl⟩)), .int _, ⟨by decide +kernel, by decide +kernel, by decide +kernel⟩, by decide +kernel, by decide +kernel⟩
theorem rzI {K : PySem.W.Frag} {C : Addr} {H : Hp} {E : XK} {E0 : XK} (oc : OexC K C) (n1 : PySem.W.findIn K (.ref C) "what" = some none) (n2 : PySem.W.findIn K (.ref C) "most" = some none)
    (h : ∀ dd H2, Same H H2 → H2 dd = some (.xd [("most", .int 8), ("what", .str "image")]) → E (.ref C) (some dd) H2) (a : Addr) (na : H a = none) :
    spErrW2 K C "what" "most" (.ref a :: ([.str "image", .int 8] ++ [])) (upd H a (exo a C none)) (fun v H2 => v = .non ∧ ∃ (d : Addr) (fs : List (Str × V)), H2 a = some (exo a C (some d)) ∧ H2 d = some (exd d fs) ∧ H d = none ∧ E (.ref C) (some d) (upd (del H2 a) d (.xd fs))) E0 := by
  refine ⟨a, .str "image", .int 8, .str "image", .int 8, rfl, upd_same, oc, n1, n2, th_image, th_eight, fun y1 y2 dx H2 s2 p1 p2 ndx ne e1 e2 => ?_⟩
  cases p1
  cases p2
  have nx : H dx = none := by
    rw [upd_ne ne] at ndx
    exact ndx
  refine ⟨rfl, dx, _, by rw [upd_ne (Ne.symm ne)]; exact e2, upd_same, nx, h dx _ (fun b o e => ?_) upd_same⟩
  rw [upd_ne (ne_of_none e nx), del_ne (ne_of_none e na), upd_ne (ne_of_none e nx)]
  exact s2 _ _ (by rw [upd_ne (ne_of_none e na)]; exact e) (ne_of_none e na)
def spLenE (CM CB CX : Addr) : Sp := fun vs H Q E => ∃ (x : Addr) (u : Tab), vs = [.ref x] ∧ MisAt CM H x u ∧ (∀ c ∈ keysOf u, ((lookT u c).getD []).length ≤ 100) ∧ (shortT u = true → ∀ H', Same H H' → Q .non H') ∧ (shortT u = false → OutD CB CX H .long E)
def spImE (K : PySem.W.Frag) (CM CB CX : Addr) : Sp := fun vs H Q E => ∃ (v : V) (o : Option Tab), vs = [v] ∧ ThingM K CM H v o ∧ (dueO o ≠ .fine → OutD CB CX H (dueO o) E) ∧ (dueO o = .fine → ∀ H', Same H H' → Q .non H')
section
variable {P : Program} {w : World} {K : PySem.W.Frag} {mg : Str → Option Value} {base : Heap} {CM CJ CB CX : Addr}
theorem ok_lenE {f : Addr} {fd : FuncData} (F : Fun K "check_length" "check_length" s_check_length f fd) (T : Tp K mg CM CJ) (D_iter : ItM P w K mg base 1 CM (snIter CM)) (D_get : Mf P w K mg base 2 CM "__getitem__" (spGet CM)) (E_TooMany : Er2 P w K mg base "TooMany" "what" "most" CX) : FnG P w K mg base (L2.CX P w) 5 f fd ["misreading"] (spLenE CM CB CX) := by
  refine F.okXG sc_check_length (fun vs H Q E h => ?_) (fun cdv A outer s H vs Q E quiet hr h => ?_)
  · obtain ⟨x, u, rfl, _⟩ := h
    rfl
  · obtain ⟨x, u, rfl, m, l100, q, bad⟩ := h
    have hr2 := hr
    refine ⟨_, (pss_one (ps_if (pt_val (pe_callB (cr_any rfl) (by rfl) T.any (by decide +kernel) (pa_cons (pe_lc (own := [("letter", 1)]) (g := gName 1) (by rfl) sc_check_length.nd (pi_ownI D_iter hr (by decide) (pv 0)) (blkOk_by (own := [("letter", 1)]) (N := n_check_length) (sc := defScope s_check_length) (by decide +kernel)) (fun _ _ _ _ _ => (pg_name (i := 1) sc_check_length.nd rfl (.inl rfl))) (fun _ _ _ _ _ => pts_nil) (fun _ _ _ _ _ => (pe_cmpR op_gt (pe_callB call_len_str (by rfl) T.len (by decide +kernel) (pa_cons (pe_ixO D_get hr (by decide) (pv 0) (pv 1)) pa_nil)) (pe_gv T.gLONGEST_IMAGE (by rfl)) (nomark _)))) pa_nil)))
        (pss_one (ps_raise rfl (takes_of rfl rfl rfl rfl) (pmk_two E_TooMany quiet hr (by decide) (by rfl) (pa_cons pe_str (pa_cons (pe_gv T.gLONGEST_IMAGE (by rfl)) pa_nil)))))
        pss_nil)), ?_⟩
    have lk := lets_len (keysOf u)
    have k26 := keysOf_len u
    obtain ⟨dx0, fs0, hx0⟩ := m.ins
    refine ⟨_, rfl, x, dx0, _, rfl, hx0, fun k0 hk0 => ⟨x, u, rfl, m, fun it a ni hi ha => ⟨it, a, rfl, hi, upd_same, ?_⟩⟩⟩
    rw [dropH_upd ni]
    refine fun D nD => lc_it (walk_tup (K := K) (a := a) (xs := lets (keysOf u))) (fun i H2 => H2 D = some (.lst ((((keysOf u).take i).map (lngC u)).map V.bl)) ∧ Same H H2) ?_ ?_ ?_ ?_
    · exact ⟨upd_same, same_put (s := Same.refl H) nD⟩
    · rintro i H2 hi ⟨_, s2⟩
      exact .inl (.inl (s2 _ _ ha))
    · rintro i y H20 H2 hi ⟨hD, s2⟩ ⟨rfl, hy⟩
      obtain ⟨hi', rfl⟩ := lets_get hy
      have hc := List.getElem_mem hi'
      obtain ⟨s', es⟩ := Option.isSome_iff_exists.mp (keysOf_mem.mp hc).2
      have m2 := m.same2 s2
      obtain ⟨dx, a1, b1, c1, h1, _⟩ := m2.at_
      have l1 := l100 _ hc
      rw [es] at l1
      have l1 : s'.length ≤ 100 := l1
      have eL : decide ((8 : Int) < ((Sx s').length : Int)) = lngC u (keysOf u)[i] := by
        unfold lngC
        rw [es, Sx_len]
        show _ = decide (8 < s'.length)
        rw [decide_eq_decide]
        omega
      refine ⟨rfl, _, rfl, _, rfl, x, dx, _, rfl, h1, x, u, _, s', rfl, m2, hc, es, ?_⟩
      refine ⟨_, rfl, by rw [Sx_len, sizeLine_eq]; omega, _, _, rfl, rfl, ?_⟩
      refine ⟨_, hD, by rw [List.length_map, List.length_map, List.length_take, sizeLine_eq]; omega, ?_, fun b o e => ?_⟩
      · show upd _ _ (.lst (_ ++ [V.bl (decide ((8 : Int) < ((Sx s').length : Int)))])) D = _
        rw [upd_same, eL, List.take_add_one, List.getElem?_eq_getElem hi', List.map_append, List.map_append]
        rfl
      · show upd H2 D _ b = _
        rw [upd_ne (ne_of_none e nD)]
        exact s2 _ _ e
    · rintro H2 ⟨hD, s2⟩
      rw [lk, List.take_length] at hD
      refine ⟨D, _, rfl, SqL.of hD, !shortT u, congrArg V.bl (any_long u), ?_⟩
      cases e : shortT u with
      | true => exact iteF (q e H2 s2)
      | false =>
        refine iteT ?_
        exact ⟨by show 2 ≤ 1000; decide, fun a na => rzI E_TooMany.oc E_TooMany.n1 E_TooMany.n2 ((bad e).same s2) a na⟩
theorem ok_imE {f : Addr} {fd : FuncData} (F : Fun K "check_images" "check_images" s_check_images f fd) (D_check_misreading : DfG P w K mg base (L2.CX P w) 5 "check_misreading" (spCkE K CM CB CX)) (D_check_length : DfG P w K mg base (L2.CX P w) 5 "check_length" (spLenE CM CB CX)) : FnG P w K mg base (L2.CX P w) 6 f fd ["misreading"] (spImE K CM CB CX) := by
  refine F.okXG sc_check_images (fun vs H Q E h => ?_) (fun cdv A outer s H vs Q E quiet hr h => ?_)
  · obtain ⟨v, o, rfl, _⟩ := h
    rfl
  · obtain ⟨v, o, rfl, tv, bad, q⟩ := h
    have hr2 := hr
    refine ⟨_, (pss_cons (ps_expr (pe_cG D_check_misreading quiet (passTk (takes_of rfl rfl rfl rfl)) hr (by decide) (by rfl) (pa_cons (pv 0) pa_nil)))
      (pss_one (ps_expr (pe_cG D_check_length quiet (passTk (takes_of rfl rfl rfl rfl)) hr (by decide) (by rfl) (pa_cons (pv 0) pa_nil))))), ?_⟩
    refine ⟨_, rfl, v, o, rfl, tv, fun e => ?_, fun e H1 s1 => ?_⟩
    · subst e
      exact bad (fun z => nomatch z)
    · cases o with
      | none => exact absurd rfl e
      | some u =>
        obtain ⟨x, rfl, m, md⟩ := tv
        refine ⟨_, rfl, x, u, rfl, m.same2 s1, md.im, fun sh H2 s2 => ?_, fun sh => ?_⟩
        · exact q (due_short sh) H2 fun b o z => s2 _ _ (s1 _ _ z)
        · have ed := due_long sh
          rw [ed] at bad
          exact (bad (fun z => nomatch z)).same s1
end
theorem nxtS {D : Ends} {σ : L2.St} {H : Hp} (h : D.nx σ H) : tNext D σ H := h
theorem pss_no {X : Cx} {b : List Stmt} : PSs X b (fun _ _ _ => False) := ⟨fun _ _ _ _ _ _ h => h.elim⟩
theorem pe_no {X : Cx} {e : Expr} : PE X e (fun _ _ _ => False) := ⟨fun _ _ _ _ _ _ h => h.elim⟩
def spMrgX (K : PySem.W.Frag) (CM CB CX : Addr) : Sp := fun vs H Q E => ∃ (v : V) (o : Option Tab), vs = [v] ∧ ThingM K CM H v o ∧ dueO o ≠ .fine ∧ OutD CB CX H (dueO o) E
/-- merging of any thing -/
def spMrgA (K : PySem.W.Frag) (aS aE aV aD CM CB CX CO CR : Addr) : Sp := fun vs H Q E => ∃ (v : V) (o : Option Tab), vs = [v] ∧ ThingM K CM H v o ∧ CnH K aS aE aV H ∧ SqT K H aD [.str (sideS true), .str (sideS false)] ∧ (dueO o ≠ .fine → OutD CB CX H (dueO o) E) ∧
  (dueO o = .fine → ∀ u, o = some u → ∀ z H', Same H H' → VerO CO CR (pairsT u) H' z → Q (.ref z) H')
def PapV (K : PySem.W.Frag) (CO CR : Addr) (H : Hp) (v : V) : Prop := ∃ t, (∀ H2, ExtN H H2 → TyX K H2 v t) ∧ PySem.W.kitOne K t (.ref CO) = some false ∧ PySem.W.kitOne K t (.ref CR) = some false
theorem PapV.ext {K : PySem.W.Frag} {CO CR : Addr} {H H1 : Hp} {v : V} (h : PapV K CO CR H v) (s : ExtN H H1) : PapV K CO CR H1 v := by
  obtain ⟨t, ty, k⟩ := h
  exact ⟨t, fun H2 s2 => ty H2 (s.trans s2), k⟩
theorem PapV.same {K : PySem.W.Frag} {CO CR : Addr} {H H1 : Hp} {v : V} (h : PapV K CO CR H v) (s : Same H H1) : PapV K CO CR H1 v := h.ext (ExtN.of s)
def spShowA (K : PySem.W.Frag) (CM CB CX CO CR : Addr) : Sp := fun vs H Q E => ∃ (v pv : V) (o : Option Tab), vs = [v, pv] ∧ ThingM K CM H v o ∧ PapV K CO CR H pv ∧ (dueO o ≠ .fine → OutD CB CX H (dueO o) E) ∧ (dueO o = .fine → ∀ H', Same H H' → Q (.bl false) H')
theorem fnG_imp6 {P : Program} {w : World} {K : PySem.W.Frag} {mg : Str → Option Value} {base : Heap} {C : CXT} {k : Nat} {f : Addr} {fd : FuncData} {ps : List Str} {sp sp2 : Sp} (F : FnG P w K mg base C k f fd ps sp) (i : ∀ vs H Q E, sp2 vs H Q E → sp vs H Q E) : FnG P w K mg base C k f fd ps sp2 :=
  ⟨fun xs H Q E h => F.count xs H Q E (i _ _ _ _ h), fun A outer s H args us xs Q E g r e b v h => F.runs A outer s H args us xs Q E g r e b v (i _ _ _ _ h)⟩
section
variable {P : Program} {w : World} {K : PySem.W.Frag} {mg : Str → Option Value} {base : Heap} {aS aE aV aD CM CJ CB CX CO CR : Addr}
theorem ok_mrgX {f : Addr} {fd : FuncData} (F : Fun K "merging" "merging" s_merging f fd) (D_check_images : DfG P w K mg base (L2.CX P w) 6 "check_images" (spImE K CM CB CX)) : FnG P w K mg base (L2.CX P w) 7 f fd ["misreading"] (spMrgX K CM CB CX) := by
  refine F.okXG sc_merging (fun vs H Q E h => ?_) (fun cdv A outer s H vs Q E quiet hr h => ?_)
  · obtain ⟨v, o, rfl, _⟩ := h
    rfl
  · obtain ⟨v, o, rfl, tv, nf, bad⟩ := h
    have hr2 := hr
    refine ⟨_, (pss_cons (ps_expr (pe_cG D_check_images quiet (passTk (takes_of rfl rfl rfl rfl)) hr (by decide) (by rfl) (pa_cons (pv 0) pa_nil))) pss_no), ?_⟩
    exact ⟨_, rfl, v, o, rfl, tv, fun _ => bad, fun e => absurd e nf⟩
theorem mrgA {f : Addr} {fd : FuncData} {ps : List Str} (F0 : FnOk P w K mg base CX0 7 f fd ps (spMerging K aS aE aV aD CM CO CR)) (F1 : FnG P w K mg base (L2.CX P w) 7 f fd ps (spMrgX K CM CB CX)) : FnG P w K mg base (L2.CX P w) 7 f fd ps (spMrgA K aS aE aV aD CM CB CX CO CR) :=
  fnG_imp6 (FnG.either0 F0.quiet F1) fun vs H Q E h => by
    obtain ⟨v, o, rfl, tv, cn, sd, bad, q⟩ := h
    by_cases e : dueO o = .fine
    · refine .inl ?_
      cases o with
      | none => cases e
      | some u =>
        obtain ⟨x, rfl, m, md⟩ := tv
        have sh : shortT u = true := by
          cases z : shortT u with
          | true => rfl
          | false =>
            rw [due_long z] at e
            cases e
        exact ⟨x, u, rfl, m, md.ok sh, cn, sd, fun z H2 s2 nz vz => q e u rfl z H2 s2 vz⟩
    · exact .inr ⟨v, o, rfl, tv, e, bad e⟩
structure Tsm (K : PySem.W.Frag) (mg : Str → Option Value) (CM CJ CO CR : Addr) : Prop extends Tz K mg CM CJ where
  gOneToOne : GV mg "OneToOne" (.ref CO)
  gMerged : GV mg "Merged" (.ref CR)
theorem ok_showsA {f : Addr} {fd : FuncData} (F : Fun K "shows_merging" "shows_merging" s_shows_merging f fd) (T : Tsm K mg CM CJ CO CR) (D_check_images : DfG P w K mg base (L2.CX P w) 6 "check_images" (spImE K CM CB CX)) : FnG P w K mg base (L2.CX P w) 7 f fd ["misreading", "value"] (spShowA K CM CB CX CO CR) := by
  refine F.okXG sc_shows_merging (fun vs H Q E h => ?_) (fun cdv A outer s H vs Q E quiet hr h => ?_)
  · obtain ⟨v, pv, o, rfl, _⟩ := h
    rfl
  · obtain ⟨v, ppv, o, rfl, tv, pp, bad, q⟩ := h
    have hr2 := hr
    refine ⟨_, (pss_cons (ps_expr (pe_cG D_check_images quiet (passTk (takes_of rfl rfl rfl rfl)) hr (by decide) (by rfl) (pa_cons (pv 0) pa_nil)))
      (pss_cons (ps_if (pt_val (pe_callB call_isi (by rfl) T.isinstance (by decide +kernel) (pa_cons (pv 1) (pa_cons (pe_gv T.gOneToOne (by rfl)) pa_nil)))) pss_no pss_nil)
      (pss_one (ps_ret (pe_and (pe_callB call_isi (by rfl) T.isinstance (by decide +kernel) (pa_cons (pv 1) (pa_cons (pe_gv T.gMerged (by rfl)) pa_nil))) (pe_one pe_no)))))), ?_⟩
    refine ⟨_, rfl, v, o, rfl, tv, bad, fun e H1 s1 => ?_⟩
    obtain ⟨t, ty, k1, k2⟩ := pp.same s1
    refine ⟨_, rfl, _, .ref CO, t, .ref CO, false, rfl, .own _, ty _ (ExtN.refl _), k1, false, rfl, iteF (nxtS ?_)⟩
    refine ⟨_, rfl, _, .ref CR, t, .ref CR, false, rfl, .own _, ty _ (ExtN.refl _), k2, false, rfl, ?_⟩
    exact q e _ s1
end
end V8
set_option Elab.async false
set_option linter.all false
set_option maxRecDepth 100000
set_option maxHeartbeats 16000000
set_option pp.maxSteps 2000
/-! What is heard of a call: what it returns, or its error. -/
namespace V8
open PySem PySem.Spec PyProof.Rows L2 LamX MX
abbrev s_heard : Stmt := topS 91
abbrev n_heard : List Str := ["_law_ask", "_law_caught", "_law_found", "error"]
theorem sc_heard : FnScope ["_law_ask", "_law_caught", "_law_found", "error"] ["_law_ask"] (defScope s_heard) := ⟨rfl, rfl, rfl, by decide +kernel, rfl, by decide +kernel, by decide +kernel⟩
structure Th (K : PySem.W.Frag) (mg : Str → Option Value) (CB CT CR : Addr) : Prop extends Tq mg where
  gBadTable : GV mg "BadTable" (.ref CB)
  gTooMany : GV mg "TooMany" (.ref CT)
  gE : mg "RepairError" = some (.ref CR)
  eB : PySem.W.exmOne K (.ref CB) (.ref CR) = some true
  eT : PySem.W.exmOne K (.ref CT) (.ref CR) = some true
  kBB : PySem.W.kitOne K (.ref CB) (.ref CB) = some true
  kTB : PySem.W.kitOne K (.ref CT) (.ref CB) = some false
  kTT : PySem.W.kitOne K (.ref CT) (.ref CT) = some true
  xB : ExcC K CB
  xT : ExcC K CT
  nB : PySem.W.findIn K (.ref CB) "part" = some none
  n1 : PySem.W.findIn K (.ref CT) "what" = some none
  n2 : PySem.W.findIn K (.ref CT) "most" = some none
/-- heard: what is returned of an error -/
def HearE (CB CT : Addr) (Q : VK) : XK := fun cls d H => ∃ dd, d = some dd ∧
  ((cls = .ref CB ∧ ∃ v, H dd = some (.xd [("part", v)]) ∧ ∀ t H2, Same H H2 → H2 t = some (.tup [.str "table", v]) → Q (.ref t) H2) ∨
   (cls = .ref CT ∧ ∃ m v, H dd = some (.xd [("most", m), ("what", v)]) ∧ ∀ t H2, Same H H2 → H2 t = some (.tup [v, m]) → Q (.ref t) H2))
/-- .. of a value -/
def HearV (Q : VK) : VK := fun v H => ∀ l H2, Same H H2 → H l = none → H2 l = some (.lst [v]) → Q (.ref l) H2
def TTheard (CB CT : Addr) : (XK → Hp → VK → Prop) → Hp → VK → Prop := fun tl H Q => ∀ (R : VK) (H1 : Hp), (∀ v H', HearV Q v H' → R v H') → Same H H1 → tl (HearE CB CT Q) H1 R
theorem four_of {l : L2.St} (h : l.length = 4) : ∃ a b c d, l = [a, b, c, d] := by
  match l, h with
  | [a, b, c, d], _ => exact ⟨a, b, c, d, rfl⟩
theorem heard_givesK {X : Cx} {CB CT CR g : Addr} {cdg : Value} (T : Th X.K X.mg CB CT CR) (hr3 : ∀ (s : Shared), Room 1 (X.A.deeper (envOfC "_law_heard" (defScope s_heard) s.heap.objs.size g cdg))) : GivesK X n_heard "_law_heard" (defScope s_heard) g cdg (defBody s_heard) "_law_ask" (TTheard CB CT) := by
  intro f Kn s H Q tl stay act hc h
  have hr := hr3 s
  refine ⟨_, (pss_cons (ps_asg (pe_tup (pa_cons pe_non (pa_cons pe_non pa_nil))) (pg_tup (by rfl) (pgs_cons (pg_name (i := 1) sc_heard.nd rfl (.inl rfl)) (pgs_cons (pg_name (i := 2) sc_heard.nd rfl (.inl rfl)) pgs_nil))))
      (pss_cons (ps_try_keep (X := (cxOf C8.CX0 X.prog X.w X.K X.mg X.base n_heard "_law_heard" (defScope s_heard) g cdg X.A X.stack s H C8.E0).nox) (c := .ref CR) (i := 3) (tb := fun W D σ H => ∃ Ech : XK, (∀ cls d σ' H', Ech cls d H' → W cls d σ' H') ∧ σ[0]? = some (some (.ref f)) ∧ Kn H ∧ tl Ech H (fun v H' => D.nx (σ.set 2 (some v)) H')) rfl rfl sc_heard.nd rfl rfl ⟨by rfl, by decide, .inl T.gE⟩ (fun W pn xe tk _ => ?_) (fun a pn => pss_one (ps_set (i := 1) sc_heard.nd rfl (.inl rfl) (pv 3))))
      (pss_cons (ps_if (pt_cmpR op_isN (pv 1) pe_non (nomark _))
        (pss_one (ps_ret (pe_lst (pa_cons (pv 2) pa_nil))))
        pss_nil)
      (pss_cons (ps_if (pt_val (pe_callB call_isK (by rfl) T.isinstance (by decide +kernel) (pa_cons (pv 1) (pa_cons (pe_gv T.gBadTable (by rfl)) pa_nil))))
        (pss_one (ps_ret (pe_tup (pa_cons pe_str (pa_cons (pe_keptF (pv 1)) pa_nil)))))
        pss_nil)
      (pss_one (ps_ret (pe_ifExp (pt_val (pe_callB call_isK (by rfl) T.isinstance (by decide +kernel) (pa_cons (pv 1) (pa_cons (pe_gv T.gTooMany (by rfl)) pa_nil)))) (pe_tup (pa_cons (pe_keptF (pv 1)) (pa_cons (pe_keptF (pv 1)) pa_nil))) (pe_tup (pa_cons pe_str (pa_cons pe_non pa_nil)))))))))), ?_⟩
  · refine ⟨fun pins s' σ H' D I h' => ?_⟩
    obtain ⟨Ech, hW, h1, h2, h3⟩ := h'
    exact PSs.run (pss_one (ps_set (i := 2) sc_heard.nd rfl (.inl rfl) (act W pn xe Ech _ _ tk hW))) pins s' σ H' D I ⟨h1, h2, h3⟩
  · refine ⟨by show 2 ≤ sizeLine; decide, fun t0 n0 => ⟨t0, _, rfl, .inl (.inl upd_same), rfl, _, _, rfl, _, _, rfl, rfl, ?_⟩⟩
    have s0 : Same H (upd H t0 (.tup [.non, .non])) := same_put (s := Same.refl H) n0
    have hc1 := stay _ _ hc s0
    refine ⟨HearE CB CT Q, ?_, rfl, hc1, h _ _ (fun v H' hv => ?_) s0⟩
    · rintro cls d σ' H' ⟨dd, rfl, hh⟩
      have kept : ∀ {C : Addr} {fs : List (Str × V)} {a : Addr}, H' a = none → H' dd = some (.xd fs) → ExcC X.K C → KeptX X.K (upd H' a (CaughtO (.ref C) (some dd) a)) a C fs := fun na hx cl =>
        ⟨⟨dd, upd_same, by rw [upd_ne (ne_of_none hx na)]; exact hx⟩, cl⟩
      rcases hh with ⟨rfl, v, hx, hq⟩ | ⟨rfl, m, v, hx, hq⟩
      · refine ⟨T.eB, fun len a na => ?_⟩
        obtain ⟨s0, s1, s2, s3, rfl⟩ := four_of len
        have k := kept na hx T.xB
        refine ⟨_, rfl, _, rfl, rfl, false, rfl, iteF ?_⟩
        refine ⟨_, rfl, a, CB, _, .ref CB, .ref CB, true, rfl, k, fun u r => r, T.kBB, true, rfl, iteT ?_⟩
        exact ⟨_, rfl, a, CB, _, v, rfl, k, T.nB, by simp [List.lookup], by show 2 ≤ sizeLine; decide, fun t nt => hq t _ (same_put (s := same_put (s := Same.refl H') na) nt) upd_same⟩
      · refine ⟨T.eT, fun len a na => ?_⟩
        obtain ⟨s0, s1, s2, s3, rfl⟩ := four_of len
        have k := kept na hx T.xT
        refine ⟨_, rfl, _, rfl, rfl, false, rfl, iteF ?_⟩
        refine ⟨_, rfl, a, CT, _, .ref CB, .ref CB, false, rfl, k, fun u r => r, T.kTB, false, rfl, iteF ?_⟩
        refine ⟨_, rfl, a, CT, _, .ref CT, .ref CT, true, rfl, k, fun u r => r, T.kTT, true, rfl, iteT ?_⟩
        exact ⟨_, rfl, a, CT, _, v, rfl, k, T.n1, by simp only [List.lookup, show (("what" : Str) == "most") = false from by decide +kernel, show (("what" : Str) == "what") = true from by decide +kernel], _, rfl, a, CT, _, m, rfl, k, T.n2, by simp [List.lookup], by show 2 ≤ sizeLine; decide, fun t nt => hq t _ (same_put (s := same_put (s := Same.refl H') na) nt) upd_same⟩
    · refine ⟨_, rfl, rfl, true, rfl, iteT ?_⟩
      exact ⟨_, rfl, by show 1 ≤ sizeLine; decide, fun l nl => hv l _ (same_put (s := Same.refl H') nl) nl upd_same⟩
/-- a def whose code object is known -/
structure FunC (K : PySem.W.Frag) (x qual : Str) (st : Stmt) (f c : Addr) (fd : FuncData) : Prop where
  ex : ∃ (oc : Value) (od : Option Addr) (kV doc pm : Value) (an : Option Addr) (ct : Value) (osl : Array (Option Value)), fd = PySem.W.fnOf x qual (defArgs st) (defBody st) (defScope st) .none kV doc pm an (.ref c) ct ∧ K.lookup f = some ⟨oc, od, .func fd, osl⟩ ∧ PySem.W.codeIn K (.ref c) qual = true
section
variable {P : Program} {w : World} {K : PySem.W.Frag} {mg : Str → Option Value} {base : Heap}
theorem FunC.ok {x qual : Str} {st : Stmt} {f c : Addr} {fd : FuncData} {N ps : List Str} {k : Nat} {sp : Sp} (F : FunC K x qual st f c fd) (S : FnScope N ps (defScope st)) (len : ∀ vs H Q E, sp vs H Q E → vs.length = ps.length)
    (body : ∀ (A : Around) (outer : List Env) (s : Shared) (H : Hp) (vs : List V) (Q : VK) (E : XK), Room k (A.deeper (envOfC qual (defScope st) s.heap.objs.size f (.ref c))) → sp vs H Q E →
      ∃ t, PSs (cxOf CX0 P w K mg base N qual (defScope st) f (.ref c) A outer s H E).nox (defBody st) t ∧ t { nx := fun _ H' => Q .non H', rt := Q } (L2.start N vs) H) : FnOk P w K mg base CX0 (k + 1) f fd ps sp := by
  obtain ⟨oc, od, kV, doc, pm, an, ct, osl, e, look, ci⟩ := F.ex
  subst e
  exact fn_of look ci S len fun A outer s H vs Q E room h => (body A outer s H vs Q E room h).imp fun t z => ⟨z.1.nox, z.2⟩
end
/-- what hears, by its name -/
structure HearD (K : PySem.W.Frag) (mg : Str → Option Value) (g : Addr) : Prop where
  hm : mg "_law_heard" = some (.ref g)
  kp : PySem.W.keepIn K (.ref g) = true
  lk : ∃ (oc : Value) (od : Option Addr) (kV doc pm : Value) (an : Option Addr) (cdv ct : Value) (osl : Array (Option Value)), K.lookup g = some ⟨oc, od, .func (PySem.W.fnOf "_law_heard" "_law_heard" (defArgs s_heard) (defBody s_heard) (defScope s_heard) .none kV doc pm an cdv ct), osl⟩ ∧ PySem.W.codeIn K cdv "_law_heard" = true
/-- the tables of code objects of those that make lambdas -/
structure TabT (base : Heap) (mg : Str → Option Value) (T : List (Addr × Str)) (q : Str) (c P : Addr) : Prop where
  tb : TabB base mg c P
  mem : (P, q ++ "<lambda>") ∈ T
  one : ∀ p ∈ T, p.1 = P → p.2 = q ++ "<lambda>"
section
variable {X : Cx} {CB CT CR g c P : Addr} {T : List (Addr × Str)} {j k : Nat} {params : Arguments} {body : Expr} {scope : Scope} {t : XK → TE} {p lpos pos : Pos} {qn : Str}
/-- what is heard of a lambda written where it is handed on -/
theorem pe_heardG (th : Th X.K X.mg CB CT CR) (D : HearD X.K X.mg g) (TB : TabT X.base X.mg T qn c P) (quiet : Quiet X.A) (hr : Room j X.A) (hj : k + 3 ≤ j) (hcode : X.env.code = .ref c) (hq : X.env.qual = qn) (hg : Gl X "_law_heard") (L : LamS X.env.scope scope) (hdef : defaultsOf params X.env = ([], []))
    (hbind : ∀ (q : Str) (cl : List (Str × Addr)) (pm cv ctv : Value), bindArgs (PySem.W.kla_fn "<lambda>" q params body scope cl pm cv ctv) ⟨[], []⟩ = pure [])
    (hbody : ∀ (A : Around) (outer : List Env) (s : Shared) (H : Hp) (E : XK) (f c' : Addr), Quiet A → Room k (A.deeper (lamEnv X scope s.heap.objs.size f c')) → PE (lamCx X A outer s H E scope f c') body (t E)) :
    PE X (.Call (.Name "_law_heard" p) [.Lambda params body scope lpos] [] pos) (tLamG T (TTheard CB CT) t) := by
  obtain ⟨oc, od, kV, doc, pm, an, cdv, ct, osl, look, ci⟩ := D.lk
  refine pe_lamcallG (k := k) (Ng := n_heard) (a := "_law_ask") quiet hg D.hm D.kp look ci ?_ sc_heard rfl (.inl rfl) (heard_givesK th fun s => ?_) TB.tb hcode (by rw [hq]; exact TB.mem) (by rw [hq]; exact TB.one) (hr.mono (by omega)) hdef ⟨L, hbind, hbody⟩
  · exact .all fun us hl => match us, hl with | [_], _ => rfl
  · exact (hr.mono (show 2 ≤ j by omega)).deeper _
end
end V8
set_option Elab.async false
set_option linter.all false
set_option maxRecDepth 100000
set_option maxHeartbeats 16000000
set_option pp.maxSteps 500
/-! What is heard; things drawn. -/
namespace V8
open PySem PySem.Spec PyProof.Rows L2 LamX MX SetT
variable {K : PySem.W.Frag} {ω : World}
structure CnS (K : PySem.W.Frag) (aS aE aV aD : Addr) (H : Hp) : Prop where
  cn : CnH K aS aE aV H
  sd : SqT K H aD [.str (sideS true), .str (sideS false)]
theorem sq_ext {K : PySem.W.Frag} {H H' : Hp} {b : Addr} {ys : List V} (h : SqT K H b ys) (s : ExtN H H') : SqT K H' b ys := sq_mono h fun o eo z => s _ _ eo fun ps q => by
  rw [q] at z
  rcases z with z | ⟨_, z⟩ <;> cases z
theorem CnS.ext {K : PySem.W.Frag} {aS aE aV aD : Addr} {H H' : Hp} (c : CnS K aS aE aV aD H) (s : ExtN H H') : CnS K aS aE aV aD H' := ⟨⟨sq_ext c.cn.st s, sq_ext c.cn.en s, sq_ext c.cn.ev s⟩, sq_ext c.sd s⟩
theorem atNm {i : Nat} {v : V} {σ : L2.St} {H : Hp} {Q : L2.St → Hp → Prop} (h : Q (σ.set i (some v)) H) : gName i v σ H Q := h
theorem tabs_mono {T : List (Addr × Str)} {H H' : Hp} (t : Tabs T H) (e : ∀ b o, H b = some o → (∀ xs, o ≠ .lst xs) → H' b = some o) : Tabs T H' := fun p hp => by
  obtain ⟨ps, h1, h2, h3⟩ := t p hp
  refine ⟨ps, e _ _ h1 (fun _ z => nomatch z), h2, fun pos cv hc => ?_⟩
  obtain ⟨c, e1, e2⟩ := h3 pos cv hc
  exact ⟨c, e1, e _ _ e2 (fun _ z => nomatch z)⟩
def dueT : Due → List V
  | .bad => [.str "table", .str "misreading"]
  | .long => [.str "image", .int 8]
  | .fine => []
theorem out_hear {CB CX : Addr} {H : Hp} {due : Due} {Q : VK} (nf : due ≠ .fine) (q : ∀ t H2, Same H H2 → H2 t = some (.tup (dueT due)) → Q (.ref t) H2) : OutD CB CX H due (HearE CB CX Q) := by
  cases due with
  | bad => exact fun dd H2 s2 e => ⟨dd, rfl, .inl ⟨rfl, _, e, fun t H3 s3 h => q t H3 (fun b o z => s3 _ _ (s2 _ _ z)) h⟩⟩
  | long => exact fun dd H2 s2 e => ⟨dd, rfl, .inr ⟨rfl, _, _, e, fun t H3 s3 h => q t H3 (fun b o z => s3 _ _ (s2 _ _ z)) h⟩⟩
  | fine => exact absurd rfl nf
theorem heard_end6 {TL : List (Addr × Str)} {CB CX : Addr} {t : XK → TE} {σ : L2.St} {H : Hp} {Q : VK} (due : Due) (okb : Bool → Prop) (tb : Tabs TL H)
    (body : ∀ (H1 : Hp) (E : XK) (R : VK), ExtN H H1 → Tabs TL H1 → (due ≠ .fine → OutD CB CX H1 due E) → (due = .fine → ∀ b, okb b → ∀ H2, Same H1 H2 → R (.bl b) H2) → t E σ H1 R)
    (q : ∀ h H2, ExtN H H2 → Tabs TL H2 → (due ≠ .fine → H2 h = some (.tup (dueT due))) → (due = .fine → ∃ b, H2 h = some (.lst [.bl b]) ∧ okb b) → Q (.ref h) H2) : tLamG TL (TTheard CB CX) t σ H Q := by
  refine ⟨tb, fun H1 e1 tb1 R H2 hR s2 => body H2 _ R (e1.trans (ExtN.of s2)) (tb1.ext s2) (fun nf => out_hear nf fun t H3 s3 ht => q t H3 ((e1.trans (ExtN.of s2)).trans (ExtN.of s3)) ((tb1.ext s2).ext s3) (fun _ => ht) (fun z => absurd z nf)) (fun fi b ob H3 s3 => hR (.bl b) H3 fun l H4 s4 nl hl => ?_)⟩
  exact q l H4 (((e1.trans (ExtN.of s2)).trans (ExtN.of s3)).trans (ExtN.of s4)) (((tb1.ext s2).ext s3).ext s4) (fun nf => absurd fi nf) (fun _ => ⟨b, hl, ob⟩)
section
variable {P : Program} {w : World} {K : PySem.W.Frag} {mg : Str → Option Value} {base : Heap}
theorem FunC.okG {x qual : Str} {st : Stmt} {f c : Addr} {fd : FuncData} {N ps : List Str} {k : Nat} {sp : Sp} (F : FunC K x qual st f c fd) (S : FnScope N ps (defScope st)) (count : ∀ (xs : List V) (H : Hp) (Q : VK) (E : XK), sp xs H Q E → xs.length = ps.length)
    (body : ∀ (A : Around) (outer : List Env) (s : Shared) (H : Hp) (xs : List V) (Q : VK) (E : XK), Quiet A → Room k (A.deeper (envOfC qual (defScope st) s.heap.objs.size f (.ref c))) → sp xs H Q E →
      ∃ t, PSs (cxOf CX0 P w K mg base N qual (defScope st) f (.ref c) A outer s H E).nox (defBody st) t ∧ t { nx := fun _ H2 => Q .non H2, rt := Q } (L2.start N xs) H) : FnG P w K mg base CX0 (k + 1) f fd ps sp := by
  obtain ⟨oc, od, kV, doc, pm, an, ct, osl, e, look, ci⟩ := F.ex
  subst e
  refine ⟨count, fun A outer s H args us xs Q E g r e0 b v h => LamX.run_ofS look ci S r e0 b v (count _ _ _ _ h) fun r2 => ?_⟩
  obtain ⟨t, h1, h2⟩ := body A outer s H xs Q E g r2 h
  exact ⟨t, h1.nox, h2⟩
end
def Kl (H H2 : Hp) : Prop := (∀ b o, H b = some o → (∀ xs, o ≠ .lst xs) → (∀ ps, o ≠ .tbl ps) → H2 b = some o) ∧ ∀ b xs, H b = some (.lst xs) → ∃ ys, H2 b = some (.lst ys)
theorem Kl.trans {H H1 H2 : Hp} (a : Kl H H1) (b : Kl H1 H2) : Kl H H2 := ⟨fun c o e n m => b.1 c o (a.1 c o e n m) n m, fun c xs e => by
  obtain ⟨ys, h⟩ := a.2 c xs e
  exact b.2 c ys h⟩
theorem Kl.ext {H H2 : Hp} (e : ExtN H H2) : Kl H H2 := ⟨fun b o h _ m => e b o h m, fun b xs h => ⟨xs, e b _ h (fun _ z => nomatch z)⟩⟩
theorem Kl.same {H H2 : Hp} (s : Same H H2) : Kl H H2 := Kl.ext (ExtN.of s)
theorem Kl.fr {p : Addr} {H H2 : Hp} (f : Fr p H H2) (h0 : ∃ xs, H p = some (.lst xs)) (h1 : ∃ xs, H2 p = some (.lst xs)) : Kl H H2 := ⟨fun b o e n _ => f b o e (fun z => by
    subst z
    obtain ⟨xs, h⟩ := h0
    rw [h] at e
    exact n xs (Option.some.inj e).symm), fun b xs e => by
  by_cases z : b = p
  · subst z
    exact h1
  · exact ⟨xs, f _ _ e z⟩⟩
theorem Kl.put {H : Hp} {D : Addr} {xs ys : List V} (h : H D = some (.lst xs)) : Kl H (upd H D (.lst ys)) := ⟨fun b o e n _ => by
    rw [upd_ne (fun z => by subst z; rw [h] at e; exact n xs (Option.some.inj e).symm)]
    exact e, fun b zs e => by
  by_cases z : b = D
  · subst z
    exact ⟨ys, upd_same⟩
  · exact ⟨zs, by rw [upd_ne z]; exact e⟩⟩
theorem mis_kl {C x : Addr} {H H2 : Hp} {u : Tab} (m : MisAt C H x u) (k : Kl H H2) : MisAt C H2 x u := by
  obtain ⟨dx, a, b, c, h1, h2, h3, h4⟩ := m.at_
  exact ⟨dx, a, b, c, k.1 _ _ h1 (fun _ z => nomatch z) (fun _ z => nomatch z), k.1 _ _ h2 (fun _ z => nomatch z) (fun _ z => nomatch z), k.1 _ _ h3 (fun _ z => nomatch z) (fun _ z => nomatch z), k.1 _ _ h4 (fun _ z => nomatch z) (fun _ z => nomatch z)⟩
theorem sq_kl {K : PySem.W.Frag} {H H' : Hp} {b : Addr} {ys : List V} (h : SqT K H b ys) (s : Kl H H') : SqT K H' b ys := sq_mono h fun o eo z => s.1 _ _ eo (fun ps q => by
  rw [q] at z
  rcases z with z | ⟨_, z⟩ <;> cases z) (fun ps q => by
  rw [q] at z
  rcases z with z | ⟨_, z⟩ <;> cases z)
theorem CnS.kl {K : PySem.W.Frag} {aS aE aV aD : Addr} {H H' : Hp} (c : CnS K aS aE aV aD H) (s : Kl H H') : CnS K aS aE aV aD H' := ⟨⟨sq_kl c.cn.st s, sq_kl c.cn.en s, sq_kl c.cn.ev s⟩, sq_kl c.sd s⟩
theorem tabs_fr {T : List (Addr × Str)} {p : Addr} {H H' : Hp} (t : Tabs T H) (h0 : ∃ xs, H p = some (.lst xs)) (f : Fr p H H') : Tabs T H' := tabs_mono t fun b o e n => f b o e fun z => by
  subst z
  obtain ⟨xs, h⟩ := h0
  rw [h] at e
  exact n xs (Option.some.inj e).symm
/-- a plain thing, and its type -/
inductive ShV (H : Hp) : V → Value → Prop where
  | non : ShV H .non (.type "NoneType")
  | int (k : Int) : ShV H (.int k) (.type "int")
  | bl (b : Bool) : ShV H (.bl b) (.type "bool")
  | str (s : Str) : ShV H (.str s) (.type "str")
  | dict {a : Addr} {kvs : List (Key × V)} (h : H a = some (.dK kvs)) : ShV H (.ref a) (.type "dict")
  | tup {a : Addr} {xs : List V} (h : H a = some (.tup xs)) : ShV H (.ref a) (.type "tuple")
  | lst {a : Addr} {xs : List V} (h : H a = some (.lst xs)) : ShV H (.ref a) (.type "list")
theorem ShV.kl {H H2 : Hp} {y : V} {t : Value} (h : ShV H y t) (k : Kl H H2) : ShV H2 y t := by
  cases h with
  | non => exact .non
  | int k => exact .int k
  | bl b => exact .bl b
  | str s => exact .str s
  | dict h => exact .dict (k.1 _ _ h (fun _ z => nomatch z) (fun _ z => nomatch z))
  | tup h => exact .tup (k.1 _ _ h (fun _ z => nomatch z) (fun _ z => nomatch z))
  | lst h =>
    obtain ⟨ys, e⟩ := k.2 _ _ h
    exact .lst e
theorem ShV.ty {K : PySem.W.Frag} {H : Hp} {y : V} {t : Value} (h : ShV H y t) : TyX K H y t := by
  cases h with
  | non => exact .base .non
  | int k => exact .base (.int k)
  | bl b => exact .base (.bl b)
  | str s => exact .base (.str s)
  | dict h => exact .base (.dK h)
  | tup h => exact .base (.tup h)
  | lst h => exact .base (.lst h)
theorem ShV.tyE {K : PySem.W.Frag} {H : Hp} {y : V} {t : Value} (h : ShV H y t) : ∀ H2, ExtN H H2 → TyX K H2 y t := fun _ e => (h.kl (Kl.ext e)).ty
/-! ### tables with the same images -/
theorem lk_keys {u v : Tab} (e : lk u = lk v) : keysOf u = keysOf v := List.filter_congr fun c hc => by
  have h := congrFun e c
  unfold lk at h
  rw [if_pos hc, if_pos hc] at h
  rw [h]
theorem lk_lookT {u v : Tab} (e : lk u = lk v) {c : Nat} (hc : c ∈ keysOf u) : lookT u c = lookT v c := by
  have h := congrFun e c
  unfold lk at h
  have ha := (keysOf_mem.mp hc).1
  rw [if_pos ha, if_pos ha] at h
  exact h
theorem lk_pairs {u v : Tab} (e : lk u = lk v) : pairsT u = pairsT v := by
  unfold pairsT
  rw [← lk_keys e]
  exact List.map_congr_left fun c hc => by rw [lk_lookT e hc]
theorem lk_short {u v : Tab} (e : lk u = lk v) : shortT u = shortT v := by
  unfold shortT
  rw [← lk_keys e]
  congr 1
  exact List.filter_congr fun c hc => by rw [lk_lookT e hc]
end V8
set_option Elab.async false
set_option linter.all false
set_option maxRecDepth 100000
set_option maxHeartbeats 8000000
/-! Texts of any signs: whether they are letters alone; words of a letter and its image. -/
namespace V8
open PySem PySem.Spec PyProof.Rows L2
theorem cut_take (w : List Nat) (n : Nat) : cutS (Sx w) none (some (n : Int)) = Sx (w.take n) := by
  unfold cutS
  rw [HT.sIx_none, HT.sIx_nat]
  show (⟨((w.drop 0).take (_ - 0)).toArray⟩ : Str) = ⟨_⟩
  rw [List.drop_zero, Nat.sub_zero]
  congr 2
  have : (Sx w).length = w.length := Sx_len w
  rw [this]
  rcases Nat.le_total n w.length with h | h
  · rw [Nat.min_eq_left h]
  · rw [Nat.min_eq_right h, List.take_of_length_le (Nat.le_refl _), List.take_of_length_le h]
theorem cut_drop (w : List Nat) (n : Nat) : cutS (Sx w) (some (n : Int)) none = Sx (w.drop n) := by
  unfold cutS
  rw [HT.sIx_none, HT.sIx_nat]
  have : (Sx w).length = w.length := Sx_len w
  rw [this]
  show (⟨((w.drop _).take _).toArray⟩ : Str) = ⟨_⟩
  congr 2
  rcases Nat.le_total n w.length with h | h
  · rw [Nat.min_eq_left h, List.take_of_length_le (by rw [List.length_drop]; exact Nat.le_refl _)]
  · rw [Nat.min_eq_right h, List.drop_length, List.drop_of_length_le h, List.take_nil]
end V8
set_option Elab.async false
set_option linter.all false
set_option maxRecDepth 100000
set_option maxHeartbeats 8000000
/-! Which word cannot stand, as the law finds it. -/
namespace V8
open PySem PySem.Spec PyProof.Rows L2
theorem atName {i : Nat} {v : V} {σ : L2.St} {H : Hp} {Q : L2.St → Hp → Prop} (h : Q (σ.set i (some v)) H) : gName i v σ H Q := h
end V8
set_option Elab.async false
set_option linter.all false
set_option maxRecDepth 100000
set_option maxHeartbeats 8000000
/-! Misreading.read. -/
set_option Elab.async false
set_option linter.all false
/-! Words told apart, by a list of what is left to look at. -/
namespace MZ
def leftW (ws : List Wd) : List Wd := ws.flatMap fun a => (ws.filter fun b => decide (a ≠ b) && decide (a.take b.length = b)).map fun b => a.drop b.length
def cutW (ws : List Wd) (r : Wd) : List Wd := (ws.filter fun w => decide (r.take w.length = w)).map fun w => r.drop w.length
def extW (ws : List Wd) (r : Wd) : List Wd := (ws.filter fun w => decide (w.take r.length = r)).map fun w => w.drop r.length
theorem take_app {a b : Wd} (h : a.take b.length = b) : a = b ++ a.drop b.length := by
  conv => lhs; rw [← List.take_append_drop b.length a, h]
structure Wl (ws : List Wd) (left known : List Wd) : Prop where
  dgL : ∀ r ∈ left, Dg ws r
  dgK : ∀ r ∈ known, Dg ws r
  nd : known.Nodup
  noK : ∀ r ∈ known, r ∉ ws
  ini : ∀ a ∈ ws, ∀ b ∈ ws, ∀ r, r ≠ [] → a = b ++ r → r ∈ left ∨ r ∈ known
  cls : ∀ r ∈ known, ∀ w ∈ ws, ∀ z, z ≠ [] → (r = w ++ z ∨ w = r ++ z) → z ∈ left ∨ z ∈ known
theorem mem_leftW {ws : List Wd} {r : Wd} : r ∈ leftW ws ↔ r ≠ [] ∧ ∃ a ∈ ws, ∃ b ∈ ws, a = b ++ r := by
  unfold leftW
  constructor
  · intro h
    obtain ⟨a, ha, h⟩ := List.mem_flatMap.mp h
    obtain ⟨b, hb, rfl⟩ := List.mem_map.mp h
    obtain ⟨hb1, hb2⟩ := List.mem_filter.mp hb
    rw [Bool.and_eq_true, decide_eq_true_iff, decide_eq_true_iff] at hb2
    have e := take_app hb2.2
    refine ⟨fun z => hb2.1 ?_, a, ha, b, hb1, e⟩
    rw [z, List.append_nil] at e
    exact e
  · rintro ⟨nr, a, ha, b, hb, rfl⟩
    refine List.mem_flatMap.mpr ⟨b ++ r, ha, List.mem_map.mpr ⟨b, List.mem_filter.mpr ⟨hb, ?_⟩, List.drop_left⟩⟩
    rw [Bool.and_eq_true, decide_eq_true_iff, decide_eq_true_iff]
    exact ⟨fun z => nr (List.append_cancel_left (z.trans (List.append_nil b).symm)), List.take_left⟩
theorem mem_cutW {ws : List Wd} {r z : Wd} : z ∈ cutW ws r ↔ ∃ w ∈ ws, r = w ++ z := by
  unfold cutW
  constructor
  · intro h
    obtain ⟨w, hw, rfl⟩ := List.mem_map.mp h
    obtain ⟨h1, h2⟩ := List.mem_filter.mp hw
    exact ⟨w, h1, take_app (of_decide_eq_true h2)⟩
  · rintro ⟨w, hw, rfl⟩
    exact List.mem_map.mpr ⟨w, List.mem_filter.mpr ⟨hw, decide_eq_true List.take_left⟩, List.drop_left⟩
theorem mem_extW {ws : List Wd} {r z : Wd} : z ∈ extW ws r ↔ ∃ w ∈ ws, w = r ++ z := by
  unfold extW
  constructor
  · intro h
    obtain ⟨w, hw, rfl⟩ := List.mem_map.mp h
    obtain ⟨h1, h2⟩ := List.mem_filter.mp hw
    exact ⟨w, h1, take_app (of_decide_eq_true h2)⟩
  · rintro ⟨w, hw, rfl⟩
    exact List.mem_map.mpr ⟨_, List.mem_filter.mpr ⟨hw, decide_eq_true List.take_left⟩, List.drop_left⟩
theorem Wl.start (ws : List Wd) : Wl ws (leftW ws) [] := by
  refine ⟨fun r h => ?_, fun r h => absurd h List.not_mem_nil, List.nodup_nil, fun r h => absurd h List.not_mem_nil, fun a ha b hb r nr e => .inl (mem_leftW.mpr ⟨nr, a, ha, b, hb, e⟩), fun r h => absurd h List.not_mem_nil⟩
  obtain ⟨nr, a, ha, b, hb, e⟩ := mem_leftW.mp h
  exact .init ha hb nr e
theorem Wl.old {ws left known : List Wd} {r : Wd} (h : Wl ws (left ++ [r]) known) (hr : r ∈ known) : Wl ws left known := by
  have cut : ∀ {z : Wd}, z ∈ left ++ [r] ∨ z ∈ known → z ∈ left ∨ z ∈ known := fun {z} m => by
    rcases m with m | m
    · rcases List.mem_append.mp m with m | m
      · exact .inl m
      · rw [List.mem_singleton.mp m]
        exact .inr hr
    · exact .inr m
  exact ⟨fun x hx => h.dgL x (List.mem_append_left _ hx), h.dgK, h.nd, h.noK, fun a ha b hb z nz e => cut (h.ini a ha b hb z nz e), fun x hx w hw z nz e => cut (h.cls x hx w hw z nz e)⟩
theorem Wl.new {ws left known : List Wd} {r : Wd} (h : Wl ws (left ++ [r]) known) (hr : r ∉ known) (hw : r ∉ ws) : Wl ws (left ++ cutW ws r ++ extW ws r) (known ++ [r]) := by
  have dr : Dg ws r := h.dgL r (List.mem_append_right _ (List.mem_singleton_self r))
  have up : ∀ {z : Wd}, z ∈ left ++ [r] ∨ z ∈ known → z ∈ left ++ cutW ws r ++ extW ws r ∨ z ∈ known ++ [r] := fun {z} m => by
    rcases m with m | m
    · rcases List.mem_append.mp m with m | m
      · exact .inl (List.mem_append_left _ (List.mem_append_left _ m))
      · exact .inr (List.mem_append_right _ m)
    · exact .inr (List.mem_append_left _ m)
  refine ⟨fun x hx => ?_, fun x hx => ?_, ?_, fun x hx => ?_, fun a ha b hb z nz e => up (h.ini a ha b hb z nz e), fun x hx w hw2 z nz e => ?_⟩
  · rcases List.mem_append.mp hx with hx | hx
    · rcases List.mem_append.mp hx with hx | hx
      · exact h.dgL x (List.mem_append_left _ hx)
      · obtain ⟨w, hw2, e⟩ := mem_cutW.mp hx
        refine .cut dr hw2 e fun z => hw ?_
        rw [e, z, List.append_nil]
        exact hw2
    · obtain ⟨w, hw2, e⟩ := mem_extW.mp hx
      refine .ext dr hw2 e fun z => hw ?_
      rw [z, List.append_nil] at e
      rw [← e]
      exact hw2
  · rcases List.mem_append.mp hx with hx | hx
    · exact h.dgK x hx
    · rw [List.mem_singleton.mp hx]
      exact dr
  · exact List.nodup_append.mpr ⟨h.nd, by simp, fun a ha b hb e => by
      rw [List.mem_singleton.mp hb] at e
      exact hr (e ▸ ha)⟩
  · rcases List.mem_append.mp hx with hx | hx
    · exact h.noK x hx
    · rw [List.mem_singleton.mp hx]
      exact hw
  · rcases List.mem_append.mp hx with hx | hx
    · exact up (h.cls x hx w hw2 z nz e)
    · rw [List.mem_singleton.mp hx] at e
      rcases e with e | e
      · exact .inl (List.mem_append_left _ (List.mem_append_right _ (mem_cutW.mpr ⟨w, hw2, e⟩)))
      · exact .inl (List.mem_append_right _ (mem_extW.mpr ⟨w, hw2, e⟩))
theorem Wl.done {ws known : List Wd} (h : Wl ws [] known) : ∀ r, Dg ws r → r ∉ ws := by
  have all : ∀ r, Dg ws r → r ∈ known := fun r d => by
    induction d with
    | init ha hb nr e => exact (h.ini _ ha _ hb _ nr e).resolve_left List.not_mem_nil
    | cut _ hw e nz ih => exact (h.cls _ ih _ hw _ nz (.inl e)).resolve_left List.not_mem_nil
    | ext _ hw e nz ih => exact (h.cls _ ih _ hw _ nz (.inr e)).resolve_left List.not_mem_nil
  exact fun r d => h.noK r (all r d)
theorem dg_suffix {ws : List Wd} {r : Wd} (h : Dg ws r) : r ≠ [] ∧ ∃ w ∈ ws, ∃ a, w = a ++ r := by
  induction h with
  | init ha hb nr e => exact ⟨nr, _, ha, _, e⟩
  | cut _ _ e nz ih =>
    obtain ⟨_, w, hw, a, e2⟩ := ih
    exact ⟨nz, w, hw, _, by rw [e2, e, ← List.append_assoc]⟩
  | ext _ hw e nz _ => exact ⟨nz, _, hw, _, e⟩
theorem Wl.few {ws left known : List Wd} (h : Wl ws left known) : known.length ≤ (ws.map List.length).sum := by
  have : known.length ≤ (ws.flatMap tails).length := nd_le h.nd fun r hr => by
    obtain ⟨nr, w, hw, a, e⟩ := dg_suffix (h.dgK r hr)
    exact List.mem_flatMap.mpr ⟨w, hw, tails_has w a r e nr⟩
  rw [List.length_flatMap] at this
  have e : ws.map (List.length ∘ tails) = ws.map List.length := List.map_congr_left fun w _ => tails_len w
  have e2 : (ws.map fun x => (tails x).length) = ws.map List.length := List.map_congr_left fun w _ => tails_len w
  rw [e2] at this
  exact this
theorem cutW_len (ws : List Wd) (r : Wd) : (cutW ws r).length ≤ ws.length := by
  unfold cutW
  rw [List.length_map]
  exact List.length_filter_le _ _
theorem extW_len (ws : List Wd) (r : Wd) : (extW ws r).length ≤ ws.length := by
  unfold extW
  rw [List.length_map]
  exact List.length_filter_le _ _
/-- the words of a table with their letters -/
def wl (t : List (Nat × Wd)) : List Pr := t.map fun q => (q.2, q.1)
theorem words_nd {t : List (Nat × Wd)} (nd : (t.map (·.1)).Nodup) : (t.map (·.2)).Nodup ↔ ∀ x ∈ wl t, ∀ y ∈ wl t, x.1 = y.1 → x = y := by
  induction t with
  | nil => exact ⟨fun _ x hx => absurd hx List.not_mem_nil, fun _ => List.nodup_nil⟩
  | cons q r ih =>
    rw [List.map_cons, List.nodup_cons] at nd
    have ih := ih nd.2
    rw [List.map_cons, List.nodup_cons, ih]
    have hq : (q.2, q.1) ∈ wl (q :: r) := List.mem_cons_self
    have up : ∀ {x}, x ∈ wl r → x ∈ wl (q :: r) := fun h => List.mem_cons_of_mem _ h
    constructor
    · rintro ⟨h1, h2⟩ x hx y hy e
      rcases List.mem_cons.mp hx with rfl | hx <;> rcases List.mem_cons.mp hy with rfl | hy
      · rfl
      · obtain ⟨z, hz, rfl⟩ := List.mem_map.mp hy
        exact absurd (List.mem_map.mpr ⟨z, hz, e.symm⟩) h1
      · obtain ⟨z, hz, rfl⟩ := List.mem_map.mp hx
        exact absurd (List.mem_map.mpr ⟨z, hz, e⟩) h1
      · exact h2 x hx y hy e
    · intro h
      refine ⟨fun m => ?_, fun x hx y hy e => h x (up hx) y (up hy) e⟩
      obtain ⟨z, hz, e⟩ := List.mem_map.mp m
      have e2 := h _ hq _ (up (List.mem_map.mpr ⟨z, hz, rfl⟩)) e.symm
      exact nd.1 (List.mem_map.mpr ⟨z, hz, (congrArg (·.2) e2).symm⟩)
theorem wl_lbl {t : List (Nat × Wd)} (nd : (t.map (·.1)).Nodup) : Lbl (wl t) := by
  induction t with
  | nil => exact fun x hx => absurd hx List.not_mem_nil
  | cons q r ih =>
    rw [List.map_cons, List.nodup_cons] at nd
    intro x hx y hy e
    rcases List.mem_cons.mp hx with rfl | hx <;> rcases List.mem_cons.mp hy with rfl | hy
    · rfl
    · obtain ⟨z, hz, rfl⟩ := List.mem_map.mp hy
      exact absurd (List.mem_map.mpr ⟨z, hz, e.symm⟩) nd.1
    · obtain ⟨z, hz, rfl⟩ := List.mem_map.mp hx
      exact absurd (List.mem_map.mpr ⟨z, hz, e⟩) nd.1
    · exact ih nd.2 x hx y hy e
theorem wl_words (t : List (Nat × Wd)) : (wl t).map (·.1) = t.map (·.2) := by
  unfold wl
  rw [List.map_map]
  rfl
/-- a table's words are told apart exactly if .. -/
theorem uni_tab {t : List (Nat × Wd)} (nd : (t.map (·.1)).Nodup) (ne : ∀ q ∈ t, q.2 ≠ []) : Uni (wl t) (wl t) ↔ (t.map (·.2)).Nodup ∧ ∀ r, Dg (t.map (·.2)) r → r ∉ t.map (·.2) := by
  rw [uni_iff (fun q hq => by
    obtain ⟨z, hz, rfl⟩ := List.mem_map.mp hq
    exact ne z hz) (wl_lbl nd), words_nd nd, wl_words]
end MZ
set_option Elab.async false
set_option linter.all false
set_option maxRecDepth 100000
set_option maxHeartbeats 8000000
set_option pp.maxSteps 900
/-! The law's own image, rests and whether words are told apart. -/
namespace V8
open PySem PySem.Spec PyProof.Rows L2 MZ
open SetT
variable {K : PySem.W.Frag} {ω : World}
abbrev s__law_left : Stmt := topS 89
abbrev n__law_left : List Str := ["_law_words", "_law_found", "_law_whole", "_law_head"]
theorem sc__law_left : FnScope ["_law_words", "_law_found", "_law_whole", "_law_head"] ["_law_words"] (defScope s__law_left) := ⟨rfl, rfl, rfl, by decide +kernel, rfl, by decide +kernel, by decide +kernel⟩
abbrev s__law_is_unique : Stmt := topS 90
abbrev n__law_is_unique : List Str := ["_law_table_here", "_law_words", "_law_left_here", "_law_known", "_law_rest", "_law_letter", "_law_word"]
theorem sc__law_is_unique : FnScope ["_law_table_here", "_law_words", "_law_left_here", "_law_known", "_law_rest", "_law_letter", "_law_word"] ["_law_table_here"] (defScope s__law_is_unique) := ⟨rfl, rfl, rfl, by decide +kernel, rfl, by decide +kernel, by decide +kernel⟩
theorem fold_len : ∀ (ys acc : List Str), (ys.foldl add1 acc).length = acc.length + ys.length ↔ ys.Nodup ∧ ∀ y ∈ ys, y ∉ acc
  | [], acc => by simp
  | y :: ys, acc => by
    rw [List.foldl_cons, List.length_cons, List.nodup_cons]
    by_cases h : y ∈ acc
    · have e : add1 acc y = acc := if_pos h
      rw [e]
      have := len_fold ys acc
      constructor
      · intro z
        omega
      · intro z
        exact absurd h (z.2 y List.mem_cons_self)
    · have e : add1 acc y = acc ++ [y] := if_neg h
      rw [e]
      have ih := fold_len ys (acc ++ [y])
      rw [List.length_append] at ih
      have e2 : acc.length + [y].length + ys.length = acc.length + (ys.length + 1) := by
        show acc.length + 1 + ys.length = _
        omega
      rw [e2] at ih
      rw [ih]
      constructor
      · rintro ⟨nd, k⟩
        refine ⟨⟨fun m => k y m (List.mem_append_right _ (List.mem_singleton_self y)), nd⟩, fun z hz => ?_⟩
        rcases List.mem_cons.mp hz with rfl | hz
        · exact h
        · exact fun m => k z hz (List.mem_append_left _ m)
      · rintro ⟨⟨n, nd⟩, k⟩
        refine ⟨nd, fun z hz m => ?_⟩
        rcases List.mem_append.mp m with m | m
        · exact k z (List.mem_cons_of_mem _ hz) m
        · rw [List.mem_singleton.mp m] at hz
          exact n hz
theorem uqs_lt (ys : List Str) : (uqs ys).length < ys.length ↔ ¬ ys.Nodup := by
  have h := fold_len ys []
  have l := uqs_len ys
  have e : ys.foldl add1 [] = uqs ys := rfl
  rw [e] at h
  simp only [List.length_nil, Nat.zero_add, List.not_mem_nil, not_false_eq_true, implies_true, and_true] at h
  rw [← h]
  omega
theorem nd_sx {ws : List Wd} : (ws.map Sx).Nodup ↔ ws.Nodup := by
  induction ws with
  | nil => simp
  | cons w r ih =>
    rw [List.map_cons, List.nodup_cons, List.nodup_cons, ih]
    refine and_congr_left fun _ => not_congr ⟨fun h => ?_, fun h => List.mem_map_of_mem h⟩
    obtain ⟨z, hz, e⟩ := List.mem_map.mp h
    exact Sx_inj e ▸ hz
abbrev sxV (ws : List Wd) : List V := (ws.map Sx).map V.str
theorem sxV_at {ws : List Wd} {i : Nat} {x : V} (h : (sxV ws)[i]? = some x) : ∃ w, ws[i]? = some w ∧ x = .str (Sx w) := by
  rw [List.getElem?_map, List.getElem?_map] at h
  obtain ⟨b, hb, e⟩ := Option.map_eq_some_iff.mp h
  obtain ⟨r, hr, e2⟩ := Option.map_eq_some_iff.mp hb
  exact ⟨r, hr, by rw [← e, ← e2]⟩
theorem sxV_len (ws : List Wd) : (sxV ws).length = ws.length := by rw [List.length_map, List.length_map]
theorem sxV_app (a b : List Wd) : sxV (a ++ b) = sxV a ++ sxV b := by
  show ((a ++ b).map Sx).map V.str = _
  rw [List.map_append, List.map_append]
def WsOk (ws : List Wd) : Prop := ws.length ≤ 12 ∧ ∀ w ∈ ws, w.length ≤ 8 ∧ ∀ d ∈ w, isLt d
def spLeft : Sp := fun vs H Q _ => ∃ (a : Addr) (ws : List Wd), vs = [.ref a] ∧ H a = some (.lst (sxV ws)) ∧ WsOk ws ∧ ∀ b H', Same H H' → H b = none → H' b = some (.lst (sxV (leftW ws))) → Q (.ref b) H'
section
variable {P : Program} {w : World} {K : PySem.W.Frag} {mg : Str → Option Value} {base : Heap} {CM CJ : Addr}
theorem leftW_take (ws : List Wd) (i : Nat) (a : Wd) (h : ws[i]? = some a) (f : Wd → List Wd) : (ws.take (i + 1)).flatMap f = (ws.take i).flatMap f ++ f a := by
  rw [List.take_add_one, h, List.flatMap_append]
  congr 1
  show [a].flatMap f = _
  rw [List.flatMap_cons, List.flatMap_nil, List.append_nil]
theorem ok_left {f : Addr} {fd : FuncData} (F : Fun K "_law_left" "_law_left" s__law_left f fd) (T : Tz K mg CM CJ) : FnOk P w K mg base CX0 1 f fd ["_law_words"] spLeft := by
  refine F.ok sc__law_left (fun vs H Q E h => ?_) (fun cdv A outer s H vs Q E hr h => ?_)
  · obtain ⟨a, ws, rfl, _⟩ := h
    rfl
  · obtain ⟨a, ws, rfl, ha, ok, q⟩ := h
    refine ⟨_, (pss_cons (ps_set (i := 1) sc__law_left.nd rfl (.inl rfl) (pe_lst pa_nil))
      (pss_cons (ps_for PassesOwn.never rfl (pi_list (pv 0)) (pg_name (i := 2) sc__law_left.nd rfl (.inr rfl))
        (pss_one (ps_set (i := 1) sc__law_left.nd rfl (.inl rfl) (pe_op op_cat (pv 1) (pe_lc (own := [("_law_head", 3)]) (g := gName 3) (by rfl) sc__law_left.nd (pi_list (pv 0)) (blkOk_by (own := [("_law_head", 3)]) (N := n__law_left) (sc := defScope s__law_left) (by decide +kernel)) (fun _ _ _ _ _ => (pg_name (i := 3) sc__law_left.nd rfl (.inl rfl))) (fun _ _ _ _ _ => (pts_one (PW.pt (pw_and (pt_cmpR op_ne (pv 2) (pv 3) (nomark _)) (pw_and1 (pt_cmpR op_eq (pe_slice sl_str (pv 2) po_none (po_some (pe_callB call_len_str (by rfl) T.len (by decide +kernel) (pa_cons (pv 3) pa_nil)))) (pv 3) (nomark _))))))) (fun _ _ _ _ _ => (pe_slice sl_str (pv 2) (po_some (pe_callB call_len_str (by rfl) T.len (by decide +kernel) (pa_cons (pv 3) pa_nil))) po_none)))))))
      (pss_one (ps_ret (pv 1))))), ?_⟩
    obtain ⟨lw8, wok⟩ := ok
    refine ⟨Nat.zero_le _, fun b nb => ?_⟩
    have hb0 : upd H b (.lst []) b = some (.lst (sxV [])) := upd_same
    have s0 := same_put (s := Same.refl H) (o := .lst []) nb
    show tSeq _ _ _ _ (upd H b (.lst []))
    generalize upd H b (.lst []) = H0 at hb0 s0 ⊢
    refine ⟨_, rfl, a, rfl, ⟨_, SqL.of (s0 _ _ ha)⟩, for_it (walk_list (K := K) (a := a) (xs := sxV ws)) (fun i σ H2 => ∃ (c : Addr) (v2 v3 : Option V), σ = [some (.ref a), some (.ref c), v2, v3] ∧ H c = none ∧ H2 c = some (.lst (sxV ((ws.take i).flatMap fun a => (ws.filter fun b => decide (a ≠ b) && decide (a.take b.length = b)).map fun b => a.drop b.length))) ∧ Same H H2) ?_ ?_ ?_ ?_⟩
    · exact ⟨b, none, none, rfl, nb, hb0, s0⟩
    · rintro i σ H2 hi ⟨c, v2, v3, _, _, _, s2⟩
      exact SqL.of (s2 _ _ ha)
    · rintro i y σ H20 H2 hi ⟨c, v2, v3, rfl, nc, hc, s2⟩ ⟨rfl, hy⟩
      obtain ⟨u, hu, rfl⟩ := sxV_at hy
      have hum := List.mem_of_getElem? hu
      obtain ⟨lu, ltu⟩ := wok u hum
      rw [sxV_len] at hi
      have le : ∀ j : Nat, ((ws.take j).flatMap fun a => (ws.filter fun b => decide (a ≠ b) && decide (a.take b.length = b)).map fun b => a.drop b.length).length ≤ 144 := fun j => by
        rw [List.length_flatMap]
        have e : ∀ l : List Wd, (∀ x ∈ l, x ∈ ws) → (l.map fun a => ((ws.filter fun b => decide (a ≠ b) && decide (a.take b.length = b)).map fun b => a.drop b.length).length).sum ≤ 12 * l.length := by
          intro l
          induction l with
          | nil => exact fun _ => Nat.le_refl _
          | cons x r ih =>
            intro h
            have h1 := ih fun z hz => h z (List.mem_cons_of_mem _ hz)
            have h2 : ((ws.filter fun b => decide (x ≠ b) && decide (x.take b.length = b)).map fun b => x.drop b.length).length ≤ 12 := by
              rw [List.length_map]
              exact Nat.le_trans (List.length_filter_le _ _) lw8
            rw [List.map_cons, List.sum_cons, List.length_cons]
            omega
        have e2 := e (ws.take j) fun x hx => List.mem_of_mem_take hx
        have e3 : (ws.take j).length ≤ 12 := by rw [List.length_take]; omega
        omega
      have ha2 := s2 _ _ ha
      refine ⟨_, rfl, _, rfl, a, rfl, ⟨_, SqL.of ha2⟩, fun D nD => lc_it (walk_list (K := K) (a := a) (xs := sxV ws)) (fun j H3 => H3 = upd H2 D (.lst (sxV (((ws.take j).filter fun b => decide (u ≠ b) && decide (u.take b.length = b)).map fun b => u.drop b.length)))) rfl ?_ ?_ ?_⟩
      · rintro j H3 hj rfl
        exact SqL.of (by rw [upd_ne (ne_of_none ha2 nD)]; exact ha2)
      · rintro j y H30 H3 hj rfl ⟨eH, hy2⟩
        rw [eH]
        obtain ⟨v, hv, rfl⟩ := sxV_at hy2
        have hvm := List.mem_of_getElem? hv
        obtain ⟨lv, ltv⟩ := wok v hvm
        have et : (ws.take (j + 1)).filter (fun b => decide (u ≠ b) && decide (u.take b.length = b)) = (ws.take j).filter (fun b => decide (u ≠ b) && decide (u.take b.length = b)) ++ if (decide (u ≠ v) && decide (u.take v.length = v)) = true then [v] else [] := by
          rw [List.take_add_one, hv, List.filter_append]
          congr 1
          show List.filter _ [v] = _
          rw [List.filter_cons]
          rfl
        have lj : (((ws.take j).filter fun b => decide (u ≠ b) && decide (u.take b.length = b)).map fun b => u.drop b.length).length ≤ 12 := by
          rw [List.length_map]
          exact Nat.le_trans (List.length_filter_le _ _) (by rw [List.length_take]; omega)
        have zu : (Sx u).length ≤ sizeLine := by rw [Sx_len, sizeLine_eq]; omega
        have zv : (Sx v).length ≤ sizeLine := by rw [Sx_len, sizeLine_eq]; omega
        refine ⟨rfl, _, rfl, _, rfl, rfl, _, rfl, ?_⟩
        rw [Sx_eq]
        by_cases e1 : u = v
        · rw [decide_eq_true e1]
          refine iteF (iteF ?_)
          rw [et, decide_eq_false (fun z => z e1), Bool.false_and, if_neg (by decide), List.append_nil]
        · rw [decide_eq_false e1]
          refine iteT ?_
          refine ⟨_, rfl, _, rfl, Sx v, rfl, zv, _, rfl, Sx u, rfl, zu, _, rfl, rfl, _, rfl, ?_⟩
          rw [Sx_len, cut_take, Sx_eq]
          by_cases e2 : u.take v.length = v
          · rw [decide_eq_true e2]
            refine iteT ?_
            refine ⟨_, rfl, _, rfl, Sx v, rfl, zv, _, rfl, Sx u, rfl, zu, _, upd_same, by rw [sxV_len, sizeLine_eq]; omega, ?_⟩
            rw [Sx_len, cut_drop, upd_upd, et, decide_eq_true (show u ≠ v from e1), decide_eq_true e2, if_pos (show (true && true) = true from rfl), List.map_append, sxV_app]
            rfl
          · rw [decide_eq_false e2]
            refine iteF ?_
            rw [et, decide_eq_false e2, Bool.and_false, if_neg (by decide), List.append_nil]
      · rintro H3 rfl
        rw [List.take_of_length_le (by rw [sxV_len]; exact Nat.le_refl _)]
        have s3 := same_put (s := Same.refl H2) (o := .lst (sxV ((ws.filter fun b => decide (u ≠ b) && decide (u.take b.length = b)).map fun b => u.drop b.length))) nD
        have hD3 : upd H2 D (.lst (sxV ((ws.filter fun b => decide (u ≠ b) && decide (u.take b.length = b)).map fun b => u.drop b.length))) D = _ := upd_same
        have le1 := le i
        have lf : ((ws.filter fun b => decide (u ≠ b) && decide (u.take b.length = b)).map fun b => u.drop b.length).length ≤ 12 := by
          rw [List.length_map]
          exact Nat.le_trans (List.length_filter_le _ _) lw8
        refine ⟨c, D, _, _, rfl, rfl, s3 _ _ hc, hD3, by rw [sxV_len, sxV_len, sizeLine_eq]; omega, fun p np => ?_⟩
        have s4 := same_put (s := s3) (o := .lst (sxV ((ws.take i).flatMap fun a => (ws.filter fun b => decide (a ≠ b) && decide (a.take b.length = b)).map fun b => a.drop b.length) ++ sxV ((ws.filter fun b => decide (u ≠ b) && decide (u.take b.length = b)).map fun b => u.drop b.length))) np
        refine ⟨p, _, _, rfl, same_none (fun b o e => s3 _ _ (s2 _ _ e)) np, ?_, fun b o e => s4 _ _ (s2 _ _ e)⟩
        rw [leftW_take ws i u hu, sxV_app]
        exact upd_same
    · rintro σ H2 ⟨c, v2, v3, rfl, nc, hc, s2⟩
      rw [List.take_of_length_le (by rw [sxV_len]; exact Nat.le_refl _)] at hc
      exact ⟨_, rfl, q c H2 s2 nc hc⟩
end
end V8
set_option Elab.async false
set_option linter.all false
set_option maxRecDepth 100000
set_option maxHeartbeats 8000000
set_option pp.maxSteps 900
/-! Whether the law's words are told apart. -/
namespace V8
open PySem PySem.Spec PyProof.Rows L2 MZ
open SetT
variable {K : PySem.W.Frag} {ω : World}
structure TbU (t : Tab) : Prop where
  nd : (t.map (·.1)).Nodup
  few : t.length ≤ 12
  ok : ∀ q ∈ t, isLt q.1 ∧ q.2 ≠ [] ∧ q.2.length ≤ 8 ∧ ∀ d ∈ q.2, isLt d
open Classical in
noncomputable def uniB (t : Tab) : Bool := decide (Uni (wl t) (wl t))
open Classical in
theorem uniB_iff {t : Tab} : uniB t = true ↔ Uni (wl t) (wl t) := by
  unfold uniB
  exact decide_eq_true_iff
def spUniq : Sp := fun vs H Q _ => ∃ (d : Addr) (t : Tab), vs = [.ref d] ∧ H d = some (.dK (encT t)) ∧ TbU t ∧ ∀ H', Same H H' → Q (.bl (uniB t)) H'
theorem words_ok {t : Tab} (o : TbU t) : WsOk (t.map (·.2)) := ⟨by rw [List.length_map]; exact o.few, fun w hw => by
  obtain ⟨q, hq, rfl⟩ := List.mem_map.mp hw
  exact (o.ok q hq).2.2⟩
theorem sum8 {ws : List Wd} (h : ∀ w ∈ ws, w.length ≤ 8) : (ws.map List.length).sum ≤ 8 * ws.length := by
  induction ws with
  | nil => exact Nat.le_refl _
  | cons w r ih =>
    have h1 := h w List.mem_cons_self
    have h2 := ih fun x hx => h x (List.mem_cons_of_mem _ hx)
    rw [List.map_cons, List.sum_cons, List.length_cons]
    omega
theorem inV_sx (r : Wd) (ws : List Wd) : inV (V.str (Sx r)) (sxV ws) = decide (r ∈ ws) := by
  unfold inV
  rw [Bool.eq_iff_iff, List.any_eq_true, decide_eq_true_iff]
  constructor
  · rintro ⟨x, hx, e⟩
    obtain ⟨y, hy, rfl⟩ := List.mem_map.mp hx
    obtain ⟨w, hw, rfl⟩ := List.mem_map.mp hy
    have e2 : Sx w = Sx r := by simpa [eqV] using e
    rw [← Sx_inj e2]
    exact hw
  · intro h
    exact ⟨.str (Sx r), List.mem_map_of_mem (List.mem_map_of_mem h), by simp [eqV]⟩
theorem leftW_len {ws : List Wd} (lw8 : ws.length ≤ 12) : (leftW ws).length ≤ 144 := by
  unfold leftW
  rw [List.length_flatMap]
  have e : ∀ l : List Wd, (l.map fun a => ((ws.filter fun b => decide (a ≠ b) && decide (a.take b.length = b)).map fun b => a.drop b.length).length).sum ≤ 12 * l.length := by
    intro l
    induction l with
    | nil => exact Nat.le_refl _
    | cons x r ih =>
      have h2 : ((ws.filter fun b => decide (x ≠ b) && decide (x.take b.length = b)).map fun b => x.drop b.length).length ≤ 12 := by
        rw [List.length_map]
        exact Nat.le_trans (List.length_filter_le _ _) lw8
      rw [List.map_cons, List.sum_cons, List.length_cons]
      omega
  have e2 := e ws
  omega
theorem eqv_sx (l : List Wd) : PyData.eqv (.list (l.map fun r => .str (Sx r))) (.list []) = decide (l = []) := by
  cases l <;> rfl
theorem cut_snoc {ws : List Wd} {j : Nat} {v r : Wd} (hv : ws[j]? = some v) : ((ws.take (j + 1)).filter fun w => decide (r.take w.length = w)).map (fun w => r.drop w.length) = ((ws.take j).filter fun w => decide (r.take w.length = w)).map (fun w => r.drop w.length) ++ if r.take v.length = v then [r.drop v.length] else [] := by
  rw [List.take_add_one, hv, List.filter_append, List.map_append]
  congr 1
  show (List.filter _ [v]).map _ = _
  rw [List.filter_cons]
  by_cases h : r.take v.length = v
  · rw [if_pos h, if_pos (decide_eq_true h)]
    rfl
  · rw [if_neg h, if_neg (by rw [decide_eq_false h]; decide)]
    rfl
theorem ext_snoc {ws : List Wd} {j : Nat} {v r : Wd} (hv : ws[j]? = some v) : ((ws.take (j + 1)).filter fun w => decide (w.take r.length = r)).map (fun w => w.drop r.length) = ((ws.take j).filter fun w => decide (w.take r.length = r)).map (fun w => w.drop r.length) ++ if v.take r.length = r then [v.drop r.length] else [] := by
  rw [List.take_add_one, hv, List.filter_append, List.map_append]
  congr 1
  show (List.filter _ [v]).map _ = _
  rw [List.filter_cons]
  by_cases h : v.take r.length = r
  · rw [if_pos h, if_pos (decide_eq_true h)]
    rfl
  · rw [if_neg h, if_neg (by rw [decide_eq_false h]; decide)]
    rfl
theorem flat_sx (ws : List Wd) : (sxV ws).all flatV = true := by
  rw [List.all_eq_true]
  intro x hx
  obtain ⟨y, hy, rfl⟩ := List.mem_map.mp hx
  rfl
section
variable {P : Program} {w : World} {K : PySem.W.Frag} {mg : Str → Option Value} {base : Heap} {CM CJ : Addr}
theorem op_notIn_seqK {X : Cx} (hK : X.K = K) : OpR X (compareOp .NotIn) (rIn K true) := by
  subst hK
  exact op_notIn_seq
structure Tu (K : PySem.W.Frag) (mg : Str → Option Value) (CM CJ : Addr) : Prop extends Tz K mg CM CJ where
  set : mg "set" = none
theorem ok_is_unique {f : Addr} {fd : FuncData} (F : Fun K "_law_is_unique" "_law_is_unique" s__law_is_unique f fd) (T : Tu K mg CM CJ) (D_left : Df P w K mg base 1 "_law_left" spLeft) : FnOk P w K mg base CX0 2 f fd ["_law_table_here"] spUniq := by
  refine F.ok sc__law_is_unique (fun vs H Q E h => ?_) (fun cdv A outer s H vs Q E hr h => ?_)
  · obtain ⟨a, ws, rfl, _⟩ := h
    rfl
  · obtain ⟨d, t, rfl, hd, ok, q⟩ := h
    refine ⟨_, (pss_cons (ps_lock (ps_setLc (i := 1) (own := [("_law_letter", 5)]) (g := gName 5) (by rfl) sc__law_is_unique.nd rfl rfl (sw_true rfl rfl rfl (by decide +kernel)) (pi_keys (pv 0)) (blkOk_by (own := [("_law_letter", 5)]) (N := n__law_is_unique) (sc := defScope s__law_is_unique) (by decide +kernel)) (fun _ _ _ _ _ => (pg_name (i := 5) sc__law_is_unique.nd rfl (.inl rfl))) (fun _ _ _ _ _ => pts_nil) (fun _ _ _ _ _ => (pe_dget (hu_of hr) (pv 0) (pv 5) (fun _ _ => rfl)))))
      (pss_cons (ps_if (pt_cmpR op_lt (pe_lenSetS rfl (by rfl) T.len (by rfl) T.set (pe_lc (own := [("_law_word", 6)]) (g := gName 6) (by rfl) sc__law_is_unique.nd (pi_list (pv 1)) (blkOk_by (own := [("_law_word", 6)]) (N := n__law_is_unique) (sc := defScope s__law_is_unique) (by decide +kernel)) (fun _ _ _ _ _ => (pg_name (i := 6) sc__law_is_unique.nd rfl (.inl rfl))) (fun _ _ _ _ _ => pts_nil) (fun _ _ _ _ _ => (pe_callTy call_strS (by rfl) T.str (by decide +kernel) (pa_cons (pv 6) pa_nil))))) (pe_callB (call_len_seqK (K := K) rfl) (by rfl) T.len (by decide +kernel) (pa_cons (pv 1) pa_nil)) (nomark _))
        (pss_one (ps_ret pe_bl))
        pss_nil)
      (pss_cons (ps_par (i := 2) (j := 3) (by rfl) sc__law_is_unique.nd rfl rfl (by decide) rfl rfl (pa_cons (pe_c D_left hr (by decide) (by rfl) (pa_cons (pv 1) pa_nil)) (pa_cons (pe_lst pa_nil) pa_nil)) (by rfl))
      (pss_cons (ps_while PassesOwn.never (pt_cmpR (op_neDK (K := K) rfl hr.units) (pv 2) (pe_lst pa_nil) (nomark _))
        (pss_cons (ps_set (i := 4) sc__law_is_unique.nd rfl (.inr rfl) (pe_bm0K (K := K) rfl PySem.F.plainAttrs_list PySem.F.slot_list_pop PySem.F.type_list_pop mt_pop (pv 2)))
        (pss_cons (ps_if (pt_cmpR op_in_seq (pv 4) (pv 1) rfl)
          (pss_one (ps_ret pe_bl))
          pss_nil)
        (pss_one (ps_if (pt_cmpR (op_notIn_seqK (K := K) rfl) (pv 4) (pv 3) rfl)
          (pss_cons (ps_expr (pe_bmK (K := K) rfl PySem.F.plainAttrs_list PySem.F.slot_list_append PySem.F.type_list_append mt_append (pv 3) (pa_cons (pv 4) pa_nil)))
          (pss_cons (ps_set (i := 2) sc__law_is_unique.nd rfl (.inl rfl) (pe_op op_cat (pv 2) (pe_lc (own := [("_law_word", 6)]) (g := gName 6) (by rfl) sc__law_is_unique.nd (pi_list (pv 1)) (blkOk_by (own := [("_law_word", 6)]) (N := n__law_is_unique) (sc := defScope s__law_is_unique) (by decide +kernel)) (fun _ _ _ _ _ => (pg_name (i := 6) sc__law_is_unique.nd rfl (.inl rfl))) (fun _ _ _ _ _ => (pts_one (pt_cmpR op_eq (pe_slice sl_str (pv 4) po_none (po_some (pe_callB call_len_str (by rfl) T.len (by decide +kernel) (pa_cons (pv 6) pa_nil)))) (pv 6) (nomark _)))) (fun _ _ _ _ _ => (pe_slice sl_str (pv 4) (po_some (pe_callB call_len_str (by rfl) T.len (by decide +kernel) (pa_cons (pv 6) pa_nil))) po_none)))))
          (pss_one (ps_set (i := 2) sc__law_is_unique.nd rfl (.inl rfl) (pe_op op_cat (pv 2) (pe_lc (own := [("_law_word", 6)]) (g := gName 6) (by rfl) sc__law_is_unique.nd (pi_list (pv 1)) (blkOk_by (own := [("_law_word", 6)]) (N := n__law_is_unique) (sc := defScope s__law_is_unique) (by decide +kernel)) (fun _ _ _ _ _ => (pg_name (i := 6) sc__law_is_unique.nd rfl (.inl rfl))) (fun _ _ _ _ _ => (pts_one (pt_cmpR op_eq (pe_slice sl_str (pv 6) po_none (po_some (pe_callB call_len_str (by rfl) T.len (by decide +kernel) (pa_cons (pv 4) pa_nil)))) (pv 4) (nomark _)))) (fun _ _ _ _ _ => (pe_slice sl_str (pv 6) (po_some (pe_callB call_len_str (by rfl) T.len (by decide +kernel) (pa_cons (pv 4) pa_nil))) po_none))))))))
          pss_nil)))))
      (pss_one (ps_ret pe_bl)))))), ?_⟩
    have wok := words_ok ok
    have few := ok.few
    have lt : (encT t).length = t.length := encT_len t
    refine ⟨d, _, hd, True.intro, fun od => ⟨_, rfl, d, od, rfl, .inl ⟨_, upd_same, fun D nD => lc_it (walk_keys (d := d) (o := od) (kvs := encT t)) (fun i H2 => H2 = upd (upd H d (.frz od (.dK (encT t)))) D (.lst (sxV ((t.take i).map (·.2))))) rfl ?_ ?_ ?_⟩⟩⟩
    · rintro i H2 hi rfl
      rw [upd_ne (ne_of_none upd_same nD)]
      exact upd_same
    · rintro i x H2 H3 hi rfl ⟨rfl, k, v, hk, rfl⟩
      obtain ⟨hi', rfl, rfl⟩ := enc_at hk
      have ad : d ≠ D := ne_of_none (show upd H d (.frz od (.dK (encT t))) d = _ from upd_same) nD
      refine ⟨rfl, _, rfl, _, rfl, d, V.str (Sx t[i].2), rfl, .inl ⟨encT t, Sum.inr (L1 t[i].1), .inr ⟨od, by rw [upd_ne ad]; exact upd_same⟩, rfl, by rw [valV_enc, look_at ok.nd hi']; rfl⟩, _, upd_same, by rw [sxV_len, List.length_map, List.length_take, sizeLine_eq]; omega, ?_⟩
      rw [upd_upd, List.take_add_one, List.getElem?_eq_getElem hi', List.map_append, sxV_app]
      rfl
    · rintro H2 rfl
      rw [lt, List.take_length]
      have ad : d ≠ D := ne_of_none (show upd H d (.frz od (.dK (encT t))) d = _ from upd_same) nD
      have nD2 : H D = none := by
        rw [upd_ne (Ne.symm ad)] at nD
        exact nD
      have eH : upd (upd (upd H d (.frz od (.dK (encT t)))) D (.lst (sxV (t.map (·.2))))) d (.dK (encT t)) = upd H D (.lst (sxV (t.map (·.2)))) := by
        funext b
        by_cases h1 : b = d
        · rw [h1, upd_same, upd_ne ad, hd]
        · by_cases h2 : b = D
          · rw [h2, upd_ne (Ne.symm ad), upd_same, upd_same]
          · rw [upd_ne h1, upd_ne h2, upd_ne h1, upd_ne h2]
      refine ⟨by rw [upd_ne ad]; exact upd_same, ?_⟩
      rw [eH]
      have s0 := same_put (s := Same.refl H) (o := .lst (sxV (t.map (·.2)))) nD2
      have hD : upd H D (.lst (sxV (t.map (·.2)))) D = some (.lst (sxV (t.map (·.2)))) := upd_same
      have eu := uni_tab ok.nd fun q hq => (ok.ok q hq).2.1
      show Ends.nx _ _ (upd H D (.lst (sxV (t.map (·.2)))))
      generalize upd H D (.lst (sxV (t.map (·.2)))) = H0 at s0 hD ⊢
      clear eH nD
      generalize t.map (·.2) = ws at wok hD eu ⊢
      obtain ⟨lw8, wk⟩ := wok
      have sm := sum8 fun w hw => (wk w hw).1
      have lws := sxV_len ws
      refine ⟨_, rfl, D, rfl, ⟨_, SqL.of hD⟩, fun D2 nD2 => lc_it (walk_list (K := K) (a := D) (xs := sxV ws)) (fun i H3 => H3 = upd H0 D2 (.lst (sxV (ws.take i)))) rfl ?_ ?_ ?_⟩
      · rintro i H3 hi rfl
        exact SqL.of (by rw [upd_ne (ne_of_none hD nD2)]; exact hD)
      · rintro i y H30 H3 hi rfl ⟨eH, hy⟩
        rw [eH]
        obtain ⟨v, hv, rfl⟩ := sxV_at hy
        refine ⟨rfl, _, rfl, _, rfl, _, upd_same, by rw [sxV_len, List.length_take, sizeLine_eq]; omega, ?_⟩
        rw [upd_upd, List.take_add_one, hv, sxV_app]
        rfl
      rintro H3 rfl
      rw [lws, List.take_length]
      have s1 := same_put (s := Same.refl H0) (o := .lst (sxV ws)) nD2
      have hD2 : upd H0 D2 (.lst (sxV ws)) D2 = some (.lst (sxV ws)) := upd_same
      generalize upd H0 D2 (.lst (sxV ws)) = H1 at s1 hD2 ⊢
      have hD1 := s1 _ _ hD
      refine ⟨D2, ws.map Sx, rfl, SqL.of hD2, by rw [List.length_map]; omega, _, rfl, D, _, rfl, .inl (SqL.of hD1), _, _, rfl, rfl, _, rfl, ?_⟩
      have s01 : Same H H1 := fun b o e => s1 _ _ (s0 _ _ e)
      by_cases nd : ws.Nodup
      · rw [decide_eq_false (by
          have z : ¬ (uqs (ws.map Sx)).length < (ws.map Sx).length := fun z => (uqs_lt _).mp z (nd_sx.mpr nd)
          rw [List.length_map] at z
          rw [lws]
          omega)]
        refine iteF ?_
        refine ⟨_, rfl, D, ws, rfl, hD1, ⟨lw8, wk⟩, fun c H2 s2 nc hc => ⟨Nat.zero_le _, fun kn nk => ⟨_, _, rfl, ?_⟩⟩⟩
        have s3 := same_put (s := Same.refl H2) (o := .lst []) nk
        have hk0 : upd H2 kn (.lst []) kn = some (.lst (sxV [])) := upd_same
        have ck : c ≠ kn := ne_of_none hc nk
        have cD : c ≠ D := fun z => by
          rw [z, hD1] at nc
          cases nc
        have hD3 := s3 _ _ (s2 _ _ hD1)
        have hc3 := s3 _ _ hc
        have s03 : Same H (upd H2 kn (.lst [])) := fun b o e => s3 _ _ (s2 _ _ (s01 _ _ e))
        have kD : kn ≠ D := fun z => by
          rw [z, s2 _ _ hD1] at nk
          cases nk
        have ncH : H c = none := same_none s01 nc
        have nkH : H kn = none := same_none (fun b o e => s2 _ _ (s01 _ _ e)) nk
        have l0 : (leftW ws).length ≤ 144 := leftW_len lw8
        show Ends.nx _ _ (upd H2 kn (.lst []))
        generalize upd H2 kn (.lst []) = H3 at hk0 hD3 hc3 s03 ⊢
        refine ⟨fun m σ H4 => ∃ (c kn : Addr) (left known : List Wd) (v4 v5 v6 : Option V), m = 30 * (97 - known.length) + left.length ∧ σ = [some (.ref d), some (.ref D), some (.ref c), some (.ref kn), v4, v5, v6] ∧ H4 D = some (.lst (sxV ws)) ∧ H4 c = some (.lst (sxV left)) ∧ H4 kn = some (.lst (sxV known)) ∧ c ≠ kn ∧ c ≠ D ∧ kn ≠ D ∧ H c = none ∧ H kn = none ∧
          Wl ws left known ∧ left.length ≤ 144 + 24 * known.length ∧ Same H H4, ⟨_, c, kn, leftW ws, [], _, _, _, rfl, rfl, hD3, hc3, hk0, ck, cD, kD, ncH, nkH, Wl.start ws, by show _ ≤ 144; exact l0, s03⟩, ?_⟩
        clear ck cD kD ncH nkH hk0 hc3 hD3 s03 s3 nk hc nc s2
        rintro m σ H4 ⟨c, kn, left, known, v4, v5, v6, rfl, rfl, hD4, hc4, hk4, ck, cD, kD, ncH, nkH, W, ll, s4⟩
        have fewK := W.few
        refine ⟨_, rfl, Nat.zero_le _, fun e ne => ?_⟩
        have s5 := same_put (s := Same.refl H4) (o := .lst []) ne
        have he : upd H4 e (.lst []) e = some (.lst []) := upd_same
        have hD5 := s5 _ _ hD4
        have hc5 := s5 _ _ hc4
        have hk5 := s5 _ _ hk4
        generalize upd H4 e (.lst []) = H5 at s5 he hD5 hc5 hk5 ⊢
        have s05 : Same H H5 := fun b o e => s5 _ _ (s4 _ _ e)
        have ltL : ∀ r ∈ left, ∀ x ∈ r, isLt x := fun r hr => by
          obtain ⟨_, w, hw, a, e⟩ := dg_suffix (W.dgL r hr)
          exact fun x hx => (wk w hw).2 x (by rw [e]; exact List.mem_append_right _ hx)
        have es : sxV left = left.map fun r => V.str (Sx r) := List.map_map ..
        refine ⟨.list (left.map fun r => .str (Sx r)), .list [], .lst (SqL.of hc5) (by rw [es]; exact dp_map _ _ (fun r => .str _) left), .lst (SqL.of he) .nil, shaped_map (fun r => PyData.str (Sx r)) left (fun r hr => ok_sx (ltL r hr)) (fun _ => by simp [PyData.depth]), by decide +kernel, _, rfl, ?_⟩
        rw [eqv_sx]
        by_cases el : left = []
        · rw [decide_eq_true el]
          subst el
          have eb : uniB t = true := uniB_iff.mpr (eu.mpr ⟨nd, W.done⟩)
          rw [eb] at q
          exact iteF (q H5 s05)
        rw [decide_eq_false el]
        obtain ⟨left, r, rfl⟩ : ∃ l r, left = l ++ [r] := ⟨_, _, (List.dropLast_concat_getLast el).symm⟩
        refine iteT ⟨fun σ' H' => ∃ m', m' < 30 * (97 - known.length) + (left ++ [r]).length ∧ ∃ (c kn : Addr) (left known : List Wd) (v4 v5 v6 : Option V), m' = 30 * (97 - known.length) + left.length ∧ σ' = [some (.ref d), some (.ref D), some (.ref c), some (.ref kn), v4, v5, v6] ∧ H' D = some (.lst (sxV ws)) ∧ H' c = some (.lst (sxV left)) ∧ H' kn = some (.lst (sxV known)) ∧ c ≠ kn ∧ c ≠ D ∧ kn ≠ D ∧ H c = none ∧ H kn = none ∧
          Wl ws left known ∧ left.length ≤ 144 + 24 * known.length ∧ Same H H', fun _ _ z => z, ?_⟩
        have lr := ltL r (List.mem_append_right _ (List.mem_singleton_self r))
        rw [List.length_append] at ll
        have ll : left.length + 1 ≤ 144 + 24 * known.length := ll
        rw [sxV_app] at hc5
        refine ⟨_, rfl, .inl ⟨rfl, _, SqL.of hc5⟩, c, _, .str (Sx r), rfl, rfl, hc5, by rw [List.length_append]; show (sxV left ++ [V.str (Sx r)])[(sxV left).length + 1 - 1]? = _; rw [Nat.add_sub_cancel, List.getElem?_append_right (Nat.le_refl _), Nat.sub_self]; rfl, ?_⟩
        have edl : (sxV left ++ sxV [r]).dropLast = sxV left := by
          show (sxV left ++ [V.str (Sx r)]).dropLast = _
          rw [List.dropLast_concat]
        rw [edl]
        have hc6 : upd H5 c (.lst (sxV left)) c = some (.lst (sxV left)) := upd_same
        have hD6 : upd H5 c (.lst (sxV left)) D = some (.lst (sxV ws)) := by
          rw [upd_ne (Ne.symm cD)]
          exact hD5
        have hk6 : upd H5 c (.lst (sxV left)) kn = some (.lst (sxV known)) := by
          rw [upd_ne (Ne.symm ck)]
          exact hk5
        have s06 : Same H (upd H5 c (.lst (sxV left))) := fun b o e => by
          rw [upd_ne (ne_of_none e ncH)]
          exact s05 _ _ e
        show Ends.nx _ _ (upd H5 c (.lst (sxV left)))
        generalize upd H5 c (.lst (sxV left)) = H6 at hc6 hD6 hk6 s06 ⊢
        clear hc5 hD5 hk5 s05 s5 he es hc4 hD4 hk4 s4
        refine ⟨_, rfl, _, rfl, D, _, rfl, .inl (SqL.of hD6), rfl, flat_sx ws, _, rfl, ?_⟩
        rw [if_neg (by decide), inV_sx]
        by_cases hw : r ∈ ws
        · rw [decide_eq_true hw]
          have eb : uniB t = false := by
            cases e : uniB t with
            | false => rfl
            | true => exact absurd hw ((eu.mp (uniB_iff.mp e)).2 r (W.dgL r (List.mem_append_right _ (List.mem_singleton_self r))))
          rw [eb] at q
          exact iteT (q H6 s06)
        rw [decide_eq_false hw]
        refine iteF ?_
        refine ⟨_, rfl, _, rfl, kn, _, rfl, .inl (SqL.of hk6), rfl, flat_sx known, _, rfl, ?_⟩
        rw [if_pos rfl, inV_sx]
        by_cases hk : r ∈ known
        · rw [decide_eq_true hk]
          refine iteF ⟨_, ?_, c, kn, left, known, _, _, _, rfl, rfl, hD6, hc6, hk6, ck, cD, kD, ncH, nkH, W.old hk, by omega, s06⟩
          rw [List.length_append]
          show _ < _ + (_ + 1)
          omega
        rw [decide_eq_false hk]
        refine iteT ?_
        have lk64 : known.length + 1 ≤ 96 := by
          have := (W.new hk hw).few
          rw [List.length_append] at this
          have : known.length + 1 ≤ (ws.map List.length).sum := this
          omega
        refine ⟨_, rfl, .inl ⟨rfl, _, SqL.of hk6⟩, _, rfl, kn, _, _, rfl, rfl, hk6, by rw [sxV_len, sizeLine_eq]; omega, ?_⟩
        have hk7 : upd H6 kn (.lst (sxV known ++ [V.str (Sx r)])) kn = some (.lst (sxV (known ++ [r]))) := by
          rw [upd_same, sxV_app]
          rfl
        have hD7 : upd H6 kn (.lst (sxV known ++ [V.str (Sx r)])) D = some (.lst (sxV ws)) := by
          rw [upd_ne (Ne.symm kD)]
          exact hD6
        have hc7 : upd H6 kn (.lst (sxV known ++ [V.str (Sx r)])) c = some (.lst (sxV left)) := by
          rw [upd_ne ck]
          exact hc6
        have s07 : Same H (upd H6 kn (.lst (sxV known ++ [V.str (Sx r)]))) := fun b o e => by
          rw [upd_ne (ne_of_none e nkH)]
          exact s06 _ _ e
        show Ends.nx _ _ (upd H6 kn (.lst (sxV known ++ [V.str (Sx r)])))
        generalize upd H6 kn (.lst (sxV known ++ [V.str (Sx r)])) = H7 at hc7 hD7 hk7 s07 ⊢
        clear hc6 hD6 hk6 s06
        have l8r : r.length ≤ 8 := by
          obtain ⟨_, w, hw2, a, e⟩ := dg_suffix (W.dgL r (List.mem_append_right _ (List.mem_singleton_self r)))
          have := (wk w hw2).1
          rw [e, List.length_append] at this
          omega
        have zr : (Sx r).length ≤ sizeLine := by rw [Sx_len, sizeLine_eq]; omega
        -- what is left of it
        refine ⟨_, rfl, _, rfl, D, rfl, ⟨_, SqL.of hD7⟩, fun E1 nE1 => lc_it (walk_list (K := K) (a := D) (xs := sxV ws)) (fun j H8 => H8 = upd H7 E1 (.lst (sxV (((ws.take j).filter fun w => decide (r.take w.length = w)).map fun w => r.drop w.length)))) rfl ?_ ?_ ?_⟩
        · rintro j H8 hj rfl
          exact SqL.of (by rw [upd_ne (ne_of_none hD7 nE1)]; exact hD7)
        · rintro j y H80 H8 hj rfl ⟨eH, hy⟩
          rw [eH]
          obtain ⟨v, hv, rfl⟩ := sxV_at hy
          have lv := (wk v (List.mem_of_getElem? hv)).1
          have zv : (Sx v).length ≤ sizeLine := by rw [Sx_len, sizeLine_eq]; omega
          refine ⟨rfl, _, rfl, _, rfl, Sx v, rfl, zv, _, rfl, Sx r, rfl, zr, _, rfl, rfl, _, rfl, ?_⟩
          rw [Sx_len, cut_take, Sx_eq]
          by_cases e2 : r.take v.length = v
          · rw [decide_eq_true e2]
            refine iteT ⟨_, rfl, _, rfl, Sx v, rfl, zv, _, rfl, Sx r, rfl, zr, _, upd_same, by rw [sxV_len, List.length_map, sizeLine_eq]; exact Nat.lt_of_le_of_lt (List.length_filter_le _ _) (by rw [List.length_take]; omega), ?_⟩
            rw [Sx_len, cut_drop, upd_upd, cut_snoc hv, if_pos e2, sxV_app]
            rfl
          · rw [decide_eq_false e2]
            refine iteF ?_
            rw [cut_snoc hv, if_neg e2, List.append_nil]
        rintro H8 rfl
        rw [List.take_of_length_le (by rw [sxV_len]; exact Nat.le_refl _)]
        have lcut : (cutW ws r).length ≤ 12 := Nat.le_trans (cutW_len ws r) lw8
        have s8 := same_put (s := Same.refl H7) (o := .lst (sxV (cutW ws r))) nE1
        have hE1 : upd H7 E1 (.lst (sxV (cutW ws r))) E1 = some (.lst (sxV (cutW ws r))) := upd_same
        refine ⟨c, E1, sxV left, sxV (cutW ws r), rfl, rfl, s8 _ _ hc7, hE1, by rw [sxV_len, sxV_len, sizeLine_eq]; omega, fun p np => ?_⟩
        have s9 := same_put (s := s8) (o := .lst (sxV left ++ sxV (cutW ws r))) np
        have hp : upd (upd H7 E1 (.lst (sxV (cutW ws r)))) p (.lst (sxV left ++ sxV (cutW ws r))) p = some (.lst (sxV (left ++ cutW ws r))) := by
          rw [upd_same, sxV_app]
        have s09 : Same H (upd (upd H7 E1 (.lst (sxV (cutW ws r)))) p (.lst (sxV left ++ sxV (cutW ws r)))) := fun b o e => s9 _ _ (s07 _ _ e)
        have hD9 := s9 _ _ hD7
        have hk9 := s9 _ _ hk7
        show Ends.nx _ _ (upd (upd H7 E1 (.lst (sxV (cutW ws r)))) p (.lst (sxV left ++ sxV (cutW ws r))))
        generalize upd (upd H7 E1 (.lst (sxV (cutW ws r)))) p (.lst (sxV left ++ sxV (cutW ws r))) = H9 at hp s09 hD9 hk9 ⊢
        clear s9 s8 hE1 np nE1 hc7 hD7 hk7 s07
        refine ⟨_, rfl, _, rfl, D, rfl, ⟨_, SqL.of hD9⟩, fun E1 nE1 => lc_it (walk_list (K := K) (a := D) (xs := sxV ws)) (fun j H8 => H8 = upd H9 E1 (.lst (sxV (((ws.take j).filter fun w => decide (w.take r.length = r)).map fun w => w.drop r.length)))) rfl ?_ ?_ ?_⟩
        · rintro j H8 hj rfl
          exact SqL.of (by rw [upd_ne (ne_of_none hD9 nE1)]; exact hD9)
        · rintro j y H80 H8 hj rfl ⟨eH, hy⟩
          rw [eH]
          obtain ⟨v, hv, rfl⟩ := sxV_at hy
          have lv := (wk v (List.mem_of_getElem? hv)).1
          have zv : (Sx v).length ≤ sizeLine := by rw [Sx_len, sizeLine_eq]; omega
          refine ⟨rfl, _, rfl, _, rfl, Sx r, rfl, zr, _, rfl, Sx v, rfl, zv, _, rfl, rfl, _, rfl, ?_⟩
          rw [Sx_len, cut_take, Sx_eq]
          by_cases e2 : v.take r.length = r
          · rw [decide_eq_true e2]
            refine iteT ⟨_, rfl, _, rfl, Sx r, rfl, zr, _, rfl, Sx v, rfl, zv, _, upd_same, by rw [sxV_len, List.length_map, sizeLine_eq]; exact Nat.lt_of_le_of_lt (List.length_filter_le _ _) (by rw [List.length_take]; omega), ?_⟩
            rw [Sx_len, cut_drop, upd_upd, ext_snoc hv, if_pos e2, sxV_app]
            rfl
          · rw [decide_eq_false e2]
            refine iteF ?_
            rw [ext_snoc hv, if_neg e2, List.append_nil]
        rintro H8 rfl
        rw [List.take_of_length_le (by rw [sxV_len]; exact Nat.le_refl _)]
        have lext : (extW ws r).length ≤ 12 := Nat.le_trans (extW_len ws r) lw8
        have s10 := same_put (s := Same.refl H9) (o := .lst (sxV (extW ws r))) nE1
        have hE1 : upd H9 E1 (.lst (sxV (extW ws r))) E1 = some (.lst (sxV (extW ws r))) := upd_same
        have lcl : (left ++ cutW ws r).length ≤ left.length + 12 := by
          rw [List.length_append]
          omega
        refine ⟨p, E1, sxV (left ++ cutW ws r), sxV (extW ws r), rfl, rfl, s10 _ _ hp, hE1, by rw [sxV_len, sxV_len, sizeLine_eq]; omega, fun p2 np2 => ?_⟩
        have s11 := same_put (s := s10) (o := .lst (sxV (left ++ cutW ws r) ++ sxV (extW ws r))) np2
        have np2H : H p2 = none := same_none (fun b o e => s10 _ _ (s09 _ _ e)) np2
        have kp2 : p2 ≠ kn := fun z => by
          rw [z] at np2
          cases (s10 _ _ hk9).symm.trans np2
        have Dp2 : p2 ≠ D := fun z => by
          rw [z] at np2
          cases (s10 _ _ hD9).symm.trans np2
        refine ⟨_, ?_, p2, kn, left ++ cutW ws r ++ extW ws r, known ++ [r], _, _, _, rfl, rfl, s11 _ _ hD9, by rw [upd_same, sxV_app (left ++ cutW ws r)], s11 _ _ hk9, kp2, Dp2, kD, np2H, nkH, W.new hk hw, ?_, fun b o e => s11 _ _ (s09 _ _ e)⟩
        · rw [List.length_append, List.length_append, List.length_append, List.length_append]
          show 30 * (97 - (known.length + 1)) + _ < 30 * (97 - known.length) + (left.length + 1)
          omega
        · rw [List.length_append, List.length_append, List.length_append]
          show _ ≤ 144 + 24 * (known.length + 1)
          omega
      · rw [decide_eq_true (by
          have z : (uqs (ws.map Sx)).length < (ws.map Sx).length := (uqs_lt _).mpr fun z => nd (nd_sx.mp z)
          rw [List.length_map] at z
          rw [lws]
          omega)]
        have eb : uniB t = false := by
          cases e : uniB t with
          | false => rfl
          | true => exact absurd (eu.mp (uniB_iff.mp e)).1 nd
        rw [eb] at q
        exact iteT (q H1 s01)
end
end V8
set_option Elab.async false
set_option linter.all false
set_option maxRecDepth 100000
set_option maxHeartbeats 4000000
/-! A list or a tuple, whichever it is, gone over. -/
namespace L2
open PySem PySem.Spec PyProof.Rows
/-- a list, or a tuple -/
def SqB (K : PySem.W.Frag) : Bool → Hp → Addr → List V → Prop
  | true, H, a, xs => SqL K H a xs
  | false, H, a, xs => SqT K H a xs
theorem SqB.same {K : PySem.W.Frag} {b : Bool} {H H2 : Hp} {a : Addr} {xs : List V} (h : SqB K b H a xs) (s : Same H H2) : SqB K b H2 a xs := by
  cases b with
  | true => exact h.elim (fun h => .inl (h.elim (fun h => .inl (s _ _ h)) fun ⟨o, h⟩ => .inr ⟨o, s _ _ h⟩)) .inr
  | false => exact h.elim (fun h => .inl (h.elim (fun h => .inl (s _ _ h)) fun ⟨o, h⟩ => .inr ⟨o, s _ _ h⟩)) .inr
end L2
set_option Elab.async false
set_option linter.all false
set_option maxRecDepth 100000
set_option maxHeartbeats 4000000
/-! A list of anything and the empty list. -/
namespace L2
open PySem PySem.Spec PyProof.Rows
def rNeNil (K : PySem.W.Frag) : R2 := fun x y H Q => ∃ (a b : Addr) (xs : List V), x = .ref a ∧ y = .ref b ∧ SqL K H a xs ∧ SqL K H b [] ∧ Q (.bl (!xs.isEmpty)) H
theorem op_neNil {X : Cx} (hu : X.A.units < cLine) : OpR X (compareOp .NotEq) (rNeNil X.K) := by
  intro pins s σ H x y v u Q I rx ry h
  obtain ⟨a, b, xs, rfl, rfl, ha, hb, q⟩ := h
  obtain rfl : v = Value.ref a := rx
  obtain rfl : u = Value.ref b := ry
  obtain ⟨its, r1, p1, _⟩ := I.list ha
  obtain ⟨jts, r2, p2, _⟩ := I.list hb
  cases r2
  have l1 : s.heap.IsList a its.toArray := by
    obtain ⟨o, n, e, c, d, f⟩ := p1
    exact ⟨o, e, c, n, by first | exact d | exact f⟩
  have l2 : s.heap.IsList b ([] : List Value).toArray := by
    obtain ⟨o, n, e, c, d, f⟩ := p2
    exact ⟨o, e, c, n, by first | exact d | exact f⟩
  cases its with
  | nil =>
    cases r1
    exact SeqAt.RcNeAt.lists (e := fun _ => true) l1 l2 rfl hu (fun j h1 _ => absurd h1 (by simp)) _ _ _ _ ⟨.bl false, H, I, rfl, q⟩
  | cons t ts =>
    cases r1
    exact SeqAt.RcNeAt.lists_lengths l1 l2 (by simp) hu _ _ _ _ ⟨.bl true, H, I, rfl, q⟩
theorem op_neNilK {X : Cx} {K : PySem.W.Frag} (hK : X.K = K) (hu : X.A.units < cLine) : OpR X (compareOp .NotEq) (rNeNil K) := by
  subst hK
  exact op_neNil hu
end L2
set_option Elab.async false
set_option linter.all false
set_option maxRecDepth 100000
set_option maxHeartbeats 16000000
set_option pp.maxSteps 500
/-! Whether a misreading is let or refused. -/
namespace V8
open PySem PySem.Spec PyProof.Rows L2 MZ LamX MX SetT
abbrev s__law_right : Stmt := topS 92
abbrev n__law_right : List Str := ["_law_made", "_law_paper", "_law_heard_here", "_law_table_here", "_law_letter"]
theorem sc__law_right : FnScope ["_law_made", "_law_paper", "_law_heard_here", "_law_table_here", "_law_letter"] ["_law_made", "_law_paper"] (defScope s__law_right) := ⟨rfl, rfl, rfl, by decide +kernel, rfl, by decide +kernel, by decide +kernel⟩
theorem ims_nd (u : Tab) : ((ims u).map (·.1)).Nodup := by
  unfold ims
  rw [List.map_map]
  have e : (keysOf u).map ((·.1) ∘ fun c => (c, (lookT u c).getD [])) = keysOf u := by
    conv => rhs; rw [← List.map_id (keysOf u)]
    rfl
  rw [e]
  exact keysOf_nd u
theorem ims_wl (u : Tab) : wl (ims u) = pairsT u := by
  unfold wl ims pairsT
  rw [List.map_map]
  rfl
theorem ims_tb {u : Tab} (o : OkU u) : TbU (ims u) := by
  refine ⟨ims_nd u, ?_, fun q hq => ?_⟩
  · unfold ims
    rw [List.length_map]
    exact o.few
  · obtain ⟨c, hc, rfl⟩ := List.mem_map.mp hq
    obtain ⟨s, e, h1, h2, h3⟩ := o.img c hc
    refine ⟨abc_mem.mp (keysOf_mem.mp hc).1, ?_, ?_, ?_⟩
    · rw [show ((c, (lookT u c).getD []) : Nat × List Nat).2 = (lookT u c).getD [] from rfl, e]
      exact h1
    · rw [show ((c, (lookT u c).getD []) : Nat × List Nat).2 = (lookT u c).getD [] from rfl, e]
      exact h2
    · rw [show ((c, (lookT u c).getD []) : Nat × List Nat).2 = (lookT u c).getD [] from rfl, e]
      exact h3
theorem ims_alike {u : Tab} (o : OkU u) : uniB (ims u) = true ↔ Alike (pairsT u) (pairsT u) := by
  rw [uniB_iff, ims_wl, alike_iff o.ne o.ne]
def okA (u : Tab) (b : Bool) : Prop := b = true ↔ Alike (pairsT u) (pairsT u)
structure Tri (K : PySem.W.Frag) (mg : Str → Option Value) (CM CJ CB CX CR : Addr) : Prop extends Tz K mg CM CJ where
  toTh : Th K mg CB CX CR
theorem eqD_same {K : PySem.W.Frag} {H : Hp} {Q : VK} {x y : V} {d : PyData} (hx : Dp K H x d) (hy : Dp K H y d) (sh : SeqAt.shaped d = true) (q : Q (.bl true) H) : rEqD K x y H Q := by
  refine ⟨d, d, hx, hy, sh, sh, ?_⟩
  rw [SeqAt.eqv_refl d (SeqAt.canLay_of_shaped sh)]
  exact q
theorem neD_same {K : PySem.W.Frag} {H : Hp} {Q : VK} {x y : V} {d : PyData} (hx : Dp K H x d) (hy : Dp K H y d) (sh : SeqAt.shaped d = true) (q : Q (.bl false) H) : rNeD K x y H Q := by
  refine ⟨d, d, hx, hy, sh, sh, ?_⟩
  rw [SeqAt.eqv_refl d (SeqAt.canLay_of_shaped sh)]
  exact q
def dueP : Due → PyData
  | .bad => .tuple [.str "table", .str "misreading"]
  | .long => .tuple [.str "image", .int 8]
  | .fine => .none
theorem due_dp {K : PySem.W.Frag} {H : Hp} {t : Addr} {due : Due} (nf : due ≠ .fine) (h : H t = some (.tup (dueT due))) : Dp K H (.ref t) (dueP due) := by
  cases due with
  | bad => exact .tup (.of h) (.cons (.str _) (.cons (.str _) .nil))
  | long => exact .tup (.of h) (.cons (.str _) (.cons (.int _) .nil))
  | fine => exact absurd rfl nf
theorem due_shaped (due : Due) : SeqAt.shaped (.list [dueP due, dueP due]) = true := by
  cases due <;> decide +kernel
theorem rep_two {v1 v2 : V} {σ : L2.St} {H : Hp} {Q : VK} (q : ∀ t d H2, Same H H2 → H2 t = some (.tup [v1, v2]) → H2 d = some (.lst [.ref t, .ref t]) → Q (.ref d) H2) : tOp rRep (tLst (tCons (tTup (tCons (tC v1) (tCons (tC v2) tNil))) tNil)) (tC (V.int 2)) σ H Q := by
  refine ⟨by show 2 ≤ sizeLine; decide, fun t1 nt1 => ⟨by show 1 ≤ sizeLine; decide, fun c1 nc1 => ⟨c1, 2, _, rfl, rfl, upd_same, by decide, by decide, by show 1 * 2 ≤ sizeLine; decide, fun d1 nd1 => ?_⟩⟩⟩
  have s1 := same_put (s := Same.refl H) (o := .tup [v1, v2]) nt1
  have s2 := same_put (s := Same.refl _) (o := .lst [.ref t1]) nc1
  have s3 := same_put (s := Same.refl _) (o := .lst [.ref t1, .ref t1]) nd1
  exact q t1 d1 _ (fun b o e => s3 _ _ (s2 _ _ (s1 _ _ e))) (s3 _ _ (s2 _ _ upd_same)) upd_same
def spRightM (K : PySem.W.Frag) (TL : List (Addr × Str)) (aS aE aV aD CM CO CR : Addr) : Sp := fun vs H Q _ => ∃ (x : Addr) (pv : V) (u : Tab), vs = [.ref x, pv] ∧ MisAt CM H x u ∧ Mad u ∧ PapV K CO CR H pv ∧ Tabs TL H ∧ CnS K aS aE aV aD H ∧ ∀ H', ExtN H H' → Tabs TL H' → Q (.bl true) H'
section
variable {P : Program} {w : World} {K : PySem.W.Frag} {mg : Str → Option Value} {base : Heap} {aS aE aV aD CM CJ CB CX CE CO CR g c PT : Addr} {TL : List (Addr × Str)}
theorem ok_rightM {f : Addr} {fd : FuncData} (F : FunC K "_law_right" "_law_right" s__law_right f c fd) (T : Tri K mg CM CJ CB CX CE) (D_merging : DfG P w K mg base (L2.CX P w) 7 "merging" (spMrgA K aS aE aV aD CM CB CX CO CR)) (D_shows_merging : DfG P w K mg base (L2.CX P w) 7 "shows_merging" (spShowA K CM CB CX CO CR)) (D_boolO : Mf P w K mg base 1 CO "__bool__" (spTrue true)) (D_boolR : Mf P w K mg base 1 CR "__bool__" (spTrue false))
    (D_iter : ItM P w K mg base 1 CM (snIter CM)) (D_get : Mf P w K mg base 2 CM "__getitem__" (spGet CM)) (D_is_unique : Df P w K mg base 2 "_law_is_unique" spUniq)
    (D_heard : HearD K mg g) (TB : TabT base mg TL (("_law_right" : Str) ++ ".<locals>.") c PT) : FnG P w K mg base CX0 12 f fd ["_law_made", "_law_paper"] (spRightM K TL aS aE aV aD CM CO CR) := by
  refine F.okG sc__law_right (fun vs H Q E h => ?_) (fun A outer s H vs Q E quiet hr h => ?_)
  · obtain ⟨x, ppv, u, rfl, _⟩ := h
    rfl
  · obtain ⟨x, ppv, u, rfl, m, md, pp, tb, cn, q⟩ := h
    refine ⟨_, (pss_cons (ps_set (i := 2) sc__law_right.nd rfl (.inl rfl) (pe_lst (pa_cons (pe_heardG (k := 8) T.toTh D_heard TB quiet hr (by decide) rfl rfl (by rfl) (lamS_by (sc := defScope s__law_right) (by decide +kernel)) (by rfl) (fun _ _ _ _ _ => rfl) (fun A2 o2 s2 H2 E2 f2 c2 quiet2 hr2 => (pe_callTy (call_or (call_boolO D_boolO hr2 (by decide)) (call_boolO D_boolR hr2 (by decide))) (by rfl) T.bool (by decide +kernel) (pa_cons (pe_cG D_merging quiet2 (passTk (takes_of rfl rfl rfl rfl)) hr2 (by decide) (by rfl) (pa_cons (pv 0) pa_nil)) pa_nil)))) pa_nil)))
      (pss_cons (ps_expr (pe_bmK (K := K) rfl PySem.F.plainAttrs_list PySem.F.slot_list_append PySem.F.type_list_append mt_append (pv 2) (pa_cons (pe_heardG (k := 8) T.toTh D_heard TB quiet hr (by decide) rfl rfl (by rfl) (lamS_by (sc := defScope s__law_right) (by decide +kernel)) (by rfl) (fun _ _ _ _ _ => rfl) (fun A2 o2 s2 H2 E2 f2 c2 quiet2 hr2 => (pe_cG D_shows_merging quiet2 (passTk (takes_of rfl rfl rfl rfl)) hr2 (by decide) (by rfl) (pa_cons (pv 0) (pa_cons (pv 1) pa_nil))))) pa_nil)))
      (pss_cons (ps_if (pt_cmpR (op_neNilK (K := K) rfl hr.units0) (pe_lc (own := [("_law_letter", 4)]) (g := gName 4) (by rfl) sc__law_right.nd (pi_ownI D_iter hr (by decide) (pv 0)) (blkOk_by (own := [("_law_letter", 4)]) (N := n__law_right) (sc := defScope s__law_right) (by decide +kernel)) (fun _ _ _ _ _ => (pg_name (i := 4) sc__law_right.nd rfl (.inl rfl))) (fun _ _ _ _ _ => (pts_one (pt_cmpR op_gt (pe_callB call_len_str (by rfl) T.len (by decide +kernel) (pa_cons (pe_ixO D_get hr (by decide) (pv 0) (pv 4)) pa_nil)) pe_int (nomark _)))) (fun _ _ _ _ _ => (pv 4))) (pe_lst pa_nil) (nomark _))
        (pss_one (ps_ret (pe_cmpR (op_eqDK (K := K) rfl hr.units) (pv 2) (pe_op op_rep (pe_lst (pa_cons (pe_tup (pa_cons pe_str (pa_cons pe_int pa_nil))) pa_nil)) pe_int) (nomark _))))
        pss_nil)
      (pss_cons (ps_set (i := 3) sc__law_right.nd rfl (.inl rfl) (pe_callTy (call_dictP rfl) (by rfl) T.dict (by decide +kernel) (pa_cons (pe_lc (own := [("_law_letter", 4)]) (g := gName 4) (by rfl) sc__law_right.nd (pi_ownI D_iter hr (by decide) (pv 0)) (blkOk_by (own := [("_law_letter", 4)]) (N := n__law_right) (sc := defScope s__law_right) (by decide +kernel)) (fun _ _ _ _ _ => (pg_name (i := 4) sc__law_right.nd rfl (.inl rfl))) (fun _ _ _ _ _ => pts_nil) (fun _ _ _ _ _ => (pe_tup (pa_cons (pv 4) (pa_cons (pe_ixO D_get hr (by decide) (pv 0) (pv 4)) pa_nil))))) pa_nil)))
      (pss_one (ps_ret (pe_cmpR (op_eqDK (K := K) rfl hr.units) (pv 2) (pe_lst (pa_cons (pe_lst (pa_cons (pe_c D_is_unique hr (by decide) (by rfl) (pa_cons (pv 3) pa_nil)) pa_nil)) (pa_cons (pe_lst (pa_cons pe_bl pa_nil)) pa_nil))) (nomark _)))))))), ?_⟩
    have tv : ThingM K CM H (.ref x) (some u) := ⟨x, rfl, m, md⟩
    obtain ⟨o, eo⟩ : ∃ o : Option Tab, o = some u := ⟨_, rfl⟩
    obtain ⟨v, ev⟩ : ∃ v : V, v = .ref x := ⟨_, rfl⟩
    refine heard_end6 (dueO (some u)) (okA u) tb (fun H1 E1 R e1 tb1 hE hR => ?_) (fun h1 H2 e2 tb2 w1 w2 => ?_)
    · refine ⟨_, rfl, .ref x, some u, rfl, tv.ext e1, (cn.ext e1).cn, (cn.ext e1).sd, hE, fun fi u' eu z H3 s3 hz => ?_⟩
      cases eu
      rcases hz with ⟨dx, l, d, rs, rs', ak, hz, _⟩ | ⟨dx, w, hz, way, ne, _⟩
      · exact .inl ⟨z, dx, _, rfl, hz, z, rfl, true, rfl, hR fi true ⟨fun _ => ak, fun _ => rfl⟩ H3 s3⟩
      · exact .inr ⟨z, dx, _, rfl, hz, z, rfl, false, rfl, hR fi false ⟨(fun z => nomatch z), fun ak => absurd (ak w way) ne⟩ H3 s3⟩
    refine ⟨by show 1 ≤ sizeLine; decide, fun l nl => ?_⟩
    have s3 := same_put (s := Same.refl H2) (o := .lst [.ref h1]) nl
    have hl : upd H2 l (.lst [.ref h1]) l = some (.lst [.ref h1]) := upd_same
    have e3 := e2.trans (ExtN.of s3)
    have tb3 := tb2.ext s3
    have w1' : dueO (some u) ≠ .fine → upd H2 l (.lst [.ref h1]) h1 = some (.tup (dueT (dueO (some u)))) := fun nf => s3 _ _ (w1 nf)
    have w2' : dueO (some u) = .fine → ∃ b, upd H2 l (.lst [.ref h1]) h1 = some (.lst [.bl b]) ∧ (okA u b) := fun fi => by
      obtain ⟨b, h, u⟩ := w2 fi
      exact ⟨b, s3 _ _ h, u⟩
    have n1 : l ≠ h1 := by
      by_cases fi : dueO (some u) = .fine
      · obtain ⟨b, h, _⟩ := w2 fi
        exact Ne.symm (ne_of_none h nl)
      · exact Ne.symm (ne_of_none (w1 fi) nl)
    refine atNm ?_
    dsimp only [List.set_cons_succ, List.set_cons_zero]
    generalize upd H2 l (.lst [.ref h1]) = H3 at hl e3 tb3 w1' w2' ⊢
    refine ⟨_, rfl, .inl ⟨rfl, _, SqL.of hl⟩, ?_⟩
    refine heard_end6 (dueO (some u)) (fun b => b = false) tb3 (fun H4 E1 R e4 tb4 hE hR => ?_) (fun h2 H4 e4 tb4 x1 x2 => ?_)
    · exact ⟨_, rfl, _, rfl, .ref x, ppv, some u, rfl, tv.ext (e3.trans e4), pp.ext (e3.trans e4), hE, fun fi H5 s5 => hR fi false rfl H5 s5⟩
    have hl4 := e4 _ _ hl (fun _ z => nomatch z)
    have n2 : l ≠ h2 := fun z => by
      subst z
      by_cases fi : dueO (some u) = .fine
      · obtain ⟨b, h, ob⟩ := x2 fi
        rw [hl4] at h
        cases h
      · rw [hl4] at x1
        cases x1 fi
    refine ⟨l, [.ref h1], .ref h2, rfl, rfl, hl4, by show 1 < sizeLine; decide, ?_⟩
    have np : ∀ b o, H4 b = some o → (∀ xs, o ≠ .lst xs) → upd H4 l (.lst ([.ref h1] ++ [.ref h2])) b = some o := fun b o z n => by
      rw [upd_ne (fun e => by rw [e, hl4] at z; cases z; exact n _ rfl)]
      exact z
    have eH : ExtN H (upd H4 l (.lst ([.ref h1] ++ [.ref h2]))) := fun b o z n => by
      by_cases eb : b = l
      · exfalso
        rw [eb] at z
        have := e2 _ _ z n
        rw [nl] at this
        cases this
      · rw [upd_ne eb]
        exact (e3.trans e4) _ _ z n
    have tb5 := tabs_mono tb4 np
    have hl5 : upd H4 l (.lst ([.ref h1] ++ [.ref h2])) l = some (.lst [.ref h1, .ref h2]) := upd_same
    have y1 : dueO (some u) ≠ .fine → upd H4 l (.lst ([.ref h1] ++ [.ref h2])) h1 = some (.tup (dueT (dueO (some u)))) ∧ upd H4 l (.lst ([.ref h1] ++ [.ref h2])) h2 = some (.tup (dueT (dueO (some u)))) := fun nf => by
      rw [upd_ne (Ne.symm n1), upd_ne (Ne.symm n2)]
      exact ⟨e4 _ _ (w1' nf) (fun _ z => nomatch z), x1 nf⟩
    have y2 : dueO (some u) = .fine → ∃ b, okA u b ∧ upd H4 l (.lst ([.ref h1] ++ [.ref h2])) h1 = some (.lst [.bl b]) ∧ upd H4 l (.lst ([.ref h1] ++ [.ref h2])) h2 = some (.lst [.bl false]) := fun fi => by
      obtain ⟨b, hb, hu⟩ := w2' fi
      obtain ⟨b2, h, ob⟩ := x2 fi
      subst ob
      refine ⟨b, hu, ?_, ?_⟩
      · rw [upd_ne (Ne.symm n1)]
        exact e4 _ _ hb fun _ z => nomatch z
      · rw [upd_ne (Ne.symm n2)]
        exact h
    have m5 := mis_ext m eH
    dsimp only
    generalize upd H4 l (.lst ([.ref h1] ++ [.ref h2])) = H5 at eH tb5 hl5 y1 y2 m5 ⊢
    clear np n2 hl4 x1 x2 tb4 e4 n1 w1' w2' tb3 e3 hl w1 w2 tb2 e2 nl
    -- long images
    have lk := lets_len (keysOf u)
    have k26 := keysOf_len u
    obtain ⟨dx0, fs0, hx0⟩ := m5.ins
    refine ⟨_, rfl, x, dx0, fs0, rfl, hx0, fun k0 hk0 => ⟨x, u, rfl, m5, fun it ia ni hi2 hia => ⟨it, ia, rfl, hi2, upd_same, ?_⟩⟩⟩
    rw [dropH_upd ni]
    refine fun E nE => lc_it (walk_tup (K := K) (a := ia) (xs := lets (keysOf u))) (fun j B => B = upd H5 E (.lst (lets (((keysOf u).take j).filter (lngC u))))) rfl ?_ ?_ ?_
    · rintro j B hj rfl
      exact .inl (.inl (by rw [upd_ne (ne_of_none hia nE)]; exact hia))
    · rintro j y2 B0 B hj rfl ⟨rfl, hy2⟩
      obtain ⟨hi', rfl⟩ := lets_get hy2
      have hc := List.getElem_mem hi'
      obtain ⟨s', es⟩ := Option.isSome_iff_exists.mp (keysOf_mem.mp hc).2
      have sB := same_put (s := Same.refl H5) (o := .lst (lets (((keysOf u).take j).filter (lngC u)))) nE
      have m2 := m5.same2 sB
      obtain ⟨dx, a1, b1, c1, hm1, _⟩ := m2.at_
      have l1 := md.im _ hc
      rw [es] at l1
      have l1 : s'.length ≤ 100 := l1
      have eL : lngC u (keysOf u)[j] = decide ((8 : Int) < ((s'.length : Nat) : Int)) := by
        unfold lngC
        rw [es]
        show decide (8 < s'.length) = _
        rw [decide_eq_decide]
        omega
      refine ⟨rfl, _, rfl, _, rfl, x, dx, _, rfl, hm1, x, u, _, s', rfl, m2, hc, es, _, rfl, by rw [Sx_len, sizeLine_eq]; omega, _, _, rfl, rfl, _, rfl, ?_⟩
      rw [Sx_len, ← eL]
      have et : ((keysOf u).take (j + 1)).filter (lngC u) = ((keysOf u).take j).filter (lngC u) ++ (if lngC u (keysOf u)[j] = true then [(keysOf u)[j]] else []) := by
        rw [List.take_add_one, List.getElem?_eq_getElem hi', List.filter_append]
        congr 1
        show List.filter _ [(keysOf u)[j]] = _
        by_cases e : lngC u (keysOf u)[j] = true
        · rw [if_pos e, List.filter_cons, if_pos e]
          rfl
        · rw [if_neg e, List.filter_cons, if_neg e]
          rfl
      have lf : (((keysOf u).take j).filter (lngC u)).length ≤ 26 := Nat.le_trans (List.length_filter_le _ _) (by rw [List.length_take]; omega)
      by_cases e : lngC u (keysOf u)[j] = true
      · rw [e]
        refine iteT ⟨_, rfl, _, upd_same, by rw [lets_len, sizeLine_eq]; omega, ?_⟩
        rw [upd_upd, et, if_pos e]
        congr 2
        unfold lets
        rw [List.map_append]
        rfl
      · rw [Bool.eq_false_iff.mpr e]
        refine iteF ?_
        rw [et, if_neg e, List.append_nil]
    rintro B rfl
    rw [lk, List.take_length]
    have sB := same_put (s := Same.refl H5) (o := .lst (lets ((keysOf u).filter (lngC u)))) nE
    have hB : upd H5 E (.lst (lets ((keysOf u).filter (lngC u)))) E = some (.lst (lets ((keysOf u).filter (lngC u)))) := upd_same
    generalize upd H5 E (.lst (lets ((keysOf u).filter (lngC u)))) = B1 at sB hB ⊢
    refine ⟨Nat.zero_le _, fun g2 ng2 => ?_⟩
    have s3' := same_put (s := Same.refl B1) (o := .lst []) ng2
    refine ⟨E, g2, _, rfl, rfl, .of (s3' _ _ hB), .of upd_same, _, rfl, ?_⟩
    have s5 : Same H5 (upd B1 g2 (.lst [])) := fun b o e => s3' _ _ (sB _ _ e)
    generalize upd B1 g2 (.lst []) = H6 at s5 ⊢
    have ee : (lets ((keysOf u).filter (lngC u))).isEmpty = shortT u := by
      show _ = ((keysOf u).filter (lngC u)).isEmpty
      cases (keysOf u).filter (lngC u) <;> rfl
    rw [ee]
    cases sh : shortT u with
    | false =>
      have ed := due_long sh
      rw [ed] at y1
      obtain ⟨z1, z2⟩ := y1 (fun z => nomatch z)
      refine iteT ⟨_, rfl, rep_two fun t d H7 s7 ht hd => ?_⟩
      have s57 : Same H5 H7 := fun b o e => s7 _ _ (s5 _ _ e)
      exact eqD_same (d := .list [dueP .long, dueP .long]) (.lst (.of (s57 _ _ hl5)) (.cons (due_dp (fun z => nomatch z) (s57 _ _ z1)) (.cons (due_dp (fun z => nomatch z) (s57 _ _ z2)) .nil))) (.lst (.of hd) (.cons (due_dp (due := .long) (fun z => nomatch z) ht) (.cons (due_dp (due := .long) (fun z => nomatch z) ht) .nil))) (due_shaped _) (q H7 (eH.trans (ExtN.of s57)) (tb5.ext s57))
    | true =>
      have ok := md.ok sh
      obtain ⟨b, ob, z1, z2⟩ := y2 (due_short sh)
      refine iteF (nxtS ?_)
      have m6 := m5.same2 s5
      obtain ⟨dx0, fs0, hx0⟩ := m6.ins
      refine ⟨_, rfl, x, dx0, _, rfl, hx0, fun k0 hk0 => ⟨x, u, rfl, m6, fun it a ni hi ha => ⟨it, a, rfl, hi, upd_same, ?_⟩⟩⟩
      rw [dropH_upd ni]
      refine fun D nD => lc_it (walk_tup (K := K) (a := a) (xs := lets (keysOf u))) (fun i H2 => ∃ ps, PairsAt H2 ps ((ims u).take i) ∧ H2 D = some (.lst (ps.map V.ref)) ∧ Same H6 H2) ?_ ?_ ?_ ?_
      · exact ⟨[], .nil, upd_same, same_put (s := Same.refl _) nD⟩
      · rintro i H2 hi ⟨ps, _, _, s2⟩
        exact .inl (.inl (s2 _ _ ha))
      · rintro i y H20 H2 hi ⟨ps, pr, hD, s2⟩ ⟨rfl, hy⟩
        obtain ⟨hi', rfl⟩ := lets_get hy
        have hc := List.getElem_mem hi'
        obtain ⟨s', es⟩ := Option.isSome_iff_exists.mp (keysOf_mem.mp hc).2
        have m2 := m6.same2 s2
        obtain ⟨dx, a1, b1, c1, hm1, _⟩ := m2.at_
        have ly := pr.len
        rw [List.length_take] at ly
        have ep : (ims u)[i]? = some ((keysOf u)[i], s') := by
          unfold ims
          rw [List.getElem?_map, List.getElem?_eq_getElem hi']
          show some (_, (lookT u _).getD []) = _
          rw [es]
          rfl
        refine ⟨rfl, _, rfl, _, rfl, _, rfl, x, dx, _, rfl, hm1, x, u, _, s', rfl, m2, hc, es, by show 2 ≤ sizeLine; decide, fun p np => ?_⟩
        have s3 := same_put (s := Same.refl H2) (o := .tup [.str (L1 (keysOf u)[i]), .str (Sx s')]) np
        have hp : upd H2 p (.tup [.str (L1 (keysOf u)[i]), .str (Sx s')]) p = some (.tup [.str (L1 (keysOf u)[i]), .str (Sx s')]) := upd_same
        have hD3 := s3 _ _ hD
        generalize upd H2 p (.tup [.str (L1 (keysOf u)[i]), .str (Sx s')]) = H3 at s3 hp hD3 ⊢
        refine ⟨_, hD3, by rw [List.length_map, sizeLine_eq]; omega, ps ++ [p], ?_, ?_, ?_⟩
        · rw [List.take_add_one, ep]
          exact PairsAt.snoc ((pr.mono fun b xs e => s3 _ _ e).mono (tup_upd hD3)) ((upd_ne (ne_of hp hD3 (fun z => nomatch z))).trans hp)
        · rw [upd_same, List.map_append]
          rfl
        · intro b o e
          rw [upd_ne (ne_of_none e nD)]
          exact s3 _ _ (s2 _ _ e)
      · rintro H2 ⟨ps, pr, hD, s2⟩
        rw [List.take_of_length_le (by rw [lk]; unfold ims; rw [List.length_map]; exact Nat.le_refl _)] at pr
        refine ⟨D, ps, encT (ims u), rfl, SqL.of hD, PairsAt.sq pr, fun r nr => ?_⟩
        have em : mergeK [] (encT (ims u)) = encT (mergeT [] (ims u)) := mergeK_enc (ims u) []
        rw [em, mergeT_nil (ims_nd u)]
        have s3 := same_put (s := s2) (o := .dK (encT (ims u))) nr
        have hr3 : upd H2 r (.dK (encT (ims u))) r = some (.dK (encT (ims u))) := upd_same
        refine atNm ?_
        dsimp only [List.set_cons_succ, List.set_cons_zero]
        generalize upd H2 r (.dK (encT (ims u))) = H7 at s3 hr3 ⊢
        refine ⟨_, rfl, _, rfl, r, ims u, rfl, hr3, ims_tb ok, fun H8 s8 => ⟨by show 1 ≤ sizeLine; decide, fun a1 na1 => ⟨by show 1 ≤ sizeLine; decide, fun a2 na2 => ⟨by show 2 ≤ sizeLine; decide, fun a3 na3 => ?_⟩⟩⟩⟩
        have eb : uniB (ims u) = b := by
          have h1 := ims_alike ok
          have h2 : b = true ↔ _ := ob
          rw [Bool.eq_iff_iff, h1, h2]
        subst eb
        have t1 := same_put (s := Same.refl H8) (o := .lst [.bl (uniB (ims u))]) na1
        have t2 := same_put (s := Same.refl _) (o := .lst [.bl false]) na2
        have t3 := same_put (s := Same.refl _) (o := .lst [.ref a1, .ref a2]) na3
        have s9 : Same H5 (upd (upd (upd H8 a1 (.lst [.bl (uniB (ims u))])) a2 (.lst [.bl false])) a3 (.lst [.ref a1, .ref a2])) := fun b o e => t3 _ _ (t2 _ _ (t1 _ _ (s8 _ _ (s3 _ _ (s5 _ _ e)))))
        exact eqD_same (d := .list [.list [.bool (uniB (ims u))], .list [.bool false]]) (.lst (.of (s9 _ _ hl5)) (.cons (.lst (.of (s9 _ _ z1)) (.cons (.bl _) .nil)) (.cons (.lst (.of (s9 _ _ z2)) (.cons (.bl _) .nil)) .nil))) (.lst (.of upd_same) (.cons (.lst (.of (t3 _ _ (t2 _ _ upd_same))) (.cons (.bl _) .nil)) (.cons (.lst (.of (t3 _ _ upd_same)) (.cons (.bl _) .nil)) .nil))) (by generalize uniB (ims u) = b; cases b <;> decide +kernel) (q _ (eH.trans (ExtN.of s9)) (tb5.ext s9))
end
end V8
set_option Elab.async false
set_option linter.all false
set_option maxRecDepth 100000
set_option maxHeartbeats 16000000
set_option pp.maxSteps 500
/-! Composed tables; the papers of two of them. -/
namespace V8
open PySem PySem.Spec PyProof.Rows L2 MZ LamX MX SetT
theorem GoodT.toAbc {cs : List Nat} {t : Tab} (g : GoodT cs t) (h : ∀ c ∈ cs, isLt c) : GoodT abc t := ⟨g.nd, fun q hq => abc_mem.mpr (h _ (g.key q hq)), fun q hq => ⟨(g.img q hq).1, (g.img q hq).2.1, fun d hd => abc_mem.mpr (h d ((g.img q hq).2.2 d hd))⟩⟩
theorem keys_few {t : Tab} : (keysOf t).length ≤ t.length := by
  have : (keysOf t).length ≤ (t.map (·.1)).length := nd_le (keysOf_nd t) fun c hc => by
    obtain ⟨s, e⟩ := Option.isSome_iff_exists.mp (keysOf_mem.mp hc).2
    exact List.mem_map.mpr ⟨_, look_in e, rfl⟩
  rwa [List.length_map] at this
theorem keys_le2 {u v : Tab} (h : ∀ c ∈ keysOf u, c ∈ keysOf v) : (keysOf u).length ≤ (keysOf v).length := nd_le (keysOf_nd u) h
theorem imF_ne {f : Fu} (h : ∀ c s, f c = some s → s ≠ []) : ∀ {w s : List Nat}, w ≠ [] → imF f w = some s → s ≠ []
  | [], _, n, _ => absurd rfl n
  | c :: w, s, _, e => by
    have h' : (f c).bind (fun a => (imF f w).map (a ++ ·)) = some s := e
    cases e1 : f c with
    | none =>
      rw [e1] at h'
      cases h'
    | some z =>
      cases e2 : imF f w with
      | none =>
        rw [e1, e2] at h'
        cases h'
      | some x =>
        rw [e1, e2] at h'
        have h3 : z ++ x = s := Option.some.inj h'
        rw [← h3]
        exact fun q => h c z e1 (List.append_eq_nil_iff.mp q).1
theorem img_ok {t : Tab} (g : GoodT abc t) {c : Nat} {s : List Nat} (h : lk t c = some s) : s ≠ [] ∧ s.length ≤ 4 := by
  have i := g.img _ (look_in (lk_some h).2)
  refine ⟨fun z => ?_, i.2.1⟩
  have := i.1
  rw [show ((c, s) : Nat × List Nat).2 = s from rfl, z] at this
  exact absurd this (by decide)
theorem comp_bnd {t t2 : Tab} (g : GoodT abc t) (g2 : GoodT abc t2) : Bnd 64 (cF (lk t) (lk t2)) := Bnd.le (Bnd.comp (good_bnd g) (good_bnd g2)) (by decide)
theorem mad_comp {t t2 v : Tab} (g : GoodT abc t) (g2 : GoodT abc t2) (l12 : t.length ≤ 12) (e : lk v = cF (lk t) (lk t2)) : Mad v := by
  refine ⟨fun c hc => ?_, fun sh => ?_⟩
  · obtain ⟨s, es⟩ := Option.isSome_iff_exists.mp (lk_mem.mp hc)
    rw [(lk_some es).2]
    rw [e] at es
    exact Nat.le_trans (comp_bnd g g2 c s es) (by decide)
  have sub : ∀ c ∈ keysOf v, c ∈ keysOf t := fun c hc => by
    have h1 := lk_mem.mp hc
    rw [e] at h1
    refine lk_mem.mpr ?_
    cases z : lk t c with
    | none =>
      have : cF (lk t) (lk t2) c = none := by
        show (lk t c).bind _ = none
        rw [z]
        rfl
      rw [this] at h1
      cases h1
    | some _ => rfl
  have k12 : (keysOf v).length ≤ 12 := Nat.le_trans (keys_le2 sub) (Nat.le_trans keys_few l12)
  refine ⟨k12, fun c hc => ?_⟩
  obtain ⟨s, es⟩ := Option.isSome_iff_exists.mp (lk_mem.mp hc)
  have el : lookT v c = some s := (lk_some es).2
  have s8 : s.length ≤ 8 := by
    refine Nat.le_of_not_lt fun h => ?_
    have m : c ∈ (keysOf v).filter (lngC v) := List.mem_filter.mpr ⟨hc, decide_eq_true (by rw [el]; exact h)⟩
    have hz : (keysOf v).filter (lngC v) = [] := List.isEmpty_iff.mp sh
    rw [hz] at m
    cases m
  rw [e] at es
  have es2 : (lk t c).bind (imF (lk t2)) = some s := es
  obtain ⟨m, em, e3⟩ := Option.bind_eq_some_iff.mp es2
  exact ⟨s, el, imF_ne (fun c s h => (img_ok g2 h).1) (img_ok g em).1 e3, s8, fun d hd => abc_mem.mp (imF_over (good_over g2) e3 d hd)⟩
theorem rsh_of {K : PySem.W.Frag} {CM : Addr} {H : Hp} {Q : VK} {x y : Addr} {u v : Tab} {cs : List Nat} (m1 : MisAt CM H x u) (m2 : MisAt CM H y v) (gu : GoodT cs u) (gv : GoodT cs v) (hc : cs.length ≤ 12) (hl : ∀ c ∈ cs, isLt c)
    (q : ∀ z t H', MisAt CM H' z t → Mad t → lk t = cF (lk u) (lk v) → Same H H' → Q (.ref z) H') : rBinOwn K CM (spRsh CM) E0 (.ref x) (.ref y) H Q := by
  obtain ⟨dx, fx, hx⟩ := m1.ins
  obtain ⟨dy, fy, hy⟩ := m2.ins
  have au := gu.toAbc hl
  have av := gv.toAbc hl
  refine ⟨x, dx, fx, y, dy, fy, rfl, hx, rfl, hy, x, y, u, v, cs, rfl, m1, m2, Bnd.le (good_bnd au) (by decide), Bnd.le (good_bnd av) (by decide), comp_bnd au av, good_over gu, hc, fun z H5 t nz mz elk s5 => ?_⟩
  exact q z t H5 mz (mad_comp au av (Nat.le_trans gu.len hc) elk) elk s5
theorem mkT_of {CM : Addr} {H : Hp} {Q : VK} {d : Addr} {t : Tab} (hd : H d = some (.dK (encT t))) (g : GoodT abc t) (l : t.length ≤ 12) (q : ∀ x H', MisAt CM H' x t → Same H H' → H x = none → Q (.ref x) H') : mkR CM ([.ref d] ++ [.str (Sx [])]) H Q := by
  refine ⟨d, abc, [], t, rfl, hd, g, ⟨by rw [toldT_nil g.nd]; exact l, by rw [abc_len]; exact Nat.le_refl _⟩, fun c hc => abc_mem.mp hc, fun c h => (nomatch h), by decide, fun x H2 nx m1 s2 => ?_⟩
  have m1 := m1.mis
  rw [toldT_nil g.nd] at m1
  exact q x H2 m1 s2 nx
theorem merge_one (k : Key) (v : V) : mergeK [] [(k, v)] = [(k, v)] := rfl
theorem good_k {cs : List Nat} {c : Nat} {s : List Nat} (h : c ∈ cs ∧ 1 ≤ s.length ∧ s.length ≤ 4 ∧ ∀ d ∈ s, d ∈ cs) : GoodT cs [(c, s)] := ⟨List.pairwise_singleton _ _, fun q hq => (by rw [List.mem_singleton.mp hq]; exact h.1), fun q hq => (by rw [List.mem_singleton.mp hq]; exact h.2)⟩
theorem abc3 : ∀ c ∈ [97, 98, 99], isLt c := by decide
theorem comp_two {K : PySem.W.Frag} {CM : Addr} {σ : L2.St} {H : Hp} {Q : VK} {b s : List Nat} {z1 z2 : Str} (e1 : z1 = Sx b) (e2 : z2 = Sx s) (g1 : GoodT [97, 98, 99] [(97, b)]) (g2 : GoodT [97, 98, 99] [(98, s)])
    (q : ∀ x u H2, Same H H2 → MisAt CM H2 x u → Mad u → lk u = cF (lk [(97, b)]) (lk [(98, s)]) → Q (.ref x) H2) :
    tOp (rBinOwn K CM (spRsh CM) E0) (tMk1 CM (tCons (tDisp [(tC (V.str "a"), tC (V.str z1))]) tNil)) (tMk1 CM (tCons (tDisp [(tC (V.str "b"), tC (V.str z2))]) tNil)) σ H Q := by
  have ea : ("a" : Str) = L1 97 := by decide +kernel
  have eb : ("b" : Str) = L1 98 := by decide +kernel
  rw [ea, eb, e1, e2]
  intro d nd
  refine ⟨upd_same, [(Sum.inr (L1 97), V.str (Sx b))], rfl, by show 1 ≤ 15; decide, ?_⟩
  rw [upd_upd, show mergeK [] [(Sum.inr (L1 97), V.str (Sx b))] = encT [(97, b)] from merge_one _ _]
  have s1 := same_put (s := Same.refl H) (o := .dK (encT [(97, b)])) nd
  have h1 : upd H d (.dK (encT [(97, b)])) d = _ := upd_same
  generalize upd H d (.dK (encT [(97, b)])) = H1 at s1 h1 ⊢
  dsimp only [tNil]
  refine mkT_of h1 (g1.toAbc abc3) (by show 1 ≤ 12; decide) fun x H2 m1 s2 _ => ?_
  intro d2 nd2
  refine ⟨upd_same, [(Sum.inr (L1 98), V.str (Sx s))], rfl, by show 1 ≤ 15; decide, ?_⟩
  rw [upd_upd, show mergeK [] [(Sum.inr (L1 98), V.str (Sx s))] = encT [(98, s)] from merge_one _ _]
  have s3 := same_put (s := Same.refl H2) (o := .dK (encT [(98, s)])) nd2
  have h3 : upd H2 d2 (.dK (encT [(98, s)])) d2 = _ := upd_same
  generalize upd H2 d2 (.dK (encT [(98, s)])) = H3 at s3 h3 ⊢
  dsimp only [tNil]
  refine mkT_of h3 (g2.toAbc abc3) (by show 1 ≤ 12; decide) fun y H4 m2 s4 _ => ?_
  exact rsh_of ((m1.same2 s3).same2 s4) m2 g1 g2 (by decide) abc3 fun z t H5 mz md elk s5 => q z t H5 (fun b o e => s5 _ _ (s4 _ _ (s3 _ _ (s2 _ _ (s1 _ _ e))))) mz md elk
abbrev LdR := List (Pl × (Bool × List Nat))
def lkL : LdR → Pl → Option (Bool × List Nat)
  | [], _ => none
  | q :: r, p => if q.1 = p then some q.2 else lkL r p
theorem lkL_mem : ∀ {R : LdR} {p : Pl} {k : Bool × List Nat}, lkL R p = some k → (p, k) ∈ R
  | q :: r, p, k, h => by
    unfold lkL at h
    split at h
    · rename_i e
      rw [← e, ← Option.some.inj h]
      exact List.mem_cons_self
    · exact List.mem_cons_of_mem _ (lkL_mem h)
def goesA (R : LdR) (k : Bool × List Nat) (m : Mo) : Bool := match m with
  | (t, l, .fin) => decide (nextL t l k = some (true, []))
  | (t, l, q) => match lkL R q with
    | none => false
    | some k' => decide (nextL t l k = some k')
def chkA (P S : List Pr) (R : LdR) : Bool := decide (lkL R .start = some (true, [])) && R.all fun q => (moves P S q.1).all (goesA R q.2)
theorem chk_alike {P S : List Pr} {R : LdR} (h : chkA P S R = true) : Alike P S := by
  unfold chkA at h
  rw [Bool.and_eq_true, decide_eq_true_iff, List.all_eq_true] at h
  obtain ⟨h0, h1⟩ := h
  have key : ∀ {p : Pl} {w : List Nat × List Nat}, Way P S .start p w → (p = .fin → w.1 = w.2) ∧ (p ≠ .fin → ∃ k, lkL R p = some k ∧ lead w = some k) := fun {p w} k => by
    induction k with
    | nil => exact ⟨fun e => (nomatch e), fun _ => ⟨_, h0, rfl⟩⟩
    | @step p w t l q k m ih =>
      have np : p ≠ .fin := fun e => by
        rw [e] at m
        cases m
      obtain ⟨d, e1, e2⟩ := ih.2 np
      have g := (List.all_eq_true.mp (h1 _ (lkL_mem e1))) _ m
      have el := lead_put e2 t l
      constructor
      · rintro rfl
        have g : decide (nextL t l d = some (true, [])) = true := g
        rw [of_decide_eq_true g] at el
        rcases lead_some el with ⟨_, z⟩ | ⟨z, _⟩
        · rw [z]
          exact List.append_nil _
        · cases z
      · intro nq
        cases hq : lkL R q with
        | none =>
          unfold goesA at g
          split at g
          · rename_i e3
            cases e3
            exact absurd rfl nq
          · rename_i e3
            cases e3
            rw [hq] at g
            cases g
        | some k' =>
          refine ⟨k', rfl, ?_⟩
          unfold goesA at g
          split at g
          · rename_i e3
            cases e3
            exact absurd rfl nq
          · rename_i e3
            cases e3
            rw [hq] at g
            rw [el]
            exact of_decide_eq_true g
  exact fun w k => (key k).1 rfl
/-! ### the two composed ones -/
def tNine : Tab := [(97, List.replicate 9 99)]
def tEight : Tab := [(97, List.replicate 8 99)]
theorem lk_one {c : Nat} {s : List Nat} {a : Nat} (h : a ≠ c) : lk [(c, s)] a = none := by
  unfold lk
  split
  · unfold lookT
    rw [List.find?_cons_of_neg (by simpa using Ne.symm h)]
    rfl
  · rfl
theorem cF_one {b s : List Nat} {z : Fu} (h : cF (lk [(97, b)]) (lk [(98, s)]) 97 = z 97) (n : ∀ a, a ≠ 97 → z a = none) : cF (lk [(97, b)]) (lk [(98, s)]) = z := by
  funext a
  by_cases e : a = 97
  · rw [e]
    exact h
  · rw [n a e]
    unfold cF
    rw [lk_one e]
    rfl
theorem cF_nine : cF (lk [(97, [98, 98, 98])]) (lk [(98, [99, 99, 99])]) = lk tNine := cF_one (by decide +kernel) fun a h => lk_one h
theorem cF_eight : cF (lk [(97, [98, 98])]) (lk [(98, [99, 99, 99, 99])]) = lk tEight := cF_one (by decide +kernel) fun a h => lk_one h
theorem short_nine : shortT tNine = false := by decide +kernel
theorem short_eight : shortT tEight = true := by decide +kernel
def grow1 (P S : List Pr) (R : LdR) : LdR := R.foldl (fun A q => (moves P S q.1).foldl (fun B m => if m.2.2 = .fin then B else match lkL B m.2.2 with
  | some _ => B
  | none => B ++ [(m.2.2, (nextL m.1 m.2.1 q.2).getD (true, []))]) A) R
def grow : Nat → List Pr → List Pr → LdR → LdR
  | 0, _, _, R => R
  | n + 1, P, S, R => grow n P S (grow1 P S R)
theorem alike_eight : Alike (pairsT tEight) (pairsT tEight) := chk_alike (R := grow 12 (pairsT tEight) (pairsT tEight) [(.start, (true, []))]) (by decide +kernel)
theorem alike_none : Alike (pairsT []) (pairsT []) := chk_alike (R := grow 12 (pairsT []) (pairsT []) [(.start, (true, []))]) (by decide +kernel)
theorem places_eight : placesQ (pairsT tEight) (pairsT tEight) = [.start, .rest true (List.replicate 8 99), .fin] := by decide +kernel
theorem places_none : placesQ (pairsT []) (pairsT []) = [.start] := by decide +kernel
/-- two pairs written down -/
theorem mk_disp2 {CM : Addr} {σ : L2.St} {H : Hp} {Q : VK} {a b : Nat} {s1 s2 : List Nat} {k1 k2 : Str} {te1 te2 : TE} (e1 : k1 = L1 a) (e2 : k2 = L1 b) (h1 : ∀ (H : Hp) (R : VK), R (.str (Sx s1)) H → te1 σ H R) (h2 : ∀ (H : Hp) (R : VK), R (.str (Sx s2)) H → te2 σ H R) (g : GoodT abc [(a, s1), (b, s2)])
    (q : ∀ x H', MisAt CM H' x [(a, s1), (b, s2)] → Same H H' → Q (.ref x) H') : tMk1 CM (tCons (tDisp [(tC (V.str k1), te1), (tC (V.str k2), te2)]) tNil) σ H Q := by
  rw [e1, e2]
  intro d nd
  show te1 σ _ _
  refine h1 _ _ ?_
  show te2 σ _ _
  refine h2 _ _ ?_
  refine ⟨upd_same, [(Sum.inr (L1 a), V.str (Sx s1)), (Sum.inr (L1 b), V.str (Sx s2))], rfl, by show 2 ≤ 15; decide, ?_⟩
  have em : mergeK [] (encT [(a, s1), (b, s2)]) = encT [(a, s1), (b, s2)] := by
    rw [show ([] : List (Key × V)) = encT [] from rfl, mergeK_enc, mergeT_nil g.nd]
  rw [upd_upd, show mergeK [] [(Sum.inr (L1 a), V.str (Sx s1)), (Sum.inr (L1 b), V.str (Sx s2))] = encT [(a, s1), (b, s2)] from em]
  have s1' := same_put (s := Same.refl H) (o := .dK (encT [(a, s1), (b, s2)])) nd
  have h1' : upd H d (.dK (encT [(a, s1), (b, s2)])) d = _ := upd_same
  generalize upd H d (.dK (encT [(a, s1), (b, s2)])) = H1 at s1' h1' ⊢
  dsimp only [tNil]
  exact mkT_of h1' g (by show 2 ≤ 12; decide) fun x H2 m1 s2 _ => q x H2 m1 fun b o e => s2 _ _ (s1' _ _ e)
theorem good_2 {cs : List Nat} {a b : Nat} {s1 s2 : List Nat} (h : a ∈ cs ∧ b ∈ cs ∧ a ≠ b ∧ (1 ≤ s1.length ∧ s1.length ≤ 4 ∧ ∀ d ∈ s1, d ∈ cs) ∧ (1 ≤ s2.length ∧ s2.length ≤ 4 ∧ ∀ d ∈ s2, d ∈ cs)) : GoodT cs [(a, s1), (b, s2)] := by
  obtain ⟨ha, hb, ne, i1, i2⟩ := h
  refine ⟨by simp [ne], fun q hq => ?_, fun q hq => ?_⟩
  · simp only [List.mem_cons, List.not_mem_nil, or_false] at hq
    rcases hq with rfl | rfl
    · exact ha
    · exact hb
  · simp only [List.mem_cons, List.not_mem_nil, or_false] at hq
    rcases hq with rfl | rfl
    · exact i1
    · exact i2
/-! ### twelve letters -/
def wideT (n : Nat) : Tab := (List.range n).map fun k => (97 + k, [97 + k, 97 + (k + 1) % 12])
def lastT (n : Nat) : Tab := (List.range n).map fun k => (97 + k, [97 + k, 98, 99, 100])
def abl : List Nat := (List.range 12).map (97 + ·)
theorem wide_snoc (n : Nat) : wideT (n + 1) = wideT n ++ [(97 + n, [97 + n, 97 + (n + 1) % 12])] := by
  unfold wideT
  rw [List.range_succ, List.map_append]
  rfl
theorem last_snoc (n : Nat) : lastT (n + 1) = lastT n ++ [(97 + n, [97 + n, 98, 99, 100])] := by
  unfold lastT
  rw [List.range_succ, List.map_append]
  rfl
theorem wide_new (n : Nat) : 97 + n ∉ (wideT n).map (·.1) := fun h => by
  unfold wideT at h
  rw [List.map_map] at h
  obtain ⟨k, hk, e⟩ := List.mem_map.mp h
  have := List.mem_range.mp hk
  have e : 97 + k = 97 + n := e
  omega
theorem last_new (n : Nat) : 97 + n ∉ (lastT n).map (·.1) := fun h => by
  unfold lastT at h
  rw [List.map_map] at h
  obtain ⟨k, hk, e⟩ := List.mem_map.mp h
  have := List.mem_range.mp hk
  have e : 97 + k = 97 + n := e
  omega
theorem good_wide : GoodT abl (wideT 12) := ⟨by decide +kernel, by decide +kernel, by
  have h : ∀ q ∈ wideT 12, 1 ≤ q.2.length ∧ q.2.length ≤ 4 ∧ ∀ d ∈ q.2, d ∈ abl := by decide +kernel
  exact h⟩
theorem good_last : GoodT abl (lastT 12) := ⟨by decide +kernel, by decide +kernel, by
  have h : ∀ q ∈ lastT 12, 1 ≤ q.2.length ∧ q.2.length ≤ 4 ∧ ∀ d ∈ q.2, d ∈ abl := by decide +kernel
  exact h⟩
theorem abl_lt : ∀ c ∈ abl, isLt c := by decide +kernel
/-! ### the papers of the two -/
def c8 : List Nat := List.replicate 8 99
theorem live_all : ∀ p ∈ placesQ (pairsT tEight) (pairsT tEight), livesB (pairsT tEight) (pairsT tEight) p = true := by
  rw [places_eight]
  intro p hp
  have w1 : Way (pairsT tEight) (pairsT tEight) (.rest true c8) .fin ([], [97]) := .step (t := false) (l := 97) (w := ([], [])) .nil (q := .fin) (by decide +kernel)
  simp only [List.mem_cons, List.not_mem_nil, or_false] at hp
  rcases hp with rfl | rfl | rfl
  · exact livesB_iff.mpr ⟨_, .step (t := false) (l := 97) (w := ([97], [])) (.step (t := true) (l := 97) (w := ([], [])) .nil (q := .rest true c8) (by decide +kernel)) (q := .fin) (by decide +kernel)⟩
  · exact livesB_iff.mpr ⟨_, w1⟩
  · exact livesB_iff.mpr ⟨_, .nil⟩
theorem side_eight (s : Bool) : sideQ (pairsT tEight) (pairsT tEight) true s = (((placesQ (pairsT tEight) (pairsT tEight)).filter (onSide s)).map restOf) := by
  unfold sideQ
  congr 2
  rw [List.filter_eq_self]
  intro p hp
  exact decide_eq_true (live_all p hp)
theorem side_eight_dead (s : Bool) : sideQ (pairsT tEight) (pairsT tEight) false s = [] := by
  unfold sideQ
  have h : (placesQ (pairsT tEight) (pairsT tEight)).filter (fun p => decide (livesB (pairsT tEight) (pairsT tEight) p = false)) = [] := by
    rw [List.filter_eq_nil_iff]
    intro p hp
    rw [live_all p hp]
    decide
  rw [h]
  rfl
theorem rs_eight {rs : List (Bool × Wd)} (h : RsIs (pairsT tEight) (pairsT tEight) true rs) : rs = [(true, c8)] := by
  refine h.inj ⟨[c8], [], rfl, ?_, ?_, by decide +kernel, by decide +kernel⟩
  · rw [side_eight, places_eight]
    exact List.Perm.refl _
  · rw [side_eight, places_eight]
    exact List.Perm.refl _
theorem rs_eight_dead {rs : List (Bool × Wd)} (h : RsIs (pairsT tEight) (pairsT tEight) false rs) : rs = [] := by
  refine h.inj ⟨[], [], rfl, ?_, ?_, rfl, rfl⟩
  · rw [side_eight_dead]
  · rw [side_eight_dead]
theorem side_none (g s : Bool) : sideQ (pairsT []) (pairsT []) g s = [] := by
  unfold sideQ
  have h : ∀ l : List Pl, l = [.start] → (((l.filter fun p => decide (livesB (pairsT []) (pairsT []) p = g)).filter (onSide s)).map restOf) = [] := fun l e => by
    subst e
    rw [List.filter_cons]
    split <;> rfl
  exact h _ places_none
theorem rs_none {g : Bool} {rs : List (Bool × Wd)} (h : RsIs (pairsT []) (pairsT []) g rs) : rs = [] := by
  refine h.inj ⟨[], [], rfl, ?_, ?_, rfl, rfl⟩
  · rw [side_none]
  · rw [side_none]
def d8 : PyData := .tuple [.tuple [.str "one", .str "cccccccc", .str "one", .str "a"]]
theorem leads_d8 : PyData.eqv (leadsD (pairsT tEight) [(true, c8)]) d8 = true := by decide +kernel
theorem td_d8 : TD 2 d8 := .inr ⟨_, rfl, by decide, fun e he => by
  rw [List.mem_singleton.mp he]
  refine .inr ⟨_, rfl, by decide, fun e he => ?_⟩
  have ok : PyData.strOk "one" = true ∧ PyData.strOk "cccccccc" = true ∧ PyData.strOk "a" = true := by decide +kernel
  simp only [List.mem_cons, List.not_mem_nil, or_false] at he
  rcases he with rfl | rfl | rfl | rfl
  · exact .inr (.inl ⟨_, rfl, ok.1⟩)
  · exact .inr (.inl ⟨_, rfl, ok.2.1⟩)
  · exact .inr (.inl ⟨_, rfl, ok.1⟩)
  · exact .inr (.inl ⟨_, rfl, ok.2.2⟩)⟩
theorem td_none : TD 2 (.tuple []) := .inr ⟨_, rfl, by decide, fun e he => nomatch he⟩
end V8
set_option Elab.async false
set_option linter.all false
set_option maxRecDepth 100000
set_option maxHeartbeats 16000000
set_option pp.maxSteps 400
/-! The law. -/
namespace V8
open PySem PySem.Spec PyProof.Rows L2 MZ MX LamX SetT
abbrev s_law : Stmt := topS 93
theorem sc_law : FnScope ["_law_script", "_law_pen_here", "_law_turn", "_law_some", "_law_one", "_law_other", "_law_paper", "_law_odd", "_law_heard_here", "_law_tail", "_law_wide", "_law_last", "_law_letter", "_law_later", "_law_nine", "_law_eight"] ["_law_script"] (defScope s_law) := ⟨rfl, rfl, rfl, by decide +kernel, rfl, by decide +kernel, by decide +kernel⟩
def spLaw (TL : List (Addr × Str)) (aS aE aV aD : Addr) (K : PySem.W.Frag) : Sp := fun vs H Q _ => ∃ (a : Addr) (ns : List Int), vs = [.ref a] ∧ SqL K H a (ns.map V.int) ∧ ns.length ≤ 63 ∧ Tabs TL H ∧ CnS K aS aE aV aD H ∧ ∀ H2, Q (.bl true) H2
structure Tl20 (K : PySem.W.Frag) (mg : Str → Option Value) (CM CJ CB CX CE CO CR : Addr) : Prop extends Tri K mg CM CJ CB CX CE where
  zip : mg "zip" = none
  kN : ∀ n ∈ (["NoneType", "int", "bool", "str", "dict", "tuple", "list"] : List String), ∀ C ∈ [CM, CO, CR], PySem.W.kitOne K (.type n) (.ref C) = some false
  tyO : ∀ (H : Hp) (x dx : Addr) (fs : List (Str × V)), H x = some (.ins CO dx fs) → TyX K H (.ref x) (.ref CO)
  nfO : PySem.W.notFirst K CO (.ref CO) = true
theorem pen_ext {H H' : Hp} {p l : Addr} {ns : List Int} {n : Nat} (P : PenAt H p l ns n) (s : ExtN H H') : PenAt H' p l ns n := by
  obtain ⟨⟨a, g, h1, h2, h3, h4⟩, i, e, sh⟩ := P
  exact ⟨⟨a, g, s _ _ h1 (fun _ z => nomatch z), h2, h3, h4⟩, s _ _ i (fun _ z => nomatch z), e, sh⟩
theorem sq_dict {K : PySem.W.Frag} {H : Hp} {b D : Addr} {ys : List V} {kvs : List (Key × V)} {o : HO} (h : SqT K H b ys) (e : H D = some (.dK kvs)) : SqT K (upd H D o) b ys := sq_mono h fun u eu z => by
  rw [upd_ne (fun q => by
    rw [q, e] at eu
    rw [← Option.some.inj eu] at z
    rcases z with z | ⟨_, z⟩ <;> cases z)]
  exact eu
theorem CnS.dict {K : PySem.W.Frag} {aS aE aV aD D : Addr} {H : Hp} {kvs : List (Key × V)} {o : HO} (c : CnS K aS aE aV aD H) (e : H D = some (.dK kvs)) : CnS K aS aE aV aD (upd H D o) := ⟨⟨sq_dict c.cn.st e, sq_dict c.cn.en e, sq_dict c.cn.ev e⟩, sq_dict c.sd e⟩
theorem tabs_dict {T : List (Addr × Str)} {H : Hp} {D : Addr} {kvs : List (Key × V)} {o : HO} (t : Tabs T H) (e : H D = some (.dK kvs)) : Tabs T (upd H D o) := fun p hp => by
  obtain ⟨ps, h1, h2, h3⟩ := t p hp
  refine ⟨ps, by rw [upd_ne (fun q => by rw [q, e] at h1; cases h1)]; exact h1, h2, fun pos cv hc => ?_⟩
  obtain ⟨c, e1, e2⟩ := h3 pos cv hc
  exact ⟨c, e1, by rw [upd_ne (fun q => by rw [q, e] at e2; cases e2)]; exact e2⟩
section
variable {P : Program} {w : World} {K : PySem.W.Frag} {mg : Str → Option Value} {base : Heap} {aS aE aV aD CM CJ CB CX CE CO CR g c PT : Addr} {TL : List (Addr × Str)}
theorem ok_law {f : Addr} {fd : FuncData} (F : FunC K "law" "law" s_law f c fd) (T : Tl20 K mg CM CJ CB CX CE CO CR) (D_pen : Df P w K mg base 1 "_law_pen" (spPen K)) (D_draw : Df P w K mg base 1 "_law_draw" spDraw) (D_pick : Df P w K mg base 2 "_law_pick" (spPick K)) (D_some_letters : Df P w K mg base 2 "_law_some_letters" spLetters) (D_table : Df P w K mg base 4 "_law_table" (spTab 260)) (D_mk : Mkr P w K mg base CM)
    (D_rshift : Bo P w K mg base 7 CM "__rshift__" (spRsh CM)) (D_right : DfG P w K mg base CX0 12 "_law_right" (spRightM K TL aS aE aV aD CM CO CR)) (D_merging : DfG P w K mg base (L2.CX P w) 7 "merging" (spMrgA K aS aE aV aD CM CB CX CO CR)) (D_mergO : Df P w K mg base 7 "merging" (spMerging K aS aE aV aD CM CO CR)) (D_shows_merging : DfG P w K mg base (L2.CX P w) 7 "shows_merging" (spShowA K CM CB CX CO CR))
    (D_eqO : Mf P w K mg base 8 CO "__eq__" (spOneE K CO)) (D_OneToOne : MkC P w K mg base 4 CO "OneToOne" (spOneI CO))
    (D_heard : HearD K mg g) (TB : TabT base mg TL (("law" : Str) ++ ".<locals>.") c PT) : FnG P w K mg base CX0 13 f fd ["_law_script"] (spLaw TL aS aE aV aD K) := by
  refine F.okG sc_law (fun vs H Q E h => ?_) (fun A outer s H vs Q E quiet hr h => ?_)
  · obtain ⟨a, ns, rfl, _⟩ := h
    rfl
  · obtain ⟨a, ns, rfl, hS, hn0, tb0, cn0, q0⟩ := h
    refine ⟨_, (pss_cons (ps_set (i := 1) sc_law.nd rfl (.inl rfl) (pe_c D_pen hr (by decide) (by rfl) (pa_cons (pv 0) pa_nil)))
      (pss_cons (ps_for PassesOwn.never rfl (pi_range1 (by rfl) T.range (pa_cons pe_int pa_nil)) (pg_name (i := 2) sc_law.nd rfl (.inl rfl))
        (pss_cons (ps_set (i := 3) sc_law.nd rfl (.inl rfl) (pe_c D_some_letters hr (by decide) (by rfl) (pa_cons (pv 1) (pa_cons (pe_op op_add pe_int (pe_c D_draw hr (by decide) (by rfl) (pa_cons (pv 1) (pa_cons pe_int pa_nil)))) pa_nil))))
        (pss_cons (ps_par (i := 4) (j := 5) (by rfl) sc_law.nd rfl rfl (by decide) rfl rfl (pa_cons (pe_mk1 D_mk hr (by decide) (by rfl) (pa_cons (pe_c D_table hr (by decide) (by rfl) (pa_cons (pv 1) (pa_cons (pv 3) pa_nil))) pa_nil)) (pa_cons (pe_mk1 D_mk hr (by decide) (by rfl) (pa_cons (pe_c D_table hr (by decide) (by rfl) (pa_cons (pv 1) (pa_cons (pv 3) pa_nil))) pa_nil)) pa_nil)) (by rfl))
        (pss_cons (ps_set (i := 6) sc_law.nd rfl (.inr rfl) (pe_c D_pick hr (by decide) (by rfl) (pa_cons (pv 1) (pa_cons (pe_lst (pa_cons pe_non (pa_cons pe_int (pa_cons pe_str (pa_cons (pe_tup pa_nil) (pa_cons pe_dnewK (pa_cons pe_bl pa_nil))))))) pa_nil))))
        (pss_cons (ps_if (PW.pt (pw_or (pt_not (pt_val (pe_cG D_right quiet pass0 hr (by decide) (by rfl) (pa_cons (pe_op (op_bin D_rshift hr (by decide)) (pv 4) (pv 5)) (pa_cons (pv 6) pa_nil))))) (pw_or1 (pt_not (pt_val (pe_cG D_right quiet pass0 hr (by decide) (by rfl) (pa_cons (pe_op (op_bin D_rshift hr (by decide)) (pv 4) (pv 4)) (pa_cons (pv 6) pa_nil))))))))
          (pss_one (ps_ret pe_bl))
          pss_nil)
        (pss_cons (ps_set (i := 7) sc_law.nd rfl (.inr rfl) (pe_c D_pick hr (by decide) (by rfl) (pa_cons (pv 1) (pa_cons (pe_lst (pa_cons pe_non (pa_cons pe_int (pa_cons pe_bl (pa_cons pe_str (pa_cons pe_dnewK (pa_cons (pe_disp (pps_cons pe_str pe_str pps_nil) (by rfl) (by rfl) (fun z => by cases z) (by decide)) (pa_cons (pe_lst (pa_cons (pv 4) pa_nil)) (pa_cons (pe_tup (pa_cons (pv 4) pa_nil)) (pa_cons (pv 6) pa_nil)))))))))) pa_nil))))
        (pss_cons (ps_set (i := 8) sc_law.nd rfl (.inl rfl) (pe_lst (pa_cons (pe_heardG (k := 8) T.toTh D_heard TB quiet hr (by decide) rfl rfl (by rfl) (lamS_by (sc := defScope s_law) (by decide +kernel)) (by rfl) (fun _ _ _ _ _ => rfl) (fun A2 o2 s2 H2 E2 f2 c2 quiet2 hr2 => (pe_cG D_merging quiet2 (passTk (takes_of rfl rfl rfl rfl)) hr2 (by decide) (by rfl) (pa_cons (pv 7) pa_nil)))) pa_nil)))
        (pss_cons (ps_expr (pe_bmK (K := K) rfl PySem.F.plainAttrs_list PySem.F.slot_list_append PySem.F.type_list_append mt_append (pv 8) (pa_cons (pe_heardG (k := 8) T.toTh D_heard TB quiet hr (by decide) rfl rfl (by rfl) (lamS_by (sc := defScope s_law) (by decide +kernel)) (by rfl) (fun _ _ _ _ _ => rfl) (fun A2 o2 s2 H2 E2 f2 c2 quiet2 hr2 => (pe_cG D_shows_merging quiet2 (passTk (takes_of rfl rfl rfl rfl)) hr2 (by decide) (by rfl) (pa_cons (pv 7) (pa_cons (pv 6) pa_nil))))) pa_nil)))
        (pss_one (ps_if (pt_cmpR (op_neDK (K := K) rfl hr.units) (pv 8) (pe_op op_rep (pe_lst (pa_cons (pe_tup (pa_cons pe_str (pa_cons pe_str pa_nil))) pa_nil)) pe_int) (nomark _))
          (pss_one (ps_ret pe_bl))
          pss_nil))))))))))
      (pss_cons (ps_for PassesOwn.never rfl (pi_list (pe_lst (pa_cons pe_str (pa_cons pe_str (pa_cons pe_str pa_nil))))) (pg_name (i := 9) sc_law.nd rfl (.inl rfl))
        (pss_cons (ps_set (i := 10) sc_law.nd rfl (.inl rfl) (pe_op (op_bin D_rshift hr (by decide)) (pe_mk1 D_mk hr (by decide) (by rfl) (pa_cons (pe_disp (pps_cons pe_str pe_str (pps_cons pe_str pe_str pps_nil)) (by rfl) (by rfl) (fun z => by cases z) (by decide)) pa_nil)) (pe_mk1 D_mk hr (by decide) (by rfl) (pa_cons (pe_disp (pps_cons pe_str (pv 9) (pps_cons pe_str pe_str pps_nil)) (by rfl) (by rfl) (fun z => by cases z) (by decide)) pa_nil))))
        (pss_one (ps_if (pt_not (pt_val (pe_cG D_right quiet pass0 hr (by decide) (by rfl) (pa_cons (pv 10) (pa_cons pe_non pa_nil)))))
          (pss_one (ps_ret pe_bl))
          pss_nil))))
      (pss_cons (ps_par (i := 10) (j := 11) (by rfl) sc_law.nd rfl rfl (by decide) rfl rfl (pa_cons pe_dnewK (pa_cons pe_dnewK pa_nil)) (by rfl))
      (pss_cons (ps_for PassesOwn.never rfl (pi_zipS (by rfl) T.zip (pa_cons pe_str (pa_cons pe_str pa_nil))) (pg_tup (by rfl) (pgs_cons (pg_name (i := 12) sc_law.nd rfl (.inl rfl)) (pgs_cons (pg_name (i := 13) sc_law.nd rfl (.inl rfl)) pgs_nil)))
        (pss_one (ps_asg (pe_tup (pa_cons (pe_op op_add_str (pv 12) (pv 13)) (pa_cons (pe_op op_add_str (pv 12) pe_str) pa_nil))) (pg_tup (by rfl) (pgs_cons (pg_sub (pv 10) (pv 12) (set_dict (Nat.lt_of_le_of_lt (Nat.add_le_add_left (by decide : 1 ≤ 64) _) hr.units))) (pgs_cons (pg_sub (pv 11) (pv 12) (set_dict (Nat.lt_of_le_of_lt (Nat.add_le_add_left (by decide : 1 ≤ 64) _) hr.units))) pgs_nil))))))
      (pss_cons (ps_if (PW.pt (pw_or (pt_not (pt_val (pe_cG D_right quiet pass0 hr (by decide) (by rfl) (pa_cons (pe_op (op_bin D_rshift hr (by decide)) (pe_mk1 D_mk hr (by decide) (by rfl) (pa_cons (pv 10) pa_nil)) (pe_mk1 D_mk hr (by decide) (by rfl) (pa_cons (pv 11) pa_nil))) (pa_cons pe_non pa_nil))))) (pw_or1 (pt_not (pt_val (pe_cG D_right quiet pass0 hr (by decide) (by rfl) (pa_cons (pe_op (op_bin D_rshift hr (by decide)) (pe_mk1 D_mk hr (by decide) (by rfl) (pa_cons (pv 11) pa_nil)) (pe_mk1 D_mk hr (by decide) (by rfl) (pa_cons (pv 10) pa_nil))) (pa_cons pe_int pa_nil))))))))
        (pss_one (ps_ret pe_bl))
        pss_nil)
      (pss_cons (ps_set (i := 14) sc_law.nd rfl (.inr rfl) (pe_op (op_bin D_rshift hr (by decide)) (pe_mk1 D_mk hr (by decide) (by rfl) (pa_cons (pe_disp (pps_cons pe_str pe_str pps_nil) (by rfl) (by rfl) (fun z => by cases z) (by decide)) pa_nil)) (pe_mk1 D_mk hr (by decide) (by rfl) (pa_cons (pe_disp (pps_cons pe_str pe_str pps_nil) (by rfl) (by rfl) (fun z => by cases z) (by decide)) pa_nil))))
      (pss_cons (ps_set (i := 15) sc_law.nd rfl (.inl rfl) (pe_op (op_bin D_rshift hr (by decide)) (pe_mk1 D_mk hr (by decide) (by rfl) (pa_cons (pe_disp (pps_cons pe_str pe_str pps_nil) (by rfl) (by rfl) (fun z => by cases z) (by decide)) pa_nil)) (pe_mk1 D_mk hr (by decide) (by rfl) (pa_cons (pe_disp (pps_cons pe_str pe_str pps_nil) (by rfl) (by rfl) (fun z => by cases z) (by decide)) pa_nil))))
      (pss_cons (ps_if (pt_cmpR (op_neDK (K := K) rfl hr.units) (pe_heardG (k := 8) T.toTh D_heard TB quiet hr (by decide) rfl rfl (by rfl) (lamS_by (sc := defScope s_law) (by decide +kernel)) (by rfl) (fun _ _ _ _ _ => rfl) (fun A2 o2 s2 H2 E2 f2 c2 quiet2 hr2 => (pe_cG D_merging quiet2 (passTk (takes_of rfl rfl rfl rfl)) hr2 (by decide) (by rfl) (pa_cons (pv 14) pa_nil)))) (pe_tup (pa_cons pe_str (pa_cons pe_int pa_nil))) (nomark _))
        (pss_one (ps_ret pe_bl))
        pss_nil)
      (pss_one (ps_ret (pe_and (pe_cmpR (op_eqO D_eqO hr (by decide)) (pe_c D_mergO hr (by decide) (by rfl) (pa_cons (pv 15) pa_nil)) (pe_mkC D_OneToOne hr (by decide) (by rfl) (pa_cons (pe_tup (pa_cons (pe_tup (pa_cons pe_str (pa_cons pe_str (pa_cons pe_str (pa_cons pe_str pa_nil))))) pa_nil)) (pa_cons (pe_tup pa_nil) pa_nil))) (nomark _)) (pe_one (pe_cmpR (op_eqO D_eqO hr (by decide)) (pe_c D_mergO hr (by decide) (by rfl) (pa_cons (pe_mk1 D_mk hr (by decide) (by rfl) (pa_cons pe_dnewK pa_nil)) pa_nil)) (pe_mkC D_OneToOne hr (by decide) (by rfl) (pa_cons (pe_tup pa_nil) (pa_cons (pe_tup pa_nil) pa_nil))) (nomark _))))))))))))))), ?_⟩
    refine ⟨_, rfl, a, ns, rfl, hS, hn0, fun p l H1 np s1 PA1 => ?_⟩
    have tb1 := tb0.ext s1
    have cn1 := cn0.kl (Kl.same s1)
    clear s1 tb0 cn0
    have pz : ∀ {G : Hp} {v : V} {t : String}, ShV G v (.type t) → t ∈ (["NoneType", "int", "bool", "str", "dict", "tuple", "list"] : List String) → PapV K CO CR G v := fun {G v t} h ht => ⟨_, h.tyE, T.kN _ ht CO (by simp), T.kN _ ht CR (by simp)⟩
    have tz : ∀ {G : Hp} {v : V} {t : String}, ShV G v (.type t) → t ∈ (["NoneType", "int", "bool", "str", "dict", "tuple", "list"] : List String) → ThingM K CM G v none := fun {G v t} h ht => ⟨_, h.tyE, T.kN _ ht CM (by simp)⟩
    refine ⟨_, rfl, by decide, by decide, for_it (walk_range (lo := 0) (n := 6)) (fun i σ H4 => (∃ v2 v3 v4 v5 v6 v7 v8 : Option V, σ = [some (.ref a), some (.ref p), v2, v3, v4, v5, v6, v7, v8, none, none, none, none, none, none, none]) ∧ PenAt H4 p l ns (1000 * (6 - i)) ∧ CnS K aS aE aV aD H4 ∧ Tabs TL H4) ⟨⟨none, none, none, none, none, none, none, rfl⟩, PA1.less (by omega), cn1, tb1⟩ (fun _ _ _ _ _ => trivial) ?_ ?_⟩
    · rintro i z σ H4 H40 hi ⟨⟨v2, v3, v4, v5, v6, v7, v8, rfl⟩, PA4, cn4, tb4⟩ ⟨rfl, rfl⟩
      have hb : 1000 * (6 - i) = 1000 * (6 - (i + 1)) + 1000 := by
        have : i < 6 := hi
        omega
      rw [hb] at PA4
      generalize 1000 * (6 - (i + 1)) = n at PA4 ⊢
      clear PA1 cn1 tb1
      refine ⟨_, rfl, _, rfl, p, l, ns, n + 990, 5, rfl, PA4.less (by omega), by decide, by decide, fun v H5 w0 w1 PA5 fr5 => ?_⟩
      obtain ⟨j, rfl⟩ : ∃ j : Nat, v = j := ⟨v.toNat, by omega⟩
      refine ⟨_, _, rfl, rfl, ?_⟩
      refine ⟨p, l, ns, n + 980, 1 + j, by rw [show ((1 + j : Nat) : Int) = 1 + (j : Int) by omega]; rfl, PA5.less (by omega), by omega, fun so cs H6 hlen hnd hlt PA6 fr6 nso hso => ?_⟩
      have h5 : cs.length ≤ 5 := by omega
      have hne : cs ≠ [] := fun z => by
        rw [z] at hlen
        simp at hlen
        omega
      have hsp : so ≠ p := PA5.nep nso
      have k46 : Kl H40 H6 := (Kl.fr fr5 PA4.pen PA5.pen).trans (Kl.fr fr6 PA5.pen PA6.pen)
      have cn6 := cn4.kl k46
      have tb6 := tabs_fr (tabs_fr tb4 PA4.pen fr5) PA5.pen fr6
      clear PA4 PA5 fr5 fr6 cn4 tb4 k46 nso
      refine atNm ?_
      dsimp only [List.set_cons_succ, List.set_cons_zero]
      refine ⟨_, rfl, _, rfl, p, l, so, ns, n + 700, cs, rfl, PA6.less (by omega), hso, hsp, hne, hnd, by omega, hlt, fun d t H7 G PA7 fr7 nd hd => ?_⟩
      have A1 := G.toAbc hlt
      have t5 : t.length ≤ 5 := Nat.le_trans G.len h5
      have cn7 := cn6.kl (Kl.fr fr7 PA6.pen PA7.pen)
      have tb7 := tabs_fr tb6 PA6.pen fr7
      have hso7 := fr7 _ _ hso hsp
      refine ⟨d, abc, [], t, rfl, hd, A1, ⟨by rw [toldT_nil A1.nd]; omega, by rw [abc_len]; omega⟩, fun c hc => abc_mem.mp hc, fun c h => (nomatch h), by decide, fun x H8 nx m8 s8 => ?_⟩
      have m := m8.mis
      rw [toldT_nil A1.nd] at m
      have PA8 := pen_same PA7 s8
      have cn8 := cn7.kl (Kl.same s8)
      have tb8 := tb7.ext s8
      have hso8 := s8 _ _ hso7
      clear PA6 PA7 cn6 cn7 tb6 tb7 hso hso7 fr7 nd hd m8 s8 nx
      refine ⟨_, rfl, _, rfl, p, l, so, ns, n + 430, cs, rfl, PA8.less (by omega), hso8, hsp, hne, hnd, by omega, hlt, fun d2 t2 H9 Gb PA9 fr9 nd2 hd2 => ?_⟩
      have A2 := Gb.toAbc hlt
      have cn9 := cn8.kl (Kl.fr fr9 PA8.pen PA9.pen)
      have tb9 := tabs_fr tb8 PA8.pen fr9
      have m9 := mis_kl m (Kl.fr fr9 PA8.pen PA9.pen)
      refine ⟨d2, abc, [], t2, rfl, hd2, A2, ⟨by rw [toldT_nil A2.nd]; exact Nat.le_trans Gb.len (by omega), by rw [abc_len]; omega⟩, fun c hc => abc_mem.mp hc, fun c h => (nomatch h), by decide, fun x2 H10 nx m10 s10 => ?_⟩
      have mb := m10.mis
      rw [toldT_nil A2.nd] at mb
      have ma := m9.same2 s10
      have PA10 := pen_same PA9 s10
      have cn10 := cn9.kl (Kl.same s10)
      have tb10 := tb9.ext s10
      clear PA8 PA9 cn8 cn9 tb8 tb9 hso8 fr9 nd2 hd2 m10 s10 nx m9 m
      refine ⟨_, _, rfl, ?_⟩
      dsimp only [List.set_cons_succ, List.set_cons_zero]
      -- a paper
      refine ⟨_, rfl, by show 0 ≤ sizeLine; decide, fun t0 nt0 => fun d0 nd0 => ⟨by show 6 ≤ sizeLine; decide, fun lo nlo => ?_⟩⟩
      obtain ⟨G1, sG, ht0, hd0, hlo, lop, PAg, eG⟩ : ∃ G1, Same H10 G1 ∧ G1 t0 = some (.tup []) ∧ G1 d0 = some (.dK []) ∧ G1 lo = some (.lst [V.non, .int 0, .str "paper", .ref t0, .ref d0, .bl true]) ∧ lo ≠ p ∧ PenAt G1 p l ns (n + 430) ∧ G1 = upd (upd (upd H10 t0 (.tup [])) d0 (.dK [])) lo (.lst [V.non, .int 0, .str "paper", .ref t0, .ref d0, .bl true]) := by
        have t1 := same_put (s := Same.refl H10) (o := .tup []) nt0
        have t2 := same_put (s := Same.refl _) (o := .dK []) nd0
        have t4 := same_put (s := Same.refl _) (o := .lst [V.non, .int 0, .str "paper", .ref t0, .ref d0, .bl true]) nlo
        have P3 := pen_same (pen_same PA10 t1) t2
        exact ⟨_, fun b o e => t4 _ _ (t2 _ _ (t1 _ _ e)), t4 _ _ (t2 _ _ upd_same), t4 _ _ upd_same, upd_same, P3.nep nlo, pen_same P3 t4, rfl⟩
      rw [← eG]
      have cng := cn10.kl (Kl.same sG)
      have mag := ma.same2 sG
      have mbg := mb.same2 sG
      have tbg := tb10.ext sG
      clear eG sG nt0 nd0 nlo PA10 cn10 ma mb tb10
      refine ⟨p, l, lo, ns, n + 420, _, rfl, PAg.less (by omega), SqL.of hlo, by show 0 < 6; decide, by show 6 < 1000; decide, fun H6 f6 => SqL.of (f6 _ _ hlo lop), fun vp G2 hvp PAh frh => ?_⟩
      have kh : Kl G1 G2 := Kl.fr frh PAg.pen PAh.pen
      have mah := mis_kl mag kh
      have mbh := mis_kl mbg kh
      have cnh := cng.kl kh
      have tbh := tabs_fr tbg PAg.pen frh
      have pap : ∃ tt, ShV G2 vp (.type tt) ∧ tt ∈ (["NoneType", "int", "bool", "str", "dict", "tuple", "list"] : List String) := by
        simp only [List.mem_cons, List.not_mem_nil, or_false] at hvp
        rcases hvp with rfl | rfl | rfl | rfl | rfl | rfl
        · exact ⟨_, .non, by simp⟩
        · exact ⟨_, .int 0, by simp⟩
        · exact ⟨_, .str _, by simp⟩
        · exact ⟨_, (ShV.tup ht0).kl kh, by simp⟩
        · exact ⟨_, (ShV.dict hd0).kl kh, by simp⟩
        · exact ⟨_, .bl _, by simp⟩
      clear hvp ht0 hd0 hlo lop PAg frh kh mag mbg cng tbg
      obtain ⟨tt, pap, htt⟩ := pap
      refine atNm ?_
      dsimp only [List.set_cons_succ, List.set_cons_zero]
      -- right, twice
      refine ⟨_, rfl, _, rfl, ?_⟩
      have c12 : cs.length ≤ 12 := by omega
      refine rsh_of mah mbh G Gb c12 hlt fun z1 u1 G3 mz1 md1 _ s3 => ?_
      refine ⟨_, rfl, z1, vp, u1, rfl, mz1, md1, pz (pap.kl (Kl.same s3)) htt, tbh.ext s3, cnh.kl (Kl.same s3), fun G4 e4 tb4 => ⟨true, rfl, iteF ?_⟩⟩
      have k4 := (Kl.same s3).trans (Kl.ext e4)
      have PA4 := pen_ext (pen_same PAh s3) e4
      replace mah := mis_kl mah k4
      replace pap := pap.kl k4
      replace cnh := cnh.kl k4
      clear mbh mz1 md1 s3 e4 k4 tbh PAh
      refine ⟨_, rfl, _, rfl, ?_⟩
      refine rsh_of mah mah G G c12 hlt fun z1 u1 G5 mz1 md1 _ s5 => ?_
      refine ⟨_, rfl, z1, vp, u1, rfl, mz1, md1, pz (pap.kl (Kl.same s5)) htt, tb4.ext s5, cnh.kl (Kl.same s5), fun G6 e6 tb6 => ⟨true, rfl, iteF (nxtS ?_)⟩⟩
      have k6 := (Kl.same s5).trans (Kl.ext e6)
      have PA6 := pen_ext (pen_same PA4 s5) e6
      replace mah := mis_kl mah k6
      replace pap := pap.kl k6
      replace cnh := cnh.kl k6
      clear mz1 md1 s5 e6 k6 tb4 PA4
      -- what is no misreading
      refine ⟨_, rfl, fun d0 nd0 => fun d1 nd1 => ⟨upd_same, [(Sum.inr ("a" : Str), V.str "b")], rfl, by show 1 ≤ 15; decide, _, rfl, by show 1 ≤ sizeLine; decide, fun l1 nl1 => ⟨_, rfl, by show 1 ≤ sizeLine; decide, fun t1 nt1 => ⟨_, rfl, by show 9 ≤ sizeLine; decide, fun lo nlo => ?_⟩⟩⟩⟩
      obtain ⟨G1, sG, hd0, hd1, hl1, ht1, hlo, lop, PAg, eG⟩ : ∃ G1, Same G6 G1 ∧ G1 d0 = some (.dK []) ∧ G1 d1 = some (.dK (mergeK [] [(Sum.inr ("a" : Str), V.str "b")])) ∧ G1 l1 = some (.lst [V.ref x]) ∧ G1 t1 = some (.tup [V.ref x]) ∧ G1 lo = some (.lst [V.non, .int 0, .bl true, .str "a:b", .ref d0, .ref d1, .ref l1, .ref t1, vp]) ∧ lo ≠ p ∧ PenAt G1 p l ns (n + 420) ∧ G1 = upd (upd (upd (upd (upd (upd G6 d0 (.dK [])) d1 (.dK [])) d1 (.dK (mergeK [] [(Sum.inr ("a" : Str), V.str "b")]))) l1 (.lst [V.ref x])) t1 (.tup [V.ref x])) lo (.lst [V.non, .int 0, .bl true, .str "a:b", .ref d0, .ref d1, .ref l1, .ref t1, vp]) := by
        have u1 := same_put (s := Same.refl G6) (o := .dK []) nd0
        have u2 := same_over (o := (.dK (mergeK [] [(Sum.inr ("a" : Str), V.str "b")]))) (same_put (s := Same.refl _) (o := .dK []) nd1) nd1
        have u3 := same_put (s := Same.refl _) (o := .lst [V.ref x]) nl1
        have u4 := same_put (s := Same.refl _) (o := .tup [V.ref x]) nt1
        have u5 := same_put (s := Same.refl _) (o := .lst [V.non, .int 0, .bl true, .str "a:b", .ref d0, .ref d1, .ref l1, .ref t1, vp]) nlo
        have P5 := pen_same (pen_same (pen_same (pen_same PA6 u1) u2) u3) u4
        exact ⟨_, fun b o e => u5 _ _ (u4 _ _ (u3 _ _ (u2 _ _ (u1 _ _ e)))), u5 _ _ (u4 _ _ (u3 _ _ (u2 _ _ upd_same))), u5 _ _ (u4 _ _ (u3 _ _ upd_same)), u5 _ _ (u4 _ _ upd_same), u5 _ _ upd_same, upd_same, P5.nep nlo, pen_same P5 u5, rfl⟩
      rw [← eG]
      have cng := cnh.kl (Kl.same sG)
      have papg := pap.kl (Kl.same sG)
      have tbg := tb6.ext sG
      clear eG sG nd0 nd1 nl1 nt1 nlo PA6 cnh mah pap tb6
      refine ⟨p, l, lo, ns, n + 410, _, rfl, PAg.less (by omega), SqL.of hlo, by show 0 < 9; decide, by show 9 < 1000; decide, fun H6 f6 => SqL.of (f6 _ _ hlo lop), fun vo G2 hvo PAh frh => ?_⟩
      have kh : Kl G1 G2 := Kl.fr frh PAg.pen PAh.pen
      have cnh := cng.kl kh
      have tbh := tabs_fr tbg PAg.pen frh
      have pap := papg.kl kh
      have tv : ThingM K CM G2 vo none := by
        simp only [List.mem_cons, List.not_mem_nil, or_false] at hvo
        rcases hvo with rfl | rfl | rfl | rfl | rfl | rfl | rfl | rfl | rfl
        · exact tz .non (by simp)
        · exact tz (.int 0) (by simp)
        · exact tz (.bl _) (by simp)
        · exact tz (.str _) (by simp)
        · exact tz ((ShV.dict hd0).kl kh) (by simp)
        · exact tz ((ShV.dict hd1).kl kh) (by simp)
        · exact tz ((ShV.lst hl1).kl kh) (by simp)
        · exact tz ((ShV.tup ht1).kl kh) (by simp)
        · exact tz pap htt
      have PAn := PAh.less (show n ≤ n + 410 by omega)
      clear hvo hd0 hd1 hl1 ht1 hlo lop PAg frh kh cng tbg papg PAh
      refine atNm ?_
      dsimp only [List.set_cons_succ, List.set_cons_zero]
      have pp := pz pap htt
      -- heard
      refine heard_end6 .bad (fun _ => True) tbh (fun H1 E1 R e1 tb1 hE hR => ?_) (fun h1 H2 e2 tb2 w1 w2 => ?_)
      · exact ⟨_, rfl, vo, none, rfl, tv.ext e1, (cnh.ext e1).cn, (cnh.ext e1).sd, hE, fun fi => nomatch fi⟩
      refine ⟨by show 1 ≤ sizeLine; decide, fun l0 nl => ?_⟩
      have z1 := w1 (fun z => nomatch z)
      have s3 := same_put (s := Same.refl H2) (o := .lst [.ref h1]) nl
      have hl : upd H2 l0 (.lst [.ref h1]) l0 = some (.lst [.ref h1]) := upd_same
      have e3 := e2.trans (ExtN.of s3)
      have tb3 := tb2.ext s3
      have z1' := s3 _ _ z1
      have n1 : l0 ≠ h1 := Ne.symm (ne_of_none z1 nl)
      refine atNm ?_
      dsimp only [List.set_cons_succ, List.set_cons_zero]
      generalize upd H2 l0 (.lst [.ref h1]) = H3 at hl e3 tb3 z1' ⊢
      refine ⟨_, rfl, .inl ⟨rfl, _, SqL.of hl⟩, ?_⟩
      refine heard_end6 .bad (fun _ => True) tb3 (fun H4 E1 R e4 tb4 hE hR => ?_) (fun h2 H4 e4 tb4 x1 x2 => ?_)
      · exact ⟨_, rfl, _, rfl, vo, vp, none, rfl, tv.ext (e3.trans e4), pp.ext (e3.trans e4), hE, fun fi => nomatch fi⟩
      have hl4 := e4 _ _ hl (fun _ z => nomatch z)
      have z2 := x1 (fun z => nomatch z)
      have n2 : l0 ≠ h2 := fun z => by
        subst z
        rw [hl4] at z2
        cases z2
      refine ⟨l0, [.ref h1], .ref h2, rfl, rfl, hl4, by show 1 < sizeLine; decide, ?_⟩
      have np : ∀ b o, H4 b = some o → (∀ xs, o ≠ .lst xs) → upd H4 l0 (.lst ([.ref h1] ++ [.ref h2])) b = some o := fun b o z n => by
        rw [upd_ne (fun e => by rw [e, hl4] at z; cases z; exact n _ rfl)]
        exact z
      have eH : ExtN G2 (upd H4 l0 (.lst ([.ref h1] ++ [.ref h2]))) := fun b o z n => by
        by_cases eb : b = l0
        · exfalso
          rw [eb] at z
          have := e2 _ _ z n
          rw [nl] at this
          cases this
        · rw [upd_ne eb]
          exact (e3.trans e4) _ _ z n
      have tb5 := tabs_mono tb4 np
      have hl5 : upd H4 l0 (.lst ([.ref h1] ++ [.ref h2])) l0 = some (.lst [.ref h1, .ref h2]) := upd_same
      have y1 : upd H4 l0 (.lst ([.ref h1] ++ [.ref h2])) h1 = some (.tup (dueT .bad)) := by
        rw [upd_ne (Ne.symm n1)]
        exact e4 _ _ z1' fun _ z => nomatch z
      have y2 : upd H4 l0 (.lst ([.ref h1] ++ [.ref h2])) h2 = some (.tup (dueT .bad)) := by
        rw [upd_ne (Ne.symm n2)]
        exact z2
      dsimp only
      generalize upd H4 l0 (.lst ([.ref h1] ++ [.ref h2])) = H5 at eH tb5 hl5 y1 y2 ⊢
      clear np n2 hl4 x1 x2 tb4 e4 n1 tb3 e3 hl w1 w2 tb2 e2 nl z1 z2 z1' tbh
      refine ⟨_, rfl, rep_two fun t3 d3 H7 s7 ht3 hd3 => ?_⟩
      refine neD_same (d := .list [dueP .bad, dueP .bad]) (.lst (.of (s7 _ _ hl5)) (.cons (due_dp (fun z => nomatch z) (s7 _ _ y1)) (.cons (due_dp (fun z => nomatch z) (s7 _ _ y2)) .nil))) (.lst (.of hd3) (.cons (due_dp (due := .bad) (fun z => nomatch z) ht3) (.cons (due_dp (due := .bad) (fun z => nomatch z) ht3) .nil))) (due_shaped _) ⟨false, rfl, iteF ?_⟩
      exact ⟨⟨_, _, _, _, _, _, _, rfl⟩, pen_same (pen_ext PAn eH) s7, (cnh.kl (Kl.ext eH)).kl (Kl.same s7), tb5.ext s7⟩
    · rintro σ H0 ⟨⟨v2, v3, v4, v5, v6, v7, v8, rfl⟩, _, cn2, tb2⟩
      clear PA1 cn1 tb1
      -- three that end otherwise
      refine ⟨by show 3 ≤ sizeLine; decide, fun ll nll => ?_⟩
      have s1 := same_put (s := Same.refl H0) (o := .lst [.str "bbbb", .str "bbbc", .str "bbcc"]) nll
      have hll : upd H0 ll (.lst [.str "bbbb", .str "bbbc", .str "bbcc"]) ll = some (.lst [.str "bbbb", .str "bbbc", .str "bbcc"]) := upd_same
      have cn3 := cn2.kl (Kl.same s1)
      have tb3 := tb2.ext s1
      generalize upd H0 ll (.lst [.str "bbbb", .str "bbbc", .str "bbcc"]) = H3 at s1 hll cn3 tb3 ⊢
      clear s1 nll cn2 tb2
      refine ⟨ll, rfl, ⟨_, .of hll⟩, ?_⟩
      refine for_it (walk_list (K := K) (a := ll) (xs := [.str "bbbb", .str "bbbc", .str "bbcc"])) (fun i σ H4 => (∃ v9 v10 : Option V, σ = [some (.ref a), some (.ref p), v2, v3, v4, v5, v6, v7, v8, v9, v10, none, none, none, none, none]) ∧ H4 ll = some (.lst [.str "bbbb", .str "bbbc", .str "bbcc"]) ∧ CnS K aS aE aV aD H4 ∧ Tabs TL H4) ⟨⟨none, none, rfl⟩, hll, cn3, tb3⟩ ?_ ?_ ?_
      · rintro i σ H4 hi ⟨_, h, _⟩
        exact SqL.of h
      · rintro i y σ H40 H4 hi ⟨⟨v9, v10, rfl⟩, hl4, cn4, tb4⟩ ⟨rfl, hy⟩
        obtain ⟨s, rfl, gs⟩ : ∃ s : List Nat, y = .str (Sx s) ∧ GoodT [97, 98, 99, 100] [(98, s), (99, [99, 99, 99, 99])] := by
          have hm := List.mem_of_getElem? hy
          simp only [List.mem_cons, List.not_mem_nil, or_false] at hm
          rcases hm with rfl | rfl | rfl
          · exact ⟨[98, 98, 98, 98], congrArg V.str (by decide +kernel), good_2 (by decide)⟩
          · exact ⟨[98, 98, 98, 99], congrArg V.str (by decide +kernel), good_2 (by decide)⟩
          · exact ⟨[98, 98, 99, 99], congrArg V.str (by decide +kernel), good_2 (by decide)⟩
        have g1 : GoodT [97, 98, 99, 100] [(97, [98, 98]), (100, [98, 99])] := good_2 (by decide)
        have lt4 : ∀ c ∈ [97, 98, 99, 100], isLt c := by decide
        refine atNm ?_
        dsimp only [List.set_cons_succ, List.set_cons_zero]
        refine mk_disp2 (s1 := [98, 98]) (s2 := [98, 99]) (by decide +kernel) (by decide +kernel) (fun H R h => by rw [show V.str (Sx [98, 98]) = V.str "bb" from congrArg V.str (by decide +kernel)] at h; exact h) (fun H R h => by rw [show V.str (Sx [98, 99]) = V.str "bc" from congrArg V.str (by decide +kernel)] at h; exact h) (g1.toAbc lt4) fun x1 H5 m1 s5 => ?_
        refine mk_disp2 (s1 := s) (s2 := [99, 99, 99, 99]) (by decide +kernel) (by decide +kernel) (fun H R h => ⟨_, rfl, h⟩) (fun H R h => by rw [show V.str (Sx [99, 99, 99, 99]) = V.str "cccc" from congrArg V.str (by decide +kernel)] at h; exact h) (gs.toAbc lt4) fun x2 H6 m2 s6 => ?_
        refine rsh_of (m1.same2 s6) m2 g1 gs (by decide) lt4 fun z t H7 mz md _ s7 => ?_
        have s47 : Same H4 H7 := fun b o e => s7 _ _ (s6 _ _ (s5 _ _ e))
        refine atNm ?_
        dsimp only [List.set_cons_succ, List.set_cons_zero]
        refine ⟨_, rfl, z, .non, t, rfl, mz, md, pz .non (by simp), tb4.ext s47, cn4.kl (Kl.same s47), fun H8 e8 tb8 => ⟨true, rfl, iteF ?_⟩⟩
        exact ⟨⟨_, _, rfl⟩, e8 _ _ (s47 _ _ hl4) (fun _ z => nomatch z), (cn4.kl (Kl.same s47)).kl (Kl.ext e8), tb8⟩
      · rintro σ H4 ⟨⟨v9, v10, rfl⟩, _, cn4, tb4⟩
        clear hll cn3 tb3
        refine fun dw ndw => fun dl ndl => ⟨_, _, rfl, ?_⟩
        have s5 := same_put (s := Same.refl H4) (o := .dK []) ndw
        have s6 := same_put (s := s5) (o := .dK []) ndl
        have hdl : upd (upd H4 dw (.dK [])) dl (.dK []) dl = some (.dK (encT (lastT 0))) := upd_same
        have hdw : upd (upd H4 dw (.dK [])) dl (.dK []) dw = some (.dK (encT (wideT 0))) := same_put (s := Same.refl _) ndl _ _ upd_same
        have nwl : dw ≠ dl := ne_of_none (show upd H4 dw (.dK []) dw = _ from upd_same) ndl
        have cn6 := cn4.kl (Kl.same s6)
        have tb6 := tb4.ext s6
        have n0w : ∀ {b o}, H4 b = some o → b ≠ dw := fun e => ne_of_none e ndw
        have n0l : ∀ {b o}, H4 b = some o → b ≠ dl := fun e => ne_of_none (s5 _ _ e) ndl
        show tSeq _ _ _ _ (upd (upd H4 dw (.dK [])) dl (.dK []))
        generalize upd (upd H4 dw (.dK [])) dl (.dK []) = H6 at s6 hdl hdw cn6 tb6 ⊢
        clear s5 ndl ndw cn4 tb4
        dsimp only [List.set_cons_succ, List.set_cons_zero]
        have eA : ("abcdefghijkl" : Str) = Sx abl := by decide +kernel
        have eB : ("bcdefghijkla" : Str) = Sx (abl.map fun c => 97 + (c - 96) % 12) := by decide +kernel
        refine ⟨Sx abl, Sx (abl.map fun c => 97 + (c - 96) % 12), 12, by rw [eA, eB], rfl, rfl, for_it walk_zipS (fun i σ H7 => (∃ v12 v13 : Option V, σ = [some (.ref a), some (.ref p), v2, v3, v4, v5, v6, v7, v8, v9, some (.ref dw), some (.ref dl), v12, v13, none, none]) ∧ H7 dw = some (.dK (encT (wideT i))) ∧ H7 dl = some (.dK (encT (lastT i))) ∧ CnS K aS aE aV aD H7 ∧ Tabs TL H7) ⟨⟨none, none, rfl⟩, hdw, hdl, cn6, tb6⟩ (fun _ _ _ _ _ => trivial) ?_ ?_⟩
        · rintro i z σ H7 H7' hi ⟨⟨v12, v13, rfl⟩, hw, hl, cn7, tb7⟩ ⟨tq, c, d, rfl, ntq, rfl, hc, hd⟩
          replace hc := sx_at hc
          replace hd := sx_at hd
          have hi12 : i < 12 := hi
          have ec : c = 97 + i := by
            unfold abl at hc
            rw [List.getElem?_map, List.getElem?_range hi12] at hc
            exact (Option.some.inj hc).symm
          have ed : d = 97 + (i + 1) % 12 := by
            unfold abl at hd
            rw [List.getElem?_map, List.getElem?_map, List.getElem?_range hi12] at hd
            have h2 : 97 + ((97 + i) - 96) % 12 = d := Option.some.inj hd
            omega
          subst ec ed
          have s8 := same_put (s := Same.refl H7) (o := .tup [.str ((⟨#[97 + i]⟩ : Str)), .str ((⟨#[97 + (i + 1) % 12]⟩ : Str))]) ntq
          refine ⟨tq, [.str ((⟨#[97 + i]⟩ : Str)), .str ((⟨#[97 + (i + 1) % 12]⟩ : Str))], rfl, .inl (.inl upd_same), rfl, _, _, rfl, _, _, rfl, rfl, ?_⟩
          have hw8 := s8 _ _ hw
          have hl8 := s8 _ _ hl
          have cn8 := cn7.kl (Kl.same s8)
          have tb8 := tb7.ext s8
          generalize upd H7 tq (.tup [.str ((⟨#[97 + i]⟩ : Str)), .str ((⟨#[97 + (i + 1) % 12]⟩ : Str))]) = H8 at hw8 hl8 cn8 tb8 ⊢
          clear hw hl cn7 tb7 s8 ntq
          have l1 : ∀ c, (L1 c).length = 1 := fun c => rfl
          refine ⟨_, rfl, _, rfl, _, _, rfl, rfl, by show 1 + 1 ≤ sizeLine; rw [sizeLine_eq]; decide, ?_⟩
          refine ⟨_, rfl, _, _, rfl, rfl, by show 1 + 3 ≤ sizeLine; rw [sizeLine_eq]; decide, by show 2 ≤ sizeLine; decide, fun tp ntp => ?_⟩
          have e2 : (⟨#[97 + i]⟩ : Str) ++ (⟨#[97 + (i + 1) % 12]⟩ : Str) = Sx [97 + i, 97 + (i + 1) % 12] := app_Sx _ _
          have e3 : (⟨#[97 + i]⟩ : Str) ++ ("bcd" : Str) = Sx [97 + i, 98, 99, 100] := by
            rw [show ("bcd" : Str) = Sx [98, 99, 100] from by decide +kernel]
            exact app_Sx _ _
          rw [e2, e3]
          have s9 := same_put (s := Same.refl H8) (o := .tup [.str (Sx [97 + i, 97 + (i + 1) % 12]), .str (Sx [97 + i, 98, 99, 100])]) ntp
          refine ⟨tp, _, rfl, .inl (.inl upd_same), rfl, _, _, rfl, ?_⟩
          have hw9 := s9 _ _ hw8
          have hl9 := s9 _ _ hl8
          have cn9 := cn8.kl (Kl.same s9)
          have tb9 := tb8.ext s9
          generalize upd H8 tp (.tup [.str (Sx [97 + i, 97 + (i + 1) % 12]), .str (Sx [97 + i, 98, 99, 100])]) = H9 at hw9 hl9 cn9 tb9 ⊢
          clear hw8 hl8 cn8 tb8 s9 ntp
          have lw : (encT (wideT i)).length < sizeLine := by
            rw [encT_len, sizeLine_eq]
            unfold wideT
            rw [List.length_map, List.length_range]
            omega
          have ll : (encT (lastT i)).length < sizeLine := by
            rw [encT_len, sizeLine_eq]
            unfold lastT
            rw [List.length_map, List.length_range]
            omega
          have pw : putK (encT (wideT i)) (Sum.inr (L1 (97 + i))) (V.str (Sx [97 + i, 97 + (i + 1) % 12])) = encT (wideT (i + 1)) := by
            rw [putK_enc, putT_new (wide_new i), ← wide_snoc]
          have pl : putK (encT (lastT i)) (Sum.inr (L1 (97 + i))) (V.str (Sx [97 + i, 98, 99, 100])) = encT (lastT (i + 1)) := by
            rw [putK_enc, putT_new (last_new i), ← last_snoc]
          refine ⟨_, rfl, _, rfl, dw, _, rfl, DPut.k (k := Sum.inr (L1 (97 + i))) hw9 lw, ?_⟩
          rw [pw]
          have hl10 : upd H9 dw (.dK (encT (wideT (i + 1)))) dl = some (.dK (encT (lastT i))) := by
            rw [upd_ne (Ne.symm nwl)]
            exact hl9
          refine ⟨_, _, rfl, ?_⟩
          refine ⟨_, rfl, _, rfl, dl, _, rfl, DPut.k (k := Sum.inr (L1 (97 + i))) hl10 ll, ?_⟩
          rw [pl]
          refine ⟨rfl, ⟨_, _, rfl⟩, by rw [upd_ne nwl]; exact upd_same, upd_same, (cn9.dict hw9).dict hl10, tabs_dict (tabs_dict tb9 hw9) hl10⟩
        · rintro σ H7 ⟨⟨v12, v13, rfl⟩, hw, hl, cn7, tb7⟩
          clear s6 hdl hdw nwl cn6 tb6 n0w n0l
          have aw : GoodT abc (wideT 12) := good_wide.toAbc abl_lt
          have al : GoodT abc (lastT 12) := good_last.toAbc abl_lt
          have l12 : (toldT [] (wideT 12)).length ≤ 12 := by rw [toldT_nil aw.nd]; decide +kernel
          have l12' : (toldT [] (lastT 12)).length ≤ 12 := by rw [toldT_nil al.nd]; decide +kernel
          have a12 : abl.length ≤ 12 := by decide
          refine ⟨_, rfl, dw, abc, [], wideT 12, rfl, hw, aw, ⟨l12, by rw [abc_len]; exact Nat.le_refl _⟩, fun c hc => abc_mem.mp hc, fun c h => (nomatch h), by decide, fun x1 H8 nx m1 s8 => ?_⟩
          have m1 := m1.mis
          rw [toldT_nil aw.nd] at m1
          refine ⟨_, rfl, dl, abc, [], lastT 12, rfl, s8 _ _ hl, al, ⟨l12', by rw [abc_len]; exact Nat.le_refl _⟩, fun c hc => abc_mem.mp hc, fun c h => (nomatch h), by decide, fun x2 H9 nx2 m2 s9 => ?_⟩
          have m2 := m2.mis
          rw [toldT_nil al.nd] at m2
          refine rsh_of (m1.same2 s9) m2 good_wide good_last a12 abl_lt fun z t H10 mz md _ s10 => ?_
          have s70 : Same H7 H10 := fun b o e => s10 _ _ (s9 _ _ (s8 _ _ e))
          refine ⟨z, .non, t, rfl, mz, md, pz .non (by simp), tb7.ext s70, cn7.kl (Kl.same s70), fun H11 e11 tb11 => ⟨true, rfl, iteF ?_⟩⟩
          have k11 := (Kl.same s70).trans (Kl.ext e11)
          have hw11 := e11 _ _ (s70 _ _ hw) (fun _ z => nomatch z)
          have hl11 := e11 _ _ (s70 _ _ hl) (fun _ z => nomatch z)
          have cn11 := cn7.kl k11
          clear hw hl cn7 tb7 m1 m2 mz md s8 s9 s10 s70 e11 k11 nx nx2
          refine ⟨_, rfl, dl, abc, [], lastT 12, rfl, hl11, al, ⟨l12', by rw [abc_len]; exact Nat.le_refl _⟩, fun c hc => abc_mem.mp hc, fun c h => (nomatch h), by decide, fun x1 H8 nx m1 s8 => ?_⟩
          have m1 := m1.mis
          rw [toldT_nil al.nd] at m1
          refine ⟨_, rfl, dw, abc, [], wideT 12, rfl, s8 _ _ hw11, aw, ⟨l12, by rw [abc_len]; exact Nat.le_refl _⟩, fun c hc => abc_mem.mp hc, fun c h => (nomatch h), by decide, fun x2 H9 nx2 m2 s9 => ?_⟩
          have m2 := m2.mis
          rw [toldT_nil aw.nd] at m2
          refine rsh_of (m1.same2 s9) m2 good_last good_wide a12 abl_lt fun z t H10 mz md _ s10 => ?_
          have s70 : Same H11 H10 := fun b o e => s10 _ _ (s9 _ _ (s8 _ _ e))
          refine ⟨z, .int 0, t, rfl, mz, md, pz (.int 0) (by simp), tb11.ext s70, cn11.kl (Kl.same s70), fun H12 e12 tb12 => ⟨true, rfl, iteF (nxtS ?_)⟩⟩
          have cn12 := cn11.kl ((Kl.same s70).trans (Kl.ext e12))
          clear hw11 hl11 cn11 tb11 m1 m2 mz md s8 s9 s10 s70 e12 nx nx2
          -- nine, eight
          refine comp_two (b := [98, 98, 98]) (s := [99, 99, 99]) (by decide +kernel) (by decide +kernel) (good_k (by decide)) (good_k (by decide)) fun n9 u9 H2 s2 m9 md9 e9 => ?_
          rw [cF_nine] at e9
          refine atNm ?_
          dsimp only [List.set_cons_succ, List.set_cons_zero]
          refine comp_two (b := [98, 98]) (s := [99, 99, 99, 99]) (by decide +kernel) (by decide +kernel) (good_k (by decide)) (good_k (by decide)) fun n8 u8 H3 s3 m8 md8 e8 => ?_
          rw [cF_eight] at e8
          refine atNm ?_
          dsimp only [List.set_cons_succ, List.set_cons_zero]
          have s23 : Same H12 H3 := fun b o e => s3 _ _ (s2 _ _ e)
          have tb3 := tb12.ext s23
          have cn3 := cn12.kl (Kl.same s23)
          replace m9 := m9.same2 s3
          clear s2 s3 s23 tb12 cn12
          have d9 : dueO (some u9) = .long := due_long (by rw [lk_short e9]; exact short_nine)
          refine heard_end6 .long (fun _ => True) tb3 (fun H4 E1 R e4 tb4 hE hR => ?_) (fun h1 H4 e4 tb4 w1 w2 => ?_)
          · refine ⟨_, rfl, .ref n9, some u9, rfl, ⟨n9, rfl, mis_ext m9 e4, md9⟩, (cn3.ext e4).cn, (cn3.ext e4).sd, fun _ => ?_, fun fi => ?_⟩
            · rw [d9]
              exact hE (fun z => nomatch z)
            · rw [d9] at fi
              cases fi
          have z1 := w1 (fun z => nomatch z)
          refine ⟨by show 2 ≤ sizeLine; decide, fun t1 nt1 => ?_⟩
          have s5 := same_put (s := Same.refl H4) (o := .tup [.str "image", .int 8]) nt1
          refine neD_same (d := dueP .long) (due_dp (fun z => nomatch z) (s5 _ _ z1)) (due_dp (due := .long) (fun z => nomatch z) upd_same) (by decide +kernel) ⟨false, rfl, iteF (nxtS ?_)⟩
          have e5 := e4.trans (ExtN.of s5)
          have cn5 := cn3.ext e5
          have m85 := mis_ext m8 e5
          generalize upd H4 t1 (.tup [.str "image", .int 8]) = H5 at cn5 m85 ⊢
          clear e5 s5 nt1 z1 w1 w2 tb4 e4 m9 tb3 cn3 m8
          -- one to one
          refine ⟨_, rfl, n8, u8, rfl, m85, md8.ok (by rw [lk_short e8]; exact short_eight), cn5.cn, cn5.sd, fun z H6 s6 nz vz => ?_⟩
          have ep := lk_pairs e8
          rw [ep] at vz
          obtain ⟨dx, lz, dz, rs, rs', hz, tl, td, isl, isd, td1, td2⟩ : ∃ (dx : Addr) (lz dz : V) (rs rs' : List (Bool × Wd)), H6 z = some (.ins CO dx (fO lz dz)) ∧ TV H6 lz (leadsD (pairsT tEight) rs) ∧ TV H6 dz (restsD rs') ∧ RsIs (pairsT tEight) (pairsT tEight) true rs ∧ RsIs (pairsT tEight) (pairsT tEight) false rs' ∧ TD 2 (leadsD (pairsT tEight) rs) ∧ TD 2 (restsD rs') := by
            rcases vz with ⟨dx, lz, dz, rs, rs', _, hz, h⟩ | ⟨dx, w, _, way, ne, _⟩
            · exact ⟨dx, lz, dz, rs, rs', hz, h⟩
            · exact absurd (alike_eight w way) ne
          obtain rfl := rs_eight isl
          obtain rfl := rs_eight_dead isd
          refine ⟨by show 4 ≤ sizeLine; decide, fun ta nta => ⟨by show 1 ≤ sizeLine; decide, fun tb' ntb => ⟨by show 0 ≤ sizeLine; decide, fun tc ntc => fun y dy ny ndy ney => ?_⟩⟩⟩
          have q1 := same_put (s := Same.refl H6) (o := .tup [.str "one", .str "cccccccc", .str "one", .str "a"]) nta
          have q2 := same_put (s := Same.refl _) (o := .tup [.ref ta]) ntb
          have q3 := same_put (s := Same.refl _) (o := .tup []) ntc
          have sy := same_mk (C := CO) (o := .own y) ny ndy
          have s7 : Same H6 _ := fun b o e => sy _ _ (q3 _ _ (q2 _ _ (q1 _ _ e)))
          refine ⟨y, dy, .ref tb', .ref tc, d8, .tuple [], rfl, upd_same, .tup (sy _ _ (q3 _ _ upd_same)) (.cons (.tup (sy _ _ (q3 _ _ (q2 _ _ upd_same))) (.cons (.str _) (.cons (.str _) (.cons (.str _) (.cons (.str _) .nil))))) .nil), td_d8, .tup (sy _ _ upd_same) .nil, td_none, fun a' b' H7 k7 hy tva tvb => ⟨rfl, ?_⟩⟩
          have s67 : Same H6 H7 := same_butx (fun b o e => q3 _ _ (q2 _ _ (q1 _ _ e))) (fun b o e n => k7 _ _ (sy _ _ e) n) (same_none (fun b o e => q3 _ _ (q2 _ _ (q1 _ _ e))) ny)
          have hz7 := s67 _ _ hz
          refine ⟨z, dx, _, .ref CO, rfl, hz7, T.tyO _ _ _ _ hy, T.nfO, z, dx, lz, dz, _, _, .ref y, rfl, hz7, tl.same s67, td.same s67, td1, td2, .inl ⟨y, dy, a', b', _, _, rfl, hy, tva, tvb, td_d8, td_none, fun H8 s8 => ⟨_, rfl, _, rfl, ?_⟩⟩⟩
          rw [leads_d8, show PyData.eqv (restsD []) (.tuple []) = true from by decide +kernel]
          refine iteT ?_
          -- no letters at all
          have cn8 := ((cn5.kl (Kl.same s6)).kl (Kl.same s67)).kl (Kl.same s8)
          refine fun dn ndn => ?_
          have s9 := same_put (s := Same.refl H8) (o := .dK (encT [])) ndn
          have hdn : upd H8 dn (.dK (encT [])) dn = some (.dK (encT [])) := upd_same
          have cn9 := cn8.kl (Kl.same s9)
          refine ⟨dn, abc, [], [], rfl, hdn, GoodT.nil, ⟨by decide, by rw [abc_len]; exact Nat.le_refl _⟩, fun c hc => abc_mem.mp hc, fun c h => (nomatch h), by decide, fun x0 H9 nx m0 s10 => ?_⟩
          have m0 := m0.mis
          have ok0 : OkU (toldT [] []) := ⟨by decide +kernel, by decide +kernel⟩
          have cn10 := cn9.kl (Kl.same s10)
          refine ⟨x0, toldT [] [], rfl, m0, ok0, cn10.cn, cn10.sd, fun z H10 s11 nz vz => ?_⟩
          rw [show toldT [] [] = ([] : Tab) from toldT_nil (t := []) (by decide)] at vz
          obtain ⟨dx, lz, dz, rs, rs', hz, tl, td, isl, isd, td1, td2⟩ : ∃ (dx : Addr) (lz dz : V) (rs rs' : List (Bool × Wd)), H10 z = some (.ins CO dx (fO lz dz)) ∧ TV H10 lz (leadsD (pairsT []) rs) ∧ TV H10 dz (restsD rs') ∧ RsIs (pairsT []) (pairsT []) true rs ∧ RsIs (pairsT []) (pairsT []) false rs' ∧ TD 2 (leadsD (pairsT []) rs) ∧ TD 2 (restsD rs') := by
            rcases vz with ⟨dx, lz, dz, rs, rs', _, hz, h⟩ | ⟨dx, w, _, way, ne, _⟩
            · exact ⟨dx, lz, dz, rs, rs', hz, h⟩
            · exact absurd (alike_none w way) ne
          obtain rfl := rs_none isl
          obtain rfl := rs_none isd
          refine ⟨by show 0 ≤ sizeLine; decide, fun tb' ntb => ⟨by show 0 ≤ sizeLine; decide, fun tc ntc => fun y dy ny ndy ney => ?_⟩⟩
          have q2 := same_put (s := Same.refl H10) (o := .tup []) ntb
          have q3 := same_put (s := Same.refl _) (o := .tup []) ntc
          have sy := same_mk (C := CO) (o := .own y) ny ndy
          refine ⟨y, dy, .ref tb', .ref tc, .tuple [], .tuple [], rfl, upd_same, .tup (sy _ _ (q3 _ _ upd_same)) .nil, td_none, .tup (sy _ _ upd_same) .nil, td_none, fun a' b' H11 k11 hy tva tvb => ⟨rfl, ?_⟩⟩
          have s12 : Same H10 H11 := same_butx (fun b o e => q3 _ _ (q2 _ _ e)) (fun b o e n => k11 _ _ (sy _ _ e) n) (same_none (fun b o e => q3 _ _ (q2 _ _ e)) ny)
          have hz11 := s12 _ _ hz
          refine ⟨z, dx, _, .ref CO, rfl, hz11, T.tyO _ _ _ _ hy, T.nfO, z, dx, lz, dz, _, _, .ref y, rfl, hz11, tl.same s12, td.same s12, td1, td2, .inl ⟨y, dy, a', b', _, _, rfl, hy, tva, tvb, td_none, td_none, fun H12 s13 => ⟨_, rfl, ?_⟩⟩⟩
          rw [show PyData.eqv (leadsD (pairsT []) []) (.tuple []) = true from by decide +kernel, show PyData.eqv (restsD []) (.tuple []) = true from by decide +kernel]
          exact q0 _
end
end V8
set_option Elab.async false
set_option linter.all false
set_option maxRecDepth 100000
set_option maxHeartbeats 4000000
/-! The end of a law, the modules known to stand in the ground. -/
namespace LamX
open PySem PySem.Spec PyProof.Rows L2
theorem law_callS {P : Program} {w : World} {K : PySem.W.Frag} {mg mb mm : Str → Option Value} {C : CXT} {k : Nat} {fa a : Addr} {cs : List (Addr × Addr)} {fd : FuncData} {x : Str} {sp : Sp} {s : Shared} {vs : List Value} {ns : List Int}
    (kin : K.In s.heap) (glob : s.heap.Ns mainGlobals mg) (bns : s.heap.Ns builtinsNs mb) (boot : ∀ y : Str, y ≠ "__name__" → mb y = bootBuiltins y) (lim : s.heap.NoLimit) (gens : s.gens = #[])
    (modules : s.heap.Ns sysModules mm)
    (tabs : ∀ p ∈ cs, s.heap.get? p.2 = some { cls := .none, data := .fields #[] }) (untold : ∀ p ∈ cs, K.lookup p.2 = none) (codes : ∀ p ∈ cs, PySem.W.CodeHd s.heap p.1 p.2)
    (bmod : ∃ (bm : Addr) (ob : Obj), mg "__builtins__" = some (.ref bm) ∧ bm ≠ builtinsNs ∧ s.heap.get? bm = some ob ∧ ob.cls = .type "module" ∧ ob.dict = some builtinsNs ∧ ob.data = .plain)
    (script : s.heap.get? a = some { cls := .type "list", data := .seq vs.toArray }) (whole : IntsAre vs ns) (short : ns.length ≤ sizeLine) (room : Room k callerA)
    (F : ∀ base : Heap, SysIn base → K.In base → base.Ns mainGlobals mg → (∀ p ∈ cs, TabB base mg p.1 p.2) → FnG P w K mg base C k fa fd [x] sp) (binds : ∀ (s : Shared) (u : Value), BindsTo s fd ⟨[u], []⟩ [(x, u)])
    (holds : ∀ H : Hp, (∀ p ∈ cs, H p.2 = some (.tbl #[])) → SqL K H a (ns.map V.int) → sp [.ref a] H (fun v _ => v = .bl true) fun _ _ _ => False)
    (noerr : ∀ H e s', C [] H s (fun _ _ _ => False) e s' → False) :
    codeAny (model P w) callerA (.call (.ref fa) ⟨[.ref a], []⟩) (fun r s' => r = .ok (.ret (.bool true)) ∧ OldK s.heap s'.heap ∧ s'.os = s.os ∧ AllBare s'.gens) s := by
  have rel := vals_ints whole
  have many := whole.length
  generalize hts : cs.map (·.2) = ts
  have inT : ∀ p ∈ cs, p.2 ∈ ts := fun p hp => by
    rw [← hts]
    exact List.mem_map.mpr ⟨p, hp, rfl⟩
  have ofT : ∀ b ∈ ts, ∃ p ∈ cs, p.2 = b := fun b hb => by
    rw [← hts] at hb
    exact List.mem_map.mp hb
  have emp : ∀ b ∈ ts, s.heap.get? b = some { cls := .none, data := .fields #[] } := fun b hb => by
    obtain ⟨p, hp, rfl⟩ := ofT b hb
    exact tabs p hp
  have aT : a ∉ ts := fun z => by
    have e := emp a z
    rw [script] at e
    have e2 := congrArg Obj.data (Option.some.inj e)
    cases e2
  generalize hH : firstH K ts a { cls := .type "list", data := .seq vs.toArray } (ns.map V.int) = H
  have of : ∀ {b u}, H b = some u → (b ∈ ts ∧ u = .tbl #[]) ∨ (b = a ∧ K.lookup a = none ∧ u = .frz { cls := .type "list", data := .seq vs.toArray } (.lst (ns.map V.int))) := fun {b u} z => by
    rw [← hH] at z
    exact firstH_of z
  have atT : ∀ b ∈ ts, H b = some (.tbl #[]) := fun b hb => by
    rw [← hH]
    exact firstH_tab hb
  -- what is neither a list nor an empty table is not tracked
  have off : ∀ {b : Addr} {o : Obj}, s.heap.get? b = some o → (∀ us n, o.data ≠ .seq us n) → o.data ≠ .fields #[] → H b = none := fun {b o} e n1 n2 => by
    cases z : H b with
    | none => rfl
    | some u =>
      rcases of z with ⟨m, _⟩ | ⟨m, _, _⟩
      · rw [emp b m] at e
        cases e
        exact absurd rfl n2
      · rw [m, script] at e
        cases e
        exact absurd rfl (n1 _ _)
  have dict : ∀ {b : Addr} {o : Obj} {es : Array DictEntry} {n : Nat}, s.heap.get? b = some o → o.data = .dict es n → H b = none := fun {b o es n} e d =>
    off e (fun us m z => by rw [d] at z; cases z) fun z => by rw [d] at z; cases z
  have stays : ∀ {b : Addr} {m : Str → Option Value}, s.heap.Ns b m → (hidT s.heap H).Ns b m := fun {b m} z => by
    obtain ⟨o, es, ep, e, d, r⟩ := z
    exact ⟨o, es, ep, hidT_get e (dict e d), d, r⟩
  have kin2 : K.In (hidT s.heap H) := fun b o e => by
    refine hidT_get (kin b o e) ?_
    cases z : H b with
    | none => rfl
    | some u =>
      rcases of z with ⟨m, _⟩ | ⟨m, n, _⟩
      · obtain ⟨p, hp, rfl⟩ := ofT b m
        rw [untold p hp] at e
        cases e
      · rw [m, n] at e
        cases e
  have glob2 := stays glob
  have mod : L2.Mod K mg (hidT s.heap H) := by
    refine ⟨kin2, glob2, ⟨mb, stays bns, boot⟩, ?_⟩
    obtain ⟨mc, l1, l2⟩ := lim
    exact ⟨mc, stays l1, l2⟩
  have tb : ∀ p ∈ cs, TabB (hidT s.heap H) mg p.1 p.2 := fun p hp => by
    have eT := tabs p hp
    refine ⟨?_, ?_, fun z => ?_⟩
    · obtain ⟨o, us, file, tf, flags, tg, inF, text, tt, e1, r1, r2, r3, r⟩ := codes p hp
      refine ⟨o, us, file, tf, flags, tg, inF, text, tt, hidT_get e1 (off e1 (fun ws n z => ?_) fun z => ?_), r1, r2, r3, r⟩
      · rw [r2] at z
        cases z
      · rw [r2] at z
        have z2 : us = #[] := by cases z; rfl
        rw [z2] at r3
        simp at r3
    · obtain ⟨bm, ob, b1, b2, b3, b4, b5, b6⟩ := bmod
      refine ⟨bm, ob, b1, b2, fun z => ?_, fun z => ?_, hidT_get b3 (off b3 (fun ws n z => ?_) fun z => ?_), b4, b5, b6⟩
      · obtain ⟨o, es, ep, e, hd, _⟩ := glob
        rw [z, e] at b3
        cases b3
        rw [hd] at b6
        cases b6
      · rw [z, eT] at b3
        cases b3
        cases b6
      · rw [b6] at z
        cases z
      · rw [b6] at z
        cases z
    · obtain ⟨o, es, ep, e, hd, _⟩ := glob
      rw [z, eT] at e
      cases e
      cases hd
  have held : HOk P w H s.heap := fun b u z => by
    rcases of z with ⟨m, rfl⟩ | ⟨rfl, n, rfl⟩
    · exact emp b m
    · refine ⟨script, ?_, vs, 0, rel, script⟩
      rw [List.length_map]
      exact short
  have seq : SqL K H a (ns.map V.int) := by
    cases hk : K.lookup a with
    | none =>
      refine .inl (.inr ⟨{ cls := .type "list", data := .seq vs.toArray }, ?_⟩)
      rw [← hH]
      exact firstH_at aT hk
    | some o =>
      have e := kin a o hk
      rw [script] at e
      cases e
      refine .inr ⟨_, vs.toArray, _, hk, rfl, rfl, rfl, ?_, by simpa using rel⟩
      rw [List.size_toArray, many]
      exact short
  have start : Env0 P w K mg (hidT s.heap H) callerA [] s H := by
    refine ⟨rfl, mod, fun b o e => of_hidT e, Nat.le_of_eq (hidT_size _ _), trivial, fun b z => ?_, held, .of_eq gens⟩
    exact absurd z (List.not_mem_nil)
  have ran := (F _ (by obtain ⟨o, es, ep, e, d, r⟩ := modules; exact ⟨o, hidT_get e (dict e d)⟩) kin2 glob2 tb).runs callerA [] s H ⟨[.ref a], []⟩ [.ref a] [.ref a] _ _ rfl room start (binds s (.ref a)) (.cons rfl .nil) (holds H (fun p hp => atT _ (inT p hp)) seq)
  refine codeAny_mono ran fun r s2 h => ?_
  match r, h with
  | .error e, h => exact (noerr H e s2 h).elim
  | .ok .next, h => exact h.elim
  | .ok .brk, h => exact h.elim
  | .ok .cont, h => exact h.elim
  | .ok (.ret u), h =>
    obtain ⟨v, H2, os, bare, un, ok2, rv, rfl⟩ := h
    obtain rfl : u = Value.bool true := rv
    have same : ∀ b o, b ∉ ts → s.heap.get? b = some o → s2.heap.get? b = some o := fun b o nb e => by
      cases z : H b with
      | none => exact un.keep b o e z (List.not_mem_nil) (List.not_mem_nil)
      | some u =>
        rcases of z with ⟨m, _⟩ | ⟨rfl, n, rfl⟩
        · exact absurd m nb
        · obtain ⟨e2, _⟩ := ok2 b _ (un.frzs b _ _ z)
          rw [script] at e
          cases e
          exact e2
    have more : ∀ b ∈ ts, ∃ us : Array Value, s2.heap.get? b = some { cls := .none, data := .fields us } := fun b hb => by
      obtain ⟨us, z⟩ := un.tbls b #[] (atT b hb)
      exact ⟨_, ok2 b _ z⟩
    refine ⟨rfl, ⟨fun b o e => ?_, fun b o e => ?_⟩, os, bare⟩
    · by_cases hb : b ∈ ts
      · obtain ⟨us, hu⟩ := more b hb
        obtain ⟨p, hp, rfl⟩ := ofT b hb
        have eT := tabs p hp
        rw [eT] at e
        cases e
        refine .inr (.inl ⟨((codes p hp).tab eT).isCodeTable, rfl, #[], us, rfl, ?_⟩)
        rw [Array.empty_append]
        exact hu
      · exact .inl (same b o hb e)
    · by_cases hb : b ∈ ts
      · obtain ⟨us, hu⟩ := more b hb
        exact ⟨_, hu⟩
      · exact ⟨o, same b o hb e⟩
end LamX
set_option Elab.async false
set_option linter.all false
set_option maxRecDepth 100000
set_option maxHeartbeats 16000000
/-! What the top has left, taken together. -/
namespace V8
open PySem PySem.Spec PyProof.Rows L2 MZ LamX
theorem exm_of {K : PySem.W.Frag} {S R : Addr} (h1 : PySem.W.subIn K (.ref R) (.type "BaseException") = some true) (h2 : PySem.W.isClsIn K R = true) (h3 : PySem.W.typeIn K (.ref R) = some (.type "type")) (h4 : PySem.W.subIn K (.ref S) (.ref R) = some true) : PySem.W.exmOne K (.ref S) (.ref R) = some true := by
  unfold PySem.W.isClsIn at h2
  unfold PySem.W.exmOne
  rw [h1, if_pos (show (some true == some true) = true from rfl)]
  unfold PySem.W.kitCls
  dsimp only
  rw [h2, h3, if_pos (show (true && (some (Value.type "type") == some (Value.type "type"))) = true by decide +kernel), h4]
/-- a class of errors, below CE -/
structure ClsX (K : PySem.W.Frag) (CE C : Addr) : Prop where
  x : ∃ nm q N bs sn sub ab col dd k0 k1 k2 k3 k5, K.lookup C = some (excClassObj nm q C N bs [.ref CE, .type "ValueError", .type "Exception", .type "BaseException", .type "object"] true sn sub ab col dd k0 k1 k2 k3 k5 "ValueError.__new__")
section
variable {K : PySem.W.Frag} {CE C D : Addr}
theorem ClsX.cls (c : ClsX K CE C) : ∃ cd, PySem.W.clsIn K C = some cd ∧ cd.mro = .ref C :: [.ref CE, .type "ValueError", .type "Exception", .type "BaseException", .type "object"] ∧ cd.hasDict = true := by
  obtain ⟨nm, q, N, bs, sn, sub, ab, col, dd, k0, k1, k2, k3, k5, e⟩ := c.x
  unfold PySem.W.clsIn
  rw [e]
  exact ⟨_, rfl, rfl, rfl⟩
theorem ClsX.isC (c : ClsX K CE C) : PySem.W.isClsIn K C = true := by
  obtain ⟨cd, e, _⟩ := c.cls
  unfold PySem.W.isClsIn
  rw [e]
  rfl
theorem ClsX.hd (c : ClsX K CE C) : PySem.W.hasDictIn K C = true := by
  obtain ⟨cd, e, _, h⟩ := c.cls
  unfold PySem.W.hasDictIn
  rw [e]
  exact h
theorem ClsX.ty (c : ClsX K CE C) : PySem.W.typeIn K (.ref C) = some (.type "type") := by
  obtain ⟨nm, q, N, bs, sn, sub, ab, col, dd, k0, k1, k2, k3, k5, e⟩ := c.x
  show (K.lookup C).map _ = _
  rw [e]
  rfl
theorem ClsX.sub (c : ClsX K CE C) (b : Value) : PySem.W.subIn K (.ref C) b = some ((.ref C :: [.ref CE, .type "ValueError", .type "Exception", .type "BaseException", .type "object"] : List Value).contains b) := by
  obtain ⟨cd, e, h, _⟩ := c.cls
  show PySem.W.mroIn K C b = _
  unfold PySem.W.mroIn
  rw [e]
  show (if cd.mro.isEmpty then none else some (cd.mro.contains b)) = _
  rw [h]
  rfl
theorem ClsX.ex (c : ClsX K CE C) : PySem.W.subIn K (.ref C) (.type "BaseException") = some true := by
  rw [c.sub, List.contains_iff_mem.mpr (by simp)]
theorem ClsX.hm (c : ClsX K CE C) : PySem.W.mroIn K C (.type "object") = some true := by
  have e := c.sub (.type "object")
  rw [List.contains_iff_mem.mpr (by simp)] at e
  exact e
theorem ClsX.sE (c : ClsX K CE C) : PySem.W.subIn K (.ref C) (.ref CE) = some true := by
  rw [c.sub, List.contains_iff_mem.mpr (by simp)]
theorem kk_self {v : Value} : PySem.W.kitOne K v v = some true := by
  unfold PySem.W.kitOne
  rw [if_pos (beq_self_eq_true v)]
theorem kk_of (c : ClsX K CE C) (d : ClsX K CE D) (ne : C ≠ D) (nE : D ≠ CE) : PySem.W.kitOne K (.ref C) (.ref D) = some false := by
  have h2 := d.isC
  have h3 := d.ty
  unfold PySem.W.isClsIn at h2
  unfold PySem.W.kitOne
  rw [if_neg (by intro z; cases beq_iff_eq.mp z; exact ne rfl)]
  unfold PySem.W.kitCls
  dsimp only
  rw [h2, h3, if_pos (show (true && (some (Value.type "type") == some (Value.type "type"))) = true by decide +kernel), c.sub]
  refine congrArg some (Bool.eq_false_iff.mpr fun z => ?_)
  have m := List.contains_iff_mem.mp z
  simp at m
  rcases m with m | m
  · exact ne m.symm
  · exact nE m
end
theorem vals_revW : ∀ {xs : List V} {us : List Value}, Vals xs us → Vals xs.reverse us.reverse
  | [], _, .nil => .nil
  | x :: xs, u :: us, .cons r h => by
    rw [List.reverse_cons, List.reverse_cons]
    exact (vals_revW h).append (.cons r .nil)
theorem sq_known {K : PySem.W.Frag} {a : Addr} {od : Option Addr} {x y : Str} {t u : Tok} {n : Nat} {sl : Array (Option Value)} (h : K.lookup a = some ⟨.type "tuple", od, .seq #[.str x t, .str y u] n, sl⟩) (H : Hp) : SqT K H a [.str x, .str y] :=
  .inr ⟨_, _, _, h, rfl, rfl, by show 2 ≤ sizeLine; decide, .cons ⟨t, rfl⟩ (.cons ⟨u, rfl⟩ .nil)⟩
/-- what the law promises where the script is laid -/
structure LawG (l : PySem.W.OpenLaw) (w : World) (K : PySem.W.Frag) (k : Nat) (mg : Str → Option Value) (fa : Addr) (h : Heap) (fd : FuncData) (cs : List (Addr × Addr)) (sp : Sp) : Prop where
  tabs : ∀ p ∈ cs, h.get? p.2 = some { cls := .none, data := .fields #[] }
  untold : ∀ p ∈ cs, K.lookup p.2 = none
  codes : ∀ p ∈ cs, PySem.W.CodeHd h p.1 p.2
  binds : ∀ (s : Shared) (u : Value), BindsTo s fd ⟨[u], []⟩ [("_law_script", u)]
  starts : ∀ (H : Hp) (a : Addr) (ns : List Int), ns.length ≤ 63 → (∀ z ∈ ns, Builtin.Int.intBits z ≤ 1048576) → (∀ p ∈ cs, H p.2 = some (.tbl #[])) → SqL K H a (ns.map V.int) → sp [.ref a] H (fun v _ => v = .bl true) fun _ _ _ => False
  runs : ∀ base : Heap, SysIn base → K.In base → base.Ns mainGlobals mg → (∀ p ∈ cs, TabB base mg p.1 p.2) → FnG l.prog w K mg base CX0 k fa fd ["_law_script"] sp
def TLs (p1 p2 : Addr) : List (Addr × Str) := [(p1, (("_law_right" : Str) ++ ".<locals>.") ++ "<lambda>"), (p2, (("law" : Str) ++ ".<locals>.") ++ "<lambda>")]
theorem all_mk {l : PySem.W.OpenLaw} {w : World} {K : PySem.W.Frag} {h : Heap} {mg : Str → Option Value} {fa CM CJ CG CO CR CE q1 p1 q2 p2 B0 N0 B1 N1 f0 f1 f2 f3 f4 f5 f6 f7 f8 f9 f10 f11 f12 f13 f14 f15 f16 f17 f18 f19 f20 f21 f22 f23 f24 f25 f26 f27 f28 f29 f30 f31 f32 f33 f34 f35 f36 f37 f38 f39 f40 f41 f42 f43 f44 f45 f46 f47 f48 f49 f50 f51 f52 f53 TI tS tE tW tD0 : Addr} {od0 od1 od2 od3 od4 od5 od6 od7 od8 od9 od10 od11 od12 od13 od14 od15 od16 od17 od18 od19 od20 od21 od22 od23 od24 od25 od26 od27 od28 od29 od30 od31 od32 od33 od34 od35 od36 od37 od38 od39 od40 od41 od42 od43 od44 od45 od46 od47 od48 od49 od50 od51 od52 od53 odT odS odE odW odD qd1 qd2 : Option Addr} {an0 an1 an2 an3 an4 an5 an6 an7 an8 an9 an10 an11 an12 an13 an14 an15 an16 an17 an18 an19 an20 an21 an22 an23 an24 an25 an26 an27 an28 an29 an30 an31 an32 an33 an34 an35 an36 an37 an38 an39 an40 an41 an42 an43 an44 an45 an46 an47 an48 an49 an50 an51 an52 an53 : Option Addr} {sl0 sl1 sl2 sl3 sl4 sl5 sl6 sl7 sl8 sl9 sl10 sl11 sl12 sl13 sl14 sl15 sl16 sl17 sl18 sl19 sl20 sl21 sl22 sl23 sl24 sl25 sl26 sl27 sl28 sl29 sl30 sl31 sl32 sl33 sl34 sl35 sl36 sl37 sl38 sl39 sl40 sl41 sl42 sl43 sl44 sl45 sl46 sl47 sl48 sl49 sl50 sl51 sl52 sl53 slT qs1 qs2 slS slE slW slD : Array (Option Value)} {oc0 kV0 dc0 pm0 cd0 ct0 oc1 kV1 dc1 pm1 cd1 ct1 oc2 kV2 dc2 pm2 cd2 ct2 oc3 kV3 dc3 pm3 cd3 ct3 oc4 kV4 dc4 pm4 cd4 ct4 oc5 kV5 dc5 pm5 cd5 ct5 oc6 kV6 dc6 pm6 cd6 ct6 oc7 kV7 dc7 pm7 cd7 ct7 oc8 kV8 dc8 pm8 cd8 ct8 oc9 kV9 dc9 pm9 cd9 ct9 oc10 kV10 dc10 pm10 cd10 ct10 oc11 kV11 dc11 pm11 cd11 ct11 oc12 kV12 dc12 pm12 cd12 ct12 oc13 kV13 dc13 pm13 cd13 ct13 oc14 kV14 dc14 pm14 cd14 ct14 oc15 kV15 dc15 pm15 cd15 ct15 oc16 kV16 dc16 pm16 cd16 ct16 oc17 kV17 dc17 pm17 cd17 ct17 oc18 kV18 dc18 pm18 cd18 ct18 oc19 kV19 dc19 pm19 cd19 ct19 oc20 kV20 dc20 pm20 cd20 ct20 oc21 kV21 dc21 pm21 cd21 ct21 oc22 kV22 dc22 pm22 cd22 ct22 oc23 kV23 dc23 pm23 cd23 ct23 oc24 kV24 dc24 pm24 cd24 ct24 oc25 kV25 dc25 pm25 cd25 ct25 oc26 kV26 dc26 pm26 cd26 ct26 oc27 kV27 dc27 pm27 cd27 ct27 oc28 kV28 dc28 pm28 cd28 ct28 oc29 kV29 dc29 pm29 cd29 ct29 oc30 kV30 dc30 pm30 cd30 ct30 oc31 kV31 dc31 pm31 cd31 ct31 oc32 kV32 dc32 pm32 cd32 ct32 oc33 kV33 dc33 pm33 cd33 ct33 oc34 kV34 dc34 pm34 cd34 ct34 oc35 kV35 dc35 pm35 cd35 ct35 oc36 kV36 dc36 pm36 cd36 ct36 oc37 kV37 dc37 pm37 ct37 oc38 kV38 dc38 pm38 ct38 oc39 kV39 dc39 pm39 cd39 ct39 oc40 kV40 dc40 pm40 cd40 ct40 oc41 kV41 dc41 pm41 cd41 ct41 oc42 kV42 dc42 pm42 cd42 ct42 oc43 kV43 dc43 pm43 cd43 ct43 oc44 kV44 dc44 pm44 cd44 ct44 oc45 kV45 dc45 pm45 cd45 ct45 oc46 kV46 dc46 pm46 cd46 ct46 oc47 kV47 dc47 pm47 cd47 ct47 oc48 kV48 dc48 pm48 cd48 ct48 oc49 kV49 dc49 pm49 cd49 ct49 oc50 kV50 dc50 pm50 cd50 ct50 oc51 kV51 dc51 pm51 cd51 ct51 oc52 kV52 dc52 pm52 cd52 ct52 oc53 kV53 dc53 pm53 cd53 ct53 ocT : Value} {nT nS nE nW nD : Nat} {tkT tk1 tk2 tk3 tk4 tk5 tk6 qt1 qm1 qy1 qt2 qm2 qy2 taS tbS taE tbE taW tbW taD tbD : Tok} {poI roI : Option Value} {vs1 vs2 : Array Value} {bs0 sub0 bs1 sub1 : List Value} {ql1 qx1 ql2 qx2 : Int} {qi1 qi2 : Bool} {qf1 qf2 nm0 qq0 nm1 qq1 : Str} {sn0 sn1 : List Str} {ab0 ab1 : Bool} {col0 col1 : Option Bool} {dd0 dd1 : Option Addr} {m00 m01 m02 m03 m05 m10 m11 m12 m13 m15 : Option Value} (X : K.In h) (G : h.Ns mainGlobals mg) (hfa : mg "law" = some (.ref fa)) (own1 : ∀ fb, mg "_law_right" = some (.ref fb) → OwnTab K fb h) (own2 : OwnTab K fa h)
    (aC : PySem.W.nsIn K mainGlobals "Misreading" = some (some (.ref CM)))
    (aJ : PySem.W.nsIn K mainGlobals "Joined" = some (some (.ref CJ)))
    (aG : PySem.W.nsIn K mainGlobals "Meetings" = some (some (.ref CG)))
    (aO : PySem.W.nsIn K mainGlobals "OneToOne" = some (some (.ref CO)))
    (aR : PySem.W.nsIn K mainGlobals "Merged" = some (some (.ref CR)))
    (uS : PySem.W.nsIn K mainGlobals "START" = some (some (.ref tS)))
    (vS : K.lookup tS = some ⟨.type "tuple", odS, .seq #[.str "start" taS, .str "" tbS] nS, slS⟩)
    (uE : PySem.W.nsIn K mainGlobals "END" = some (some (.ref tE)))
    (vE : K.lookup tE = some ⟨.type "tuple", odE, .seq #[.str "end" taE, .str "" tbE] nE, slE⟩)
    (uW : PySem.W.nsIn K mainGlobals "EVEN" = some (some (.ref tW)))
    (vW : K.lookup tW = some ⟨.type "tuple", odW, .seq #[.str "one" taW, .str "" tbW] nW, slW⟩)
    (uD : PySem.W.nsIn K mainGlobals "SIDES" = some (some (.ref tD0)))
    (vD : K.lookup tD0 = some ⟨.type "tuple", odD, .seq #[.str "one" taD, .str "two" tbD] nD, slD⟩)
    (a0 : PySem.W.nsIn K mainGlobals "copied" = some (some (.ref f0)))
    (l0 : K.lookup f0 = some ⟨oc0, od0, .func (PySem.W.fnOf "copied" "copied" (defArgs s_copied) (defBody s_copied) (defScope s_copied) .none kV0 dc0 pm0 an0 cd0 ct0), sl0⟩) (c0 : PySem.W.codeIn K cd0 "copied" = true) (k0 : PySem.W.keepIn K (.ref f0) = true)
    (a1 : PySem.W.nsIn K mainGlobals "equal" = some (some (.ref f1)))
    (l1 : K.lookup f1 = some ⟨oc1, od1, .func (PySem.W.fnOf "equal" "equal" (defArgs s_equal) (defBody s_equal) (defScope s_equal) .none kV1 dc1 pm1 an1 cd1 ct1), sl1⟩) (c1 : PySem.W.codeIn K cd1 "equal" = true) (k1 : PySem.W.keepIn K (.ref f1) = true)
    (a2 : PySem.W.nsIn K mainGlobals "equal_rows" = some (some (.ref f2)))
    (l2 : K.lookup f2 = some ⟨oc2, od2, .func (PySem.W.fnOf "equal_rows" "equal_rows" (defArgs s_equal_rows) (defBody s_equal_rows) (defScope s_equal_rows) .none kV2 dc2 pm2 an2 cd2 ct2), sl2⟩) (c2 : PySem.W.codeIn K cd2 "equal_rows" = true) (k2 : PySem.W.keepIn K (.ref f2) = true)
    (a3 : PySem.W.nsIn K mainGlobals "is_letter" = some (some (.ref f3)))
    (l3 : K.lookup f3 = some ⟨oc3, od3, .func (PySem.W.fnOf "is_letter" "is_letter" (defArgs s_is_letter) (defBody s_is_letter) (defScope s_is_letter) .none kV3 dc3 pm3 an3 cd3 ct3), sl3⟩) (c3 : PySem.W.codeIn K cd3 "is_letter" = true) (k3 : PySem.W.keepIn K (.ref f3) = true)
    (a4 : PySem.W.nsIn K mainGlobals "all_letters" = some (some (.ref f4)))
    (l4 : K.lookup f4 = some ⟨oc4, od4, .func (PySem.W.fnOf "all_letters" "all_letters" (defArgs s_all_letters) (defBody s_all_letters) (defScope s_all_letters) .none kV4 dc4 pm4 an4 cd4 ct4), sl4⟩) (c4 : PySem.W.codeIn K cd4 "all_letters" = true) (k4 : PySem.W.keepIn K (.ref f4) = true)
    (a5 : PySem.W.nsIn K mainGlobals "is_text" = some (some (.ref f5)))
    (l5 : K.lookup f5 = some ⟨oc5, od5, .func (PySem.W.fnOf "is_text" "is_text" (defArgs s_is_text) (defBody s_is_text) (defScope s_is_text) .none kV5 dc5 pm5 an5 cd5 ct5), sl5⟩) (c5 : PySem.W.codeIn K cd5 "is_text" = true) (k5 : PySem.W.keepIn K (.ref f5) = true)
    (a6 : PySem.W.nsIn K mainGlobals "is_image" = some (some (.ref f6)))
    (l6 : K.lookup f6 = some ⟨oc6, od6, .func (PySem.W.fnOf "is_image" "is_image" (defArgs s_is_image) (defBody s_is_image) (defScope s_is_image) .none kV6 dc6 pm6 an6 cd6 ct6), sl6⟩) (c6 : PySem.W.codeIn K cd6 "is_image" = true) (k6 : PySem.W.keepIn K (.ref f6) = true)
    (a7 : PySem.W.nsIn K mainGlobals "told_images" = some (some (.ref f7)))
    (l7 : K.lookup f7 = some ⟨oc7, od7, .func (PySem.W.fnOf "told_images" "told_images" (defArgs s_told_images) (defBody s_told_images) (defScope s_told_images) .none kV7 dc7 pm7 an7 cd7 ct7), sl7⟩) (c7 : PySem.W.codeIn K cd7 "told_images" = true) (k7 : PySem.W.keepIn K (.ref f7) = true)
    (a8 : PySem.W.nsIn K mainGlobals "check_other" = some (some (.ref f8)))
    (l8 : K.lookup f8 = some ⟨oc8, od8, .func (PySem.W.fnOf "check_other" "check_other" (defArgs s_check_other) (defBody s_check_other) (defScope s_check_other) .none kV8 dc8 pm8 an8 cd8 ct8), sl8⟩) (c8 : PySem.W.codeIn K cd8 "check_other" = true) (k8 : PySem.W.keepIn K (.ref f8) = true)
    (a9 : PySem.W.nsIn K mainGlobals "other_side" = some (some (.ref f9)))
    (l9 : K.lookup f9 = some ⟨oc9, od9, .func (PySem.W.fnOf "other_side" "other_side" (defArgs s_other_side) (defBody s_other_side) (defScope s_other_side) .none kV9 dc9 pm9 an9 cd9 ct9), sl9⟩) (c9 : PySem.W.codeIn K cd9 "other_side" = true) (k9 : PySem.W.keepIn K (.ref f9) = true)
    (a10 : PySem.W.nsIn K mainGlobals "place_behind" = some (some (.ref f10)))
    (l10 : K.lookup f10 = some ⟨oc10, od10, .func (PySem.W.fnOf "place_behind" "place_behind" (defArgs s_place_behind) (defBody s_place_behind) (defScope s_place_behind) .none kV10 dc10 pm10 an10 cd10 ct10), sl10⟩) (c10 : PySem.W.codeIn K cd10 "place_behind" = true) (k10 : PySem.W.keepIn K (.ref f10) = true)
    (a11 : PySem.W.nsIn K mainGlobals "moves_from" = some (some (.ref f11)))
    (l11 : K.lookup f11 = some ⟨oc11, od11, .func (PySem.W.fnOf "moves_from" "moves_from" (defArgs s_moves_from) (defBody s_moves_from) (defScope s_moves_from) .none kV11 dc11 pm11 an11 cd11 ct11), sl11⟩) (c11 : PySem.W.codeIn K cd11 "moves_from" = true) (k11 : PySem.W.keepIn K (.ref f11) = true)
    (a12 : PySem.W.nsIn K mainGlobals "with_label" = some (some (.ref f12)))
    (l12 : K.lookup f12 = some ⟨oc12, od12, .func (PySem.W.fnOf "with_label" "with_label" (defArgs s_with_label) (defBody s_with_label) (defScope s_with_label) .none kV12 dc12 pm12 an12 cd12 ct12), sl12⟩) (c12 : PySem.W.codeIn K cd12 "with_label" = true) (k12 : PySem.W.keepIn K (.ref f12) = true)
    (a13 : PySem.W.nsIn K mainGlobals "lead_of" = some (some (.ref f13)))
    (l13 : K.lookup f13 = some ⟨oc13, od13, .func (PySem.W.fnOf "lead_of" "lead_of" (defArgs s_lead_of) (defBody s_lead_of) (defScope s_lead_of) .none kV13 dc13 pm13 an13 cd13 ct13), sl13⟩) (c13 : PySem.W.codeIn K cd13 "lead_of" = true) (k13 : PySem.W.keepIn K (.ref f13) = true)
    (a14 : PySem.W.nsIn K mainGlobals "all_moves" = some (some (.ref f14)))
    (l14 : K.lookup f14 = some ⟨oc14, od14, .func (PySem.W.fnOf "all_moves" "all_moves" (defArgs s_all_moves) (defBody s_all_moves) (defScope s_all_moves) .none kV14 dc14 pm14 an14 cd14 ct14), sl14⟩) (c14 : PySem.W.codeIn K cd14 "all_moves" = true) (k14 : PySem.W.keepIn K (.ref f14) = true)
    (a15 : PySem.W.nsIn K mainGlobals "all_living" = some (some (.ref f15)))
    (l15 : K.lookup f15 = some ⟨oc15, od15, .func (PySem.W.fnOf "all_living" "all_living" (defArgs s_all_living) (defBody s_all_living) (defScope s_all_living) .none kV15 dc15 pm15 an15 cd15 ct15), sl15⟩) (c15 : PySem.W.codeIn K cd15 "all_living" = true) (k15 : PySem.W.keepIn K (.ref f15) = true)
    (a16 : PySem.W.nsIn K mainGlobals "ways_from" = some (some (.ref f16)))
    (l16 : K.lookup f16 = some ⟨oc16, od16, .func (PySem.W.fnOf "ways_from" "ways_from" (defArgs s_ways_from) (defBody s_ways_from) (defScope s_ways_from) .none kV16 dc16 pm16 an16 cd16 ct16), sl16⟩) (c16 : PySem.W.codeIn K cd16 "ways_from" = true) (k16 : PySem.W.keepIn K (.ref f16) = true)
    (a17 : PySem.W.nsIn K mainGlobals "ended" = some (some (.ref f17)))
    (l17 : K.lookup f17 = some ⟨oc17, od17, .func (PySem.W.fnOf "ended" "ended" (defArgs s_ended) (defBody s_ended) (defScope s_ended) .none kV17 dc17 pm17 an17 cd17 ct17), sl17⟩) (c17 : PySem.W.codeIn K cd17 "ended" = true) (k17 : PySem.W.keepIn K (.ref f17) = true)
    (a18 : PySem.W.nsIn K mainGlobals "unlike_meeting" = some (some (.ref f18)))
    (l18 : K.lookup f18 = some ⟨oc18, od18, .func (PySem.W.fnOf "unlike_meeting" "unlike_meeting" (defArgs s_unlike_meeting) (defBody s_unlike_meeting) (defScope s_unlike_meeting) .none kV18 dc18 pm18 an18 cd18 ct18), sl18⟩) (c18 : PySem.W.codeIn K cd18 "unlike_meeting" = true) (k18 : PySem.W.keepIn K (.ref f18) = true)
    (a19 : PySem.W.nsIn K mainGlobals "rests_of" = some (some (.ref f19)))
    (l19 : K.lookup f19 = some ⟨oc19, od19, .func (PySem.W.fnOf "rests_of" "rests_of" (defArgs s_rests_of) (defBody s_rests_of) (defScope s_rests_of) .none kV19 dc19 pm19 an19 cd19 ct19), sl19⟩) (c19 : PySem.W.codeIn K cd19 "rests_of" = true) (k19 : PySem.W.keepIn K (.ref f19) = true)
    (a20 : PySem.W.nsIn K mainGlobals "leads_of" = some (some (.ref f20)))
    (l20 : K.lookup f20 = some ⟨oc20, od20, .func (PySem.W.fnOf "leads_of" "leads_of" (defArgs s_leads_of) (defBody s_leads_of) (defScope s_leads_of) .none kV20 dc20 pm20 an20 cd20 ct20), sl20⟩) (c20 : PySem.W.codeIn K cd20 "leads_of" = true) (k20 : PySem.W.keepIn K (.ref f20) = true)
    (a21 : PySem.W.nsIn K mainGlobals "check_misreading" = some (some (.ref f21)))
    (l21 : K.lookup f21 = some ⟨oc21, od21, .func (PySem.W.fnOf "check_misreading" "check_misreading" (defArgs s_check_misreading) (defBody s_check_misreading) (defScope s_check_misreading) .none kV21 dc21 pm21 an21 cd21 ct21), sl21⟩) (c21 : PySem.W.codeIn K cd21 "check_misreading" = true) (k21 : PySem.W.keepIn K (.ref f21) = true)
    (a22 : PySem.W.nsIn K mainGlobals "check_length" = some (some (.ref f22)))
    (l22 : K.lookup f22 = some ⟨oc22, od22, .func (PySem.W.fnOf "check_length" "check_length" (defArgs s_check_length) (defBody s_check_length) (defScope s_check_length) .none kV22 dc22 pm22 an22 cd22 ct22), sl22⟩) (c22 : PySem.W.codeIn K cd22 "check_length" = true) (k22 : PySem.W.keepIn K (.ref f22) = true)
    (a23 : PySem.W.nsIn K mainGlobals "check_images" = some (some (.ref f23)))
    (l23 : K.lookup f23 = some ⟨oc23, od23, .func (PySem.W.fnOf "check_images" "check_images" (defArgs s_check_images) (defBody s_check_images) (defScope s_check_images) .none kV23 dc23 pm23 an23 cd23 ct23), sl23⟩) (c23 : PySem.W.codeIn K cd23 "check_images" = true) (k23 : PySem.W.keepIn K (.ref f23) = true)
    (a24 : PySem.W.nsIn K mainGlobals "image_pairs" = some (some (.ref f24)))
    (l24 : K.lookup f24 = some ⟨oc24, od24, .func (PySem.W.fnOf "image_pairs" "image_pairs" (defArgs s_image_pairs) (defBody s_image_pairs) (defScope s_image_pairs) .none kV24 dc24 pm24 an24 cd24 ct24), sl24⟩) (c24 : PySem.W.codeIn K cd24 "image_pairs" = true) (k24 : PySem.W.keepIn K (.ref f24) = true)
    (a25 : PySem.W.nsIn K mainGlobals "merging" = some (some (.ref f25)))
    (l25 : K.lookup f25 = some ⟨oc25, od25, .func (PySem.W.fnOf "merging" "merging" (defArgs s_merging) (defBody s_merging) (defScope s_merging) .none kV25 dc25 pm25 an25 cd25 ct25), sl25⟩) (c25 : PySem.W.codeIn K cd25 "merging" = true) (k25 : PySem.W.keepIn K (.ref f25) = true)
    (a26 : PySem.W.nsIn K mainGlobals "shows_merging" = some (some (.ref f26)))
    (l26 : K.lookup f26 = some ⟨oc26, od26, .func (PySem.W.fnOf "shows_merging" "shows_merging" (defArgs s_shows_merging) (defBody s_shows_merging) (defScope s_shows_merging) .none kV26 dc26 pm26 an26 cd26 ct26), sl26⟩) (c26 : PySem.W.codeIn K cd26 "shows_merging" = true) (k26 : PySem.W.keepIn K (.ref f26) = true)
    (a27 : PySem.W.nsIn K mainGlobals "_law_pen" = some (some (.ref f27)))
    (l27 : K.lookup f27 = some ⟨oc27, od27, .func (PySem.W.fnOf "_law_pen" "_law_pen" (defArgs s_pen) (defBody s_pen) (defScope s_pen) .none kV27 dc27 pm27 an27 cd27 ct27), sl27⟩) (c27 : PySem.W.codeIn K cd27 "_law_pen" = true) (k27 : PySem.W.keepIn K (.ref f27) = true)
    (a28 : PySem.W.nsIn K mainGlobals "_law_draw" = some (some (.ref f28)))
    (l28 : K.lookup f28 = some ⟨oc28, od28, .func (PySem.W.fnOf "_law_draw" "_law_draw" (defArgs s_draw) (defBody s_draw) (defScope s_draw) .none kV28 dc28 pm28 an28 cd28 ct28), sl28⟩) (c28 : PySem.W.codeIn K cd28 "_law_draw" = true) (k28 : PySem.W.keepIn K (.ref f28) = true)
    (a29 : PySem.W.nsIn K mainGlobals "_law_pick" = some (some (.ref f29)))
    (l29 : K.lookup f29 = some ⟨oc29, od29, .func (PySem.W.fnOf "_law_pick" "_law_pick" (defArgs s_pick) (defBody s_pick) (defScope s_pick) .none kV29 dc29 pm29 an29 cd29 ct29), sl29⟩) (c29 : PySem.W.codeIn K cd29 "_law_pick" = true) (k29 : PySem.W.keepIn K (.ref f29) = true)
    (a30 : PySem.W.nsIn K mainGlobals "_law_some_letters" = some (some (.ref f30)))
    (l30 : K.lookup f30 = some ⟨oc30, od30, .func (PySem.W.fnOf "_law_some_letters" "_law_some_letters" (defArgs s_some_letters) (defBody s_some_letters) (defScope s_some_letters) .none kV30 dc30 pm30 an30 cd30 ct30), sl30⟩) (c30 : PySem.W.codeIn K cd30 "_law_some_letters" = true) (k30 : PySem.W.keepIn K (.ref f30) = true)
    (a31 : PySem.W.nsIn K mainGlobals "_law_escaped" = some (some (.ref f31)))
    (l31 : K.lookup f31 = some ⟨oc31, od31, .func (PySem.W.fnOf "_law_escaped" "_law_escaped" (defArgs s_escaped) (defBody s_escaped) (defScope s_escaped) .none kV31 dc31 pm31 an31 cd31 ct31), sl31⟩) (c31 : PySem.W.codeIn K cd31 "_law_escaped" = true) (k31 : PySem.W.keepIn K (.ref f31) = true)
    (a32 : PySem.W.nsIn K mainGlobals "_law_any_image" = some (some (.ref f32)))
    (l32 : K.lookup f32 = some ⟨oc32, od32, .func (PySem.W.fnOf "_law_any_image" "_law_any_image" (defArgs s_any_image) (defBody s_any_image) (defScope s_any_image) .none kV32 dc32 pm32 an32 cd32 ct32), sl32⟩) (c32 : PySem.W.codeIn K cd32 "_law_any_image" = true) (k32 : PySem.W.keepIn K (.ref f32) = true)
    (a33 : PySem.W.nsIn K mainGlobals "_law_table" = some (some (.ref f33)))
    (l33 : K.lookup f33 = some ⟨oc33, od33, .func (PySem.W.fnOf "_law_table" "_law_table" (defArgs s_table) (defBody s_table) (defScope s_table) .none kV33 dc33 pm33 an33 cd33 ct33), sl33⟩) (c33 : PySem.W.codeIn K cd33 "_law_table" = true) (k33 : PySem.W.keepIn K (.ref f33) = true)
    (a34 : PySem.W.nsIn K mainGlobals "_law_left" = some (some (.ref f34)))
    (l34 : K.lookup f34 = some ⟨oc34, od34, .func (PySem.W.fnOf "_law_left" "_law_left" (defArgs s__law_left) (defBody s__law_left) (defScope s__law_left) .none kV34 dc34 pm34 an34 cd34 ct34), sl34⟩) (c34 : PySem.W.codeIn K cd34 "_law_left" = true) (k34 : PySem.W.keepIn K (.ref f34) = true)
    (a35 : PySem.W.nsIn K mainGlobals "_law_is_unique" = some (some (.ref f35)))
    (l35 : K.lookup f35 = some ⟨oc35, od35, .func (PySem.W.fnOf "_law_is_unique" "_law_is_unique" (defArgs s__law_is_unique) (defBody s__law_is_unique) (defScope s__law_is_unique) .none kV35 dc35 pm35 an35 cd35 ct35), sl35⟩) (c35 : PySem.W.codeIn K cd35 "_law_is_unique" = true) (k35 : PySem.W.keepIn K (.ref f35) = true)
    (a36 : PySem.W.nsIn K mainGlobals "_law_heard" = some (some (.ref f36)))
    (l36 : K.lookup f36 = some ⟨oc36, od36, .func (PySem.W.fnOf "_law_heard" "_law_heard" (defArgs s_heard) (defBody s_heard) (defScope s_heard) .none kV36 dc36 pm36 an36 cd36 ct36), sl36⟩) (c36 : PySem.W.codeIn K cd36 "_law_heard" = true) (k36 : PySem.W.keepIn K (.ref f36) = true)
    (a37 : PySem.W.nsIn K mainGlobals "_law_right" = some (some (.ref f37)))
    (l37 : K.lookup f37 = some ⟨oc37, od37, .func (PySem.W.fnOf "_law_right" "_law_right" (defArgs s__law_right) (defBody s__law_right) (defScope s__law_right) .none kV37 dc37 pm37 an37 (.ref q1) ct37), sl37⟩) (c37 : PySem.W.codeIn K (.ref q1) "_law_right" = true) (k37 : PySem.W.keepIn K (.ref f37) = true)
    (a38 : PySem.W.nsIn K mainGlobals "law" = some (some (.ref f38)))
    (l38 : K.lookup f38 = some ⟨oc38, od38, .func (PySem.W.fnOf "law" "law" (defArgs s_law) (defBody s_law) (defScope s_law) .none kV38 dc38 pm38 an38 (.ref q2) ct38), sl38⟩) (c38 : PySem.W.codeIn K (.ref q2) "law" = true) (k38 : PySem.W.keepIn K (.ref f38) = true)
    (a39 : PySem.W.findIn K (.ref CM) "first_barred" = some (some (.ref f39)))
    (i39 : PySem.W.isFn K (.ref f39) = true)
    (l39 : K.lookup f39 = some ⟨oc39, od39, .func (PySem.W.fnOf "first_barred" "Misreading.first_barred" (defArgs s_Misreading_first_barred) (defBody s_Misreading_first_barred) (defScope s_Misreading_first_barred) .none kV39 dc39 pm39 an39 cd39 ct39), sl39⟩) (c39 : PySem.W.codeIn K cd39 "Misreading.first_barred" = true) (k39 : PySem.W.keepIn K (.ref f39) = true)
    (n39 : PySem.W.fnIn K f39 = true)
    (a40 : PySem.W.findIn K (.ref CM) "image" = some (some (.ref f40)))
    (i40 : PySem.W.isFn K (.ref f40) = true)
    (l40 : K.lookup f40 = some ⟨oc40, od40, .func (PySem.W.fnOf "image" "Misreading.image" (defArgs s_Misreading_image) (defBody s_Misreading_image) (defScope s_Misreading_image) .none kV40 dc40 pm40 an40 cd40 ct40), sl40⟩) (c40 : PySem.W.codeIn K cd40 "Misreading.image" = true) (k40 : PySem.W.keepIn K (.ref f40) = true)
    (n40 : PySem.W.fnIn K f40 = true)
    (a41 : PySem.W.findIn K (.ref CM) "__rshift__" = some (some (.ref f41)))
    (i41 : PySem.W.isFn K (.ref f41) = true)
    (l41 : K.lookup f41 = some ⟨oc41, od41, .func (PySem.W.fnOf "__rshift__" "Misreading.__rshift__" (defArgs s_Misreading_rshift) (defBody s_Misreading_rshift) (defScope s_Misreading_rshift) .none kV41 dc41 pm41 an41 cd41 ct41), sl41⟩) (c41 : PySem.W.codeIn K cd41 "Misreading.__rshift__" = true) (k41 : PySem.W.keepIn K (.ref f41) = true)
    (n41 : PySem.W.fnIn K f41 = true)
    (a42 : PySem.W.findIn K (.ref CM) "__getitem__" = some (some (.ref f42)))
    (i42 : PySem.W.isFn K (.ref f42) = true)
    (l42 : K.lookup f42 = some ⟨oc42, od42, .func (PySem.W.fnOf "__getitem__" "Misreading.__getitem__" (defArgs s_Misreading_getitem) (defBody s_Misreading_getitem) (defScope s_Misreading_getitem) .none kV42 dc42 pm42 an42 cd42 ct42), sl42⟩) (c42 : PySem.W.codeIn K cd42 "Misreading.__getitem__" = true) (k42 : PySem.W.keepIn K (.ref f42) = true)
    (n42 : PySem.W.fnIn K f42 = true)
    (a43 : PySem.W.findIn K (.ref CM) "__iter__" = some (some (.ref f43)))
    (i43 : PySem.W.isFn K (.ref f43) = true)
    (l43 : K.lookup f43 = some ⟨oc43, od43, .func (PySem.W.fnOf "__iter__" "Misreading.__iter__" (defArgs s_Misreading_iter) (defBody s_Misreading_iter) (defScope s_Misreading_iter) .none kV43 dc43 pm43 an43 cd43 ct43), sl43⟩) (c43 : PySem.W.codeIn K cd43 "Misreading.__iter__" = true) (k43 : PySem.W.keepIn K (.ref f43) = true)
    (n43 : PySem.W.fnIn K f43 = true)
    (a44 : PySem.W.findIn K (.ref CO) "__init__" = some (some (.ref f44)))
    (i44 : PySem.W.isFn K (.ref f44) = true)
    (l44 : K.lookup f44 = some ⟨oc44, od44, .func (PySem.W.fnOf "__init__" "OneToOne.__init__" (defArgs s_OneToOne_init) (defBody s_OneToOne_init) (defScope s_OneToOne_init) .none kV44 dc44 pm44 an44 cd44 ct44), sl44⟩) (c44 : PySem.W.codeIn K cd44 "OneToOne.__init__" = true) (k44 : PySem.W.keepIn K (.ref f44) = true)
    (a45 : PySem.W.findIn K (.ref CO) "__eq__" = some (some (.ref f45)))
    (i45 : PySem.W.isFn K (.ref f45) = true)
    (l45 : K.lookup f45 = some ⟨oc45, od45, .func (PySem.W.fnOf "__eq__" "OneToOne.__eq__" (defArgs s_OneToOne_eq) (defBody s_OneToOne_eq) (defScope s_OneToOne_eq) .none kV45 dc45 pm45 an45 cd45 ct45), sl45⟩) (c45 : PySem.W.codeIn K cd45 "OneToOne.__eq__" = true) (k45 : PySem.W.keepIn K (.ref f45) = true)
    (n45 : PySem.W.fnIn K f45 = true)
    (a46 : PySem.W.findIn K (.ref CO) "__bool__" = some (some (.ref f46)))
    (i46 : PySem.W.isFn K (.ref f46) = true)
    (l46 : K.lookup f46 = some ⟨oc46, od46, .func (PySem.W.fnOf "__bool__" "OneToOne.__bool__" (defArgs s_OneToOne_bool) (defBody s_OneToOne_bool) (defScope s_OneToOne_bool) .none kV46 dc46 pm46 an46 cd46 ct46), sl46⟩) (c46 : PySem.W.codeIn K cd46 "OneToOne.__bool__" = true) (k46 : PySem.W.keepIn K (.ref f46) = true)
    (n46 : PySem.W.fnIn K f46 = true)
    (a47 : PySem.W.findIn K (.ref CR) "__init__" = some (some (.ref f47)))
    (i47 : PySem.W.isFn K (.ref f47) = true)
    (l47 : K.lookup f47 = some ⟨oc47, od47, .func (PySem.W.fnOf "__init__" "Merged.__init__" (defArgs s_Merged_init) (defBody s_Merged_init) (defScope s_Merged_init) .none kV47 dc47 pm47 an47 cd47 ct47), sl47⟩) (c47 : PySem.W.codeIn K cd47 "Merged.__init__" = true) (k47 : PySem.W.keepIn K (.ref f47) = true)
    (a48 : PySem.W.findIn K (.ref CR) "__bool__" = some (some (.ref f48)))
    (i48 : PySem.W.isFn K (.ref f48) = true)
    (l48 : K.lookup f48 = some ⟨oc48, od48, .func (PySem.W.fnOf "__bool__" "Merged.__bool__" (defArgs s_Merged_bool) (defBody s_Merged_bool) (defScope s_Merged_bool) .none kV48 dc48 pm48 an48 cd48 ct48), sl48⟩) (c48 : PySem.W.codeIn K cd48 "Merged.__bool__" = true) (k48 : PySem.W.keepIn K (.ref f48) = true)
    (n48 : PySem.W.fnIn K f48 = true)
    (a49 : PySem.W.findIn K (.ref CG) "__init__" = some (some (.ref f49)))
    (i49 : PySem.W.isFn K (.ref f49) = true)
    (l49 : K.lookup f49 = some ⟨oc49, od49, .func (PySem.W.fnOf "__init__" "Meetings.__init__" (defArgs s_Meetings_init) (defBody s_Meetings_init) (defScope s_Meetings_init) .none kV49 dc49 pm49 an49 cd49 ct49), sl49⟩) (c49 : PySem.W.codeIn K cd49 "Meetings.__init__" = true) (k49 : PySem.W.keepIn K (.ref f49) = true)
    (a50 : PySem.W.findIn K (.ref CM) "__init__" = some (some (.ref f50)))
    (i50 : PySem.W.isFn K (.ref f50) = true)
    (l50 : K.lookup f50 = some ⟨oc50, od50, .func (PySem.W.fnOf "__init__" "Misreading.__init__" (defArgs s_Misreading_init) (defBody s_Misreading_init) (defScope s_Misreading_init) (.ref TI) kV50 dc50 pm50 an50 cd50 ct50), sl50⟩) (c50 : PySem.W.codeIn K cd50 "Misreading.__init__" = true) (k50 : PySem.W.keepIn K (.ref f50) = true)
    (tI : K.lookup TI = some ⟨ocT, odT, .seq #[.str "" tkT] nT, slT⟩)
    (a51 : PySem.W.findIn K (.ref CJ) "__init__" = some (some (.ref f51)))
    (i51 : PySem.W.isFn K (.ref f51) = true)
    (l51 : K.lookup f51 = some ⟨oc51, od51, .func (PySem.W.fnOf "__init__" "Joined.__init__" (defArgs s_Joined_init) (defBody s_Joined_init) (defScope s_Joined_init) .none kV51 dc51 pm51 an51 cd51 ct51), sl51⟩) (c51 : PySem.W.codeIn K cd51 "Joined.__init__" = true) (k51 : PySem.W.keepIn K (.ref f51) = true)
    (aX : PySem.W.nsIn K mainGlobals "RepairError" = some (some (.ref CE)))
    (a_BadTable : PySem.W.nsIn K mainGlobals "BadTable" = some (some (.ref B0)))
    (a_TooMany : PySem.W.nsIn K mainGlobals "TooMany" = some (some (.ref B1)))
    (a52 : PySem.W.findIn K (.ref B0) "__init__" = some (some (.ref f52)))
    (y52 : PySem.W.typeIn K (.ref f52) = some (.type "function"))
    (l52 : K.lookup f52 = some ⟨oc52, od52, .func (PySem.W.fnOf "__init__" "BadTable.__init__" (defArgs s_BadTable_init) (defBody s_BadTable_init) (defScope s_BadTable_init) .none kV52 dc52 pm52 an52 cd52 ct52), sl52⟩) (c52 : PySem.W.codeIn K cd52 "BadTable.__init__" = true) (k52 : PySem.W.keepIn K (.ref f52) = true)
    (a53 : PySem.W.findIn K (.ref B1) "__init__" = some (some (.ref f53)))
    (y53 : PySem.W.typeIn K (.ref f53) = some (.type "function"))
    (l53 : K.lookup f53 = some ⟨oc53, od53, .func (PySem.W.fnOf "__init__" "TooMany.__init__" (defArgs s_TooMany_init) (defBody s_TooMany_init) (defScope s_TooMany_init) .none kV53 dc53 pm53 an53 cd53 ct53), sl53⟩) (c53 : PySem.W.codeIn K cd53 "TooMany.__init__" = true) (k53 : PySem.W.keepIn K (.ref f53) = true)
    (x_BadTable : K.lookup B0 = some (excClassObj nm0 qq0 B0 N0 bs0 [.ref CE, .type "ValueError", .type "Exception", .type "BaseException", .type "object"] true sn0 sub0 ab0 col0 dd0 m00 m01 m02 m03 m05 "ValueError.__new__"))
    (s_BadTable : PySem.W.findIn K (.ref B0) "__setattr__" = some (some (.builtin "object.__setattr__")))
    (k_BadTable : PySem.W.keepIn K (.ref B0) = true)
    (hg_BadTable : PySem.W.findIn K (.ref B0) "__getattribute__" = some (some (.builtin "BaseException.__getattribute__")))
    (hk_BadTable : PySem.W.findIn K (.ref B0) "__getattr__" = some none)
    (ha_BadTable : PySem.W.findIn K (.ref B0) "__class__" = some (some (.builtin "object.__class__")))
    (n_BadTable_part : PySem.W.findIn K (.ref B0) "part" = some none)
    (x_TooMany : K.lookup B1 = some (excClassObj nm1 qq1 B1 N1 bs1 [.ref CE, .type "ValueError", .type "Exception", .type "BaseException", .type "object"] true sn1 sub1 ab1 col1 dd1 m10 m11 m12 m13 m15 "ValueError.__new__"))
    (s_TooMany : PySem.W.findIn K (.ref B1) "__setattr__" = some (some (.builtin "object.__setattr__")))
    (k_TooMany : PySem.W.keepIn K (.ref B1) = true)
    (hg_TooMany : PySem.W.findIn K (.ref B1) "__getattribute__" = some (some (.builtin "BaseException.__getattribute__")))
    (hk_TooMany : PySem.W.findIn K (.ref B1) "__getattr__" = some none)
    (ha_TooMany : PySem.W.findIn K (.ref B1) "__class__" = some (some (.builtin "object.__class__")))
    (n_TooMany_what : PySem.W.findIn K (.ref B1) "what" = some none)
    (n_TooMany_most : PySem.W.findIn K (.ref B1) "most" = some none)
    (eR : PySem.W.subIn K (.ref CE) (.type "BaseException") = some true)
    (tyR : PySem.W.typeIn K (.ref CE) = some (.type "type"))
    (iR : PySem.W.isClsIn K CE = true)
    (rdR : PySem.W.readsIn K CE (.type "type") = true)
    (gaR : PySem.W.specialIn K (.ref CE) "__getattribute__" = some (some (.builtin "type.__getattribute__")))
    (vR : PySem.W.findCls K (.ref CE) (.type "type") "__init__" = some (.val (.builtin "ValueError.__init__")))
    (nd : (CE :: ([B0, B1] : List Addr)).Nodup)
    (qc1 : K.lookup q1 = some ⟨.type "code", qd1, .fields vs1, qs1⟩)
    (qv1 : vs1[11]? = some (.ref p1))
    (qa1 : vs1.getD 18 .none = .str qf1 qt1)
    (qb1 : vs1.getD 7 .none = .int ql1 qm1)
    (qe1 : vs1.getD 9 .none = .bool qi1)
    (qg1 : vs1.getD 10 .none = .int qx1 qy1)
    (qn1 : (q1 == p1) = false)
    (qk1 : K.lookup p1 = none)
    (qc2 : K.lookup q2 = some ⟨.type "code", qd2, .fields vs2, qs2⟩)
    (qv2 : vs2[11]? = some (.ref p2))
    (qa2 : vs2.getD 18 .none = .str qf2 qt2)
    (qb2 : vs2.getD 7 .none = .int ql2 qm2)
    (qe2 : vs2.getD 9 .none = .bool qi2)
    (qg2 : vs2.getD 10 .none = .int qx2 qy2)
    (qn2 : (q2 == p2) = false)
    (qk2 : K.lookup p2 = none)
    (pp12 : (p1 == p2) = false)
    (rd : PySem.W.readsIn K CM (.type "type") = true)
    (ga : PySem.W.specialIn K (.ref CM) "__getattribute__" = some (some (.builtin "type.__getattribute__")))
    (pg : PySem.W.plainGet K CM Str.empty = true)
    (hd : PySem.W.hasDictIn K CM = true)
    (po : PySem.W.plainOver K CM = true)
    (sa : PySem.W.findIn K (.ref CM) "__setattr__" = some (some (.builtin "object.__setattr__")))
    (mk : PySem.W.makesIn K CM = true)
    (kc : PySem.W.keepIn K (.ref CM) = true)
    (sf : PySem.W.selfFirst K CM = true)
    (nL : PySem.W.findIn K (.ref CM) "_letters" = some none)
    (nI : PySem.W.findIn K (.ref CM) "_images" = some none)
    (nC : PySem.W.findIn K (.ref CM) "changed" = some none)
    (tA : PySem.W.findIn K (.ref CM) "__class__" = some (some (.builtin "object.__class__")))
    (tD : PySem.W.mroIn K CM (.type "object") = some true)
    (ne : PySem.W.findIn K (.ref CM) "__ne__" = some (some (.builtin "object.__ne__")))
    (tB : PySem.W.specialIn K (.builtin "object.__class__") "__get__" = some (some (.builtin "getset_descriptor.__get__")))
    (tC : PySem.W.takesIn K (.builtin "object.__class__") = some true)
    (rp : PySem.W.findIn K (.ref CM) "__rpow__" = some none)
    (h1 : PySem.W.findIn K (.type "int") "__pow__" = some poI)
    (h2 : PySem.W.findIn K (.type "int") "__rpow__" = some roI)
    (os_int : PySem.W.subIn K (.type "int") (.ref CM) = some false)
    (ow_int : PySem.W.notFirst K CM (.type "int") = true)
    (ow_str : PySem.W.notFirst K CM (.type "str") = true)
    (ow_dict : PySem.W.notFirst K CM (.type "dict") = true)
    (pgJ : PySem.W.plainGet K CJ Str.empty = true)
    (hdJ : PySem.W.hasDictIn K CJ = true)
    (poJ : PySem.W.plainOver K CJ = true)
    (saJ : PySem.W.findIn K (.ref CJ) "__setattr__" = some (some (.builtin "object.__setattr__")))
    (mkJ : PySem.W.makesIn K CJ = true)
    (kcJ : PySem.W.keepIn K (.ref CJ) = true)
    (nJ : PySem.W.findIn K (.ref CJ) "images" = some none)
    (jA : PySem.W.findIn K (.ref CJ) "__class__" = some (some (.builtin "object.__class__")))
    (jD : PySem.W.mroIn K CJ (.type "object") = some true)
    (pgO : PySem.W.plainGet K CO Str.empty = true)
    (hdO : PySem.W.hasDictIn K CO = true)
    (poO : PySem.W.plainOver K CO = true)
    (saO : PySem.W.findIn K (.ref CO) "__setattr__" = some (some (.builtin "object.__setattr__")))
    (mkO : PySem.W.makesIn K CO = true)
    (kcO : PySem.W.keepIn K (.ref CO) = true)
    (tAO : PySem.W.findIn K (.ref CO) "__class__" = some (some (.builtin "object.__class__")))
    (tDO : PySem.W.mroIn K CO (.type "object") = some true)
    (neO : PySem.W.findIn K (.ref CO) "__ne__" = some (some (.builtin "object.__ne__")))
    (pgR : PySem.W.plainGet K CR Str.empty = true)
    (hdR : PySem.W.hasDictIn K CR = true)
    (poR : PySem.W.plainOver K CR = true)
    (saR : PySem.W.findIn K (.ref CR) "__setattr__" = some (some (.builtin "object.__setattr__")))
    (mkR : PySem.W.makesIn K CR = true)
    (kcR : PySem.W.keepIn K (.ref CR) = true)
    (tAR : PySem.W.findIn K (.ref CR) "__class__" = some (some (.builtin "object.__class__")))
    (tDR : PySem.W.mroIn K CR (.type "object") = some true)
    (neR : PySem.W.findIn K (.ref CR) "__ne__" = some (some (.builtin "object.__ne__")))
    (pgG : PySem.W.plainGet K CG Str.empty = true)
    (hdG : PySem.W.hasDictIn K CG = true)
    (poG : PySem.W.plainOver K CG = true)
    (saG : PySem.W.findIn K (.ref CG) "__setattr__" = some (some (.builtin "object.__setattr__")))
    (mkG : PySem.W.makesIn K CG = true)
    (kcG : PySem.W.keepIn K (.ref CG) = true)
    (nO1 : PySem.W.findIn K (.ref CO) "leads" = some none)
    (nO2 : PySem.W.findIn K (.ref CO) "dead" = some none)
    (nR1 : PySem.W.findIn K (.ref CR) "one" = some none)
    (nR2 : PySem.W.findIn K (.ref CR) "other" = some none)
    (nG1 : PySem.W.findIn K (.ref CG) "moves" = some none)
    (nG2 : PySem.W.findIn K (.ref CG) "living" = some none)
    (nG3 : PySem.W.findIn K (.ref CG) "ways" = some none)
    (nfO : PySem.W.notFirst K CO (.ref CO) = true)
    (ok_int : PySem.W.kitOne K (.type "int") (.ref CM) = some false)
    (ok_str : PySem.W.kitOne K (.type "str") (.ref CM) = some false)
    (ok_dict : PySem.W.kitOne K (.type "dict") (.ref CM) = some false)
    (kdJ : PySem.W.kitOne K (.type "dict") (.ref CJ) = some false)
    (kMM : PySem.W.kitOne K (.ref CM) (.ref CM) = some true)
    (kMJ : PySem.W.kitOne K (.ref CM) (.ref CJ) = some false)
    (kMs : PySem.W.kitOne K (.ref CM) (.type "str") = some false)
    (kls : PySem.W.kitOne K (.type "list") (.type "str") = some false)
    (kJJ : PySem.W.kitOne K (.ref CJ) (.ref CJ) = some true)
    (kn_NoneType_M : PySem.W.kitOne K (.type "NoneType") (.ref CM) = some false)
    (kn_NoneType_O : PySem.W.kitOne K (.type "NoneType") (.ref CO) = some false)
    (kn_NoneType_R : PySem.W.kitOne K (.type "NoneType") (.ref CR) = some false)
    (kn_int_M : PySem.W.kitOne K (.type "int") (.ref CM) = some false)
    (kn_int_O : PySem.W.kitOne K (.type "int") (.ref CO) = some false)
    (kn_int_R : PySem.W.kitOne K (.type "int") (.ref CR) = some false)
    (kn_bool_M : PySem.W.kitOne K (.type "bool") (.ref CM) = some false)
    (kn_bool_O : PySem.W.kitOne K (.type "bool") (.ref CO) = some false)
    (kn_bool_R : PySem.W.kitOne K (.type "bool") (.ref CR) = some false)
    (kn_str_M : PySem.W.kitOne K (.type "str") (.ref CM) = some false)
    (kn_str_O : PySem.W.kitOne K (.type "str") (.ref CO) = some false)
    (kn_str_R : PySem.W.kitOne K (.type "str") (.ref CR) = some false)
    (kn_dict_M : PySem.W.kitOne K (.type "dict") (.ref CM) = some false)
    (kn_dict_O : PySem.W.kitOne K (.type "dict") (.ref CO) = some false)
    (kn_dict_R : PySem.W.kitOne K (.type "dict") (.ref CR) = some false)
    (kn_tuple_M : PySem.W.kitOne K (.type "tuple") (.ref CM) = some false)
    (kn_tuple_O : PySem.W.kitOne K (.type "tuple") (.ref CO) = some false)
    (kn_tuple_R : PySem.W.kitOne K (.type "tuple") (.ref CR) = some false)
    (kn_list_M : PySem.W.kitOne K (.type "list") (.ref CM) = some false)
    (kn_list_O : PySem.W.kitOne K (.type "list") (.ref CO) = some false)
    (kn_list_R : PySem.W.kitOne K (.type "list") (.ref CR) = some false)
    (kOO : PySem.W.kitOne K (.ref CO) (.ref CO) = some true)
    (kRR : PySem.W.kitOne K (.ref CR) (.ref CR) = some true)
    (g1 : PySem.W.nsIn K mainGlobals "LETTERS" = some (some (.str "abcdefghijklmnopqrstuvwxyz" tk1)))
    (g2 : PySem.W.nsIn K mainGlobals "LONGEST" = some (some (.int 2000 tk2)))
    (g3 : PySem.W.nsIn K mainGlobals "LONGEST_TOLD" = some (some (.int 4 tk3)))
    (g4 : PySem.W.nsIn K mainGlobals "MOST_LETTERS" = some (some (.int 12 tk4)))
    (g5 : PySem.W.nsIn K mainGlobals "LONGEST_JOINED" = some (some (.int 64 tk5)))
    (g6 : PySem.W.nsIn K mainGlobals "LONGEST_IMAGE" = some (some (.int 8 tk6)))
    (z_list : PySem.W.nsIn K mainGlobals "list" = some none)
    (z_int : PySem.W.nsIn K mainGlobals "int" = some none)
    (z_len : PySem.W.nsIn K mainGlobals "len" = some none)
    (z_abs : PySem.W.nsIn K mainGlobals "abs" = some none)
    (z_range : PySem.W.nsIn K mainGlobals "range" = some none)
    (z_dict : PySem.W.nsIn K mainGlobals "dict" = some none)
    (z_str : PySem.W.nsIn K mainGlobals "str" = some none)
    (z_sorted : PySem.W.nsIn K mainGlobals "sorted" = some none)
    (z_tuple : PySem.W.nsIn K mainGlobals "tuple" = some none)
    (z_isinstance : PySem.W.nsIn K mainGlobals "isinstance" = some none)
    (z_iter : PySem.W.nsIn K mainGlobals "iter" = some none)
    (z_enumerate : PySem.W.nsIn K mainGlobals "enumerate" = some none)
    (z_all : PySem.W.nsIn K mainGlobals "all" = some none)
    (z_bool : PySem.W.nsIn K mainGlobals "bool" = some none)
    (z_any : PySem.W.nsIn K mainGlobals "any" = some none)
    (z_zip : PySem.W.nsIn K mainGlobals "zip" = some none)
    (z_set : PySem.W.nsIn K mainGlobals "set" = some none)
    (z_repr : PySem.W.nsIn K mainGlobals "repr" = some none) :
    ∃ fd cs sp, LawG l w K 13 mg fa h fd cs sp := by
  have e := hfa.symm.trans (PySem.W.mg_of X G a38)
  cases e
  have B : Blt mg := ⟨PySem.W.mg_none_of X G z_list, PySem.W.mg_none_of X G z_int, PySem.W.mg_none_of X G z_len, PySem.W.mg_none_of X G z_abs, PySem.W.mg_none_of X G z_range, PySem.W.mg_none_of X G z_dict, PySem.W.mg_none_of X G z_str, PySem.W.mg_none_of X G z_sorted, PySem.W.mg_none_of X G z_tuple⟩
  have T1 : Tx K mg CM CJ := ⟨B, PySem.W.mg_none_of X G z_isinstance, PySem.W.mg_none_of X G z_iter, ⟨_, PySem.W.mg_of X G g1, ⟨tk1, rfl⟩⟩, ⟨_, PySem.W.mg_of X G g2, ⟨tk2, rfl⟩⟩, ⟨_, PySem.W.mg_of X G g3, ⟨tk3, rfl⟩⟩, ⟨_, PySem.W.mg_of X G g4, ⟨tk4, rfl⟩⟩,
    ⟨_, PySem.W.mg_of X G aC, rfl⟩, ⟨_, PySem.W.mg_of X G aJ, rfl⟩, kdJ, ok_dict, ok_str, ok_int, ⟨pg, hd, po, sa⟩, nL, nI, nC, tA, tB, tC, tD, ne, ow_dict, ow_str, ow_int⟩
  have T2 : Ty K mg CM CJ := ⟨T1, kMM, kMJ, kMs, kls⟩
  have T : Tz K mg CM CJ := ⟨T2, PySem.W.mg_none_of X G z_enumerate, PySem.W.mg_none_of X G z_all, PySem.W.mg_none_of X G z_bool, ⟨_, PySem.W.mg_of X G g5, ⟨tk5, rfl⟩⟩, ⟨pgJ, hdJ, poJ, saJ⟩, nJ, jA, jD, ⟨rp, ⟨_, h1⟩, ⟨_, h2⟩, os_int⟩, kJJ⟩
  have Tp1 : Tp K mg CM CJ := ⟨T, PySem.W.mg_none_of X G z_any, ⟨_, PySem.W.mg_of X G g6, ⟨tk6, rfl⟩⟩⟩
  have Tu1 : Tu K mg CM CJ := ⟨T, PySem.W.mg_none_of X G z_set⟩
  have Tm1 : Tm mg tS tE tW := ⟨B, ⟨_, PySem.W.mg_of X G uS, rfl⟩, ⟨_, PySem.W.mg_of X G uE, rfl⟩, ⟨_, PySem.W.mg_of X G uW, rfl⟩, PySem.W.mg_none_of X G z_any⟩
  have Tn1 : Tn K mg tS tE tW CG := ⟨Tm1, ⟨pgG, hdG, poG, saG⟩, nG1, nG2, nG3⟩
  have Tq1 : Tq mg := ⟨B, PySem.W.mg_none_of X G z_isinstance, PySem.W.mg_none_of X G z_repr, PySem.W.mg_none_of X G z_enumerate⟩
  have Te1 : Te mg := ⟨Tq1, PySem.W.mg_none_of X G z_bool, PySem.W.mg_none_of X G z_all, PySem.W.mg_none_of X G z_zip⟩
  have clM : Cls K CM := ⟨pg, hd, po, sa⟩
  have clO : Cls K CO := ⟨pgO, hdO, poO, saO⟩
  have clR : Cls K CR := ⟨pgR, hdR, poR, saR⟩
  have Tv1 : Tv K mg CO CR := ⟨Te1, clO, clR, nO1, nO2, nR1, nR2, ⟨_, PySem.W.mg_of X G aO, rfl⟩, ⟨_, PySem.W.mg_of X G aR, rfl⟩, fun _ _ _ _ hx => .base (.ins hx clO tAO tB tC tDO), fun _ _ _ _ hx => .base (.ins hx clR tAR tB tC tDR), kOO, kRR⟩
  have Ts2 : Tsm K mg CM CJ CO CR := ⟨T, ⟨_, PySem.W.mg_of X G aO, rfl⟩, ⟨_, PySem.W.mg_of X G aR, rfl⟩⟩
  have TBx : Tb K mg CE := ⟨PySem.W.mg_of X G aX, ⟨rdR, gaR⟩, vR⟩
  have kN : ∀ n ∈ (["NoneType", "int", "bool", "str", "dict", "tuple", "list"] : List String), ∀ C ∈ [CM, CO, CR], PySem.W.kitOne K (.type n) (.ref C) = some false := fun n hn C hC => by
    simp only [List.mem_cons, List.not_mem_nil, or_false] at hn hC
    rcases hn with rfl | rfl | rfl | rfl | rfl | rfl | rfl <;> rcases hC with rfl | rfl | rfl <;> assumption
  have hSD : GV mg "SIDES" (.ref tD0) := ⟨_, PySem.W.mg_of X G uD, rfl⟩
  have F0 := fun_mk (st := s_copied) l0 c0 k0
  have b0 := F0.binds (ps := ["value"]) fun _ _ _ _ _ _ us hl => match us, hl with | [_], _ => rfl
  have F1 := fun_mk (st := s_equal) l1 c1 k1
  have b1 := F1.binds (ps := ["one", "other"]) fun _ _ _ _ _ _ us hl => match us, hl with | [_, _], _ => rfl
  have F2 := fun_mk (st := s_equal_rows) l2 c2 k2
  have b2 := F2.binds (ps := ["one", "other"]) fun _ _ _ _ _ _ us hl => match us, hl with | [_, _], _ => rfl
  have F3 := fun_mk (st := s_is_letter) l3 c3 k3
  have b3 := F3.binds (ps := ["value"]) fun _ _ _ _ _ _ us hl => match us, hl with | [_], _ => rfl
  have F4 := fun_mk (st := s_all_letters) l4 c4 k4
  have b4 := F4.binds (ps := ["string"]) fun _ _ _ _ _ _ us hl => match us, hl with | [_], _ => rfl
  have F5 := fun_mk (st := s_is_text) l5 c5 k5
  have b5 := F5.binds (ps := ["value"]) fun _ _ _ _ _ _ us hl => match us, hl with | [_], _ => rfl
  have F6 := fun_mk (st := s_is_image) l6 c6 k6
  have b6 := F6.binds (ps := ["value"]) fun _ _ _ _ _ _ us hl => match us, hl with | [_], _ => rfl
  have F7 := fun_mk (st := s_told_images) l7 c7 k7
  have b7 := F7.binds (ps := ["images", "keeps"]) fun _ _ _ _ _ _ us hl => match us, hl with | [_, _], _ => rfl
  have F8 := fun_mk (st := s_check_other) l8 c8 k8
  have b8 := F8.binds (ps := ["other"]) fun _ _ _ _ _ _ us hl => match us, hl with | [_], _ => rfl
  have F9 := fun_mk (st := s_other_side) l9 c9 k9
  have b9 := F9.binds (ps := ["side"]) fun _ _ _ _ _ _ us hl => match us, hl with | [_], _ => rfl
  have F10 := fun_mk (st := s_place_behind) l10 c10 k10
  have b10 := F10.binds (ps := ["ahead", "rest", "word"]) fun _ _ _ _ _ _ us hl => match us, hl with | [_, _, _], _ => rfl
  have F11 := fun_mk (st := s_moves_from) l11 c11 k11
  have b11 := F11.binds (ps := ["first", "second", "place"]) fun _ _ _ _ _ _ us hl => match us, hl with | [_, _, _], _ => rfl
  have F12 := fun_mk (st := s_with_label) l12 c12 k12
  have b12 := F12.binds (ps := ["way", "taker", "label"]) fun _ _ _ _ _ _ us hl => match us, hl with | [_, _, _], _ => rfl
  have F13 := fun_mk (st := s_lead_of) l13 c13 k13
  have b13 := F13.binds (ps := ["way"]) fun _ _ _ _ _ _ us hl => match us, hl with | [_], _ => rfl
  have F14 := fun_mk (st := s_all_moves) l14 c14 k14
  have b14 := F14.binds (ps := ["first", "second"]) fun _ _ _ _ _ _ us hl => match us, hl with | [_, _], _ => rfl
  have F15 := fun_mk (st := s_all_living) l15 c15 k15
  have b15 := F15.binds (ps := ["moves"]) fun _ _ _ _ _ _ us hl => match us, hl with | [_], _ => rfl
  have F16 := fun_mk (st := s_ways_from) l16 c16 k16
  have b16 := F16.binds (ps := ["moves", "place"]) fun _ _ _ _ _ _ us hl => match us, hl with | [_, _], _ => rfl
  have F17 := fun_mk (st := s_ended) l17 c17 k17
  have b17 := F17.binds (ps := ["meetings", "way", "place"]) fun _ _ _ _ _ _ us hl => match us, hl with | [_, _, _], _ => rfl
  have F18 := fun_mk (st := s_unlike_meeting) l18 c18 k18
  have b18 := F18.binds (ps := ["meetings"]) fun _ _ _ _ _ _ us hl => match us, hl with | [_], _ => rfl
  have F19 := fun_mk (st := s_rests_of) l19 c19 k19
  have b19 := F19.binds (ps := ["meetings", "living"]) fun _ _ _ _ _ _ us hl => match us, hl with | [_, _], _ => rfl
  have F20 := fun_mk (st := s_leads_of) l20 c20 k20
  have b20 := F20.binds (ps := ["meetings"]) fun _ _ _ _ _ _ us hl => match us, hl with | [_], _ => rfl
  have F21 := fun_mk (st := s_check_misreading) l21 c21 k21
  have b21 := F21.binds (ps := ["value"]) fun _ _ _ _ _ _ us hl => match us, hl with | [_], _ => rfl
  have F22 := fun_mk (st := s_check_length) l22 c22 k22
  have b22 := F22.binds (ps := ["misreading"]) fun _ _ _ _ _ _ us hl => match us, hl with | [_], _ => rfl
  have F23 := fun_mk (st := s_check_images) l23 c23 k23
  have b23 := F23.binds (ps := ["misreading"]) fun _ _ _ _ _ _ us hl => match us, hl with | [_], _ => rfl
  have F24 := fun_mk (st := s_image_pairs) l24 c24 k24
  have b24 := F24.binds (ps := ["misreading"]) fun _ _ _ _ _ _ us hl => match us, hl with | [_], _ => rfl
  have F25 := fun_mk (st := s_merging) l25 c25 k25
  have b25 := F25.binds (ps := ["misreading"]) fun _ _ _ _ _ _ us hl => match us, hl with | [_], _ => rfl
  have F26 := fun_mk (st := s_shows_merging) l26 c26 k26
  have b26 := F26.binds (ps := ["misreading", "value"]) fun _ _ _ _ _ _ us hl => match us, hl with | [_, _], _ => rfl
  have F27 := fun_mk (st := s_pen) l27 c27 k27
  have b27 := F27.binds (ps := ["_law_script"]) fun _ _ _ _ _ _ us hl => match us, hl with | [_], _ => rfl
  have F28 := fun_mk (st := s_draw) l28 c28 k28
  have b28 := F28.binds (ps := ["_law_pen_here", "_law_many"]) fun _ _ _ _ _ _ us hl => match us, hl with | [_, _], _ => rfl
  have F29 := fun_mk (st := s_pick) l29 c29 k29
  have b29 := F29.binds (ps := ["_law_pen_here", "_law_some"]) fun _ _ _ _ _ _ us hl => match us, hl with | [_, _], _ => rfl
  have F30 := fun_mk (st := s_some_letters) l30 c30 k30
  have b30 := F30.binds (ps := ["_law_pen_here", "_law_many"]) fun _ _ _ _ _ _ us hl => match us, hl with | [_, _], _ => rfl
  have F31 := fun_mk (st := s_escaped) l31 c31 k31
  have b31 := F31.binds (ps := ["_law_pen_here", "_law_some"]) fun _ _ _ _ _ _ us hl => match us, hl with | [_, _], _ => rfl
  have F32 := fun_mk (st := s_any_image) l32 c32 k32
  have b32 := F32.binds (ps := ["_law_pen_here", "_law_some"]) fun _ _ _ _ _ _ us hl => match us, hl with | [_, _], _ => rfl
  have F33 := fun_mk (st := s_table) l33 c33 k33
  have b33 := F33.binds (ps := ["_law_pen_here", "_law_some"]) fun _ _ _ _ _ _ us hl => match us, hl with | [_, _], _ => rfl
  have F34 := fun_mk (st := s__law_left) l34 c34 k34
  have b34 := F34.binds (ps := ["_law_words"]) fun _ _ _ _ _ _ us hl => match us, hl with | [_], _ => rfl
  have F35 := fun_mk (st := s__law_is_unique) l35 c35 k35
  have b35 := F35.binds (ps := ["_law_table_here"]) fun _ _ _ _ _ _ us hl => match us, hl with | [_], _ => rfl
  have F36 := fun_mk (st := s_heard) l36 c36 k36
  have b36 := F36.binds (ps := ["_law_ask"]) fun _ _ _ _ _ _ us hl => match us, hl with | [_], _ => rfl
  have F37 := fun_mk (st := s__law_right) l37 c37 k37
  have b37 := F37.binds (ps := ["_law_made", "_law_paper"]) fun _ _ _ _ _ _ us hl => match us, hl with | [_, _], _ => rfl
  have F38 := fun_mk (st := s_law) l38 c38 k38
  have F39 := fun_mk (st := s_Misreading_first_barred) l39 c39 k39
  have b39 := F39.binds (ps := ["self", "text"]) fun _ _ _ _ _ _ us hl => match us, hl with | [_, _], _ => rfl
  have F40 := fun_mk (st := s_Misreading_image) l40 c40 k40
  have b40 := F40.binds (ps := ["self", "text"]) fun _ _ _ _ _ _ us hl => match us, hl with | [_, _], _ => rfl
  have F41 := fun_mk (st := s_Misreading_rshift) l41 c41 k41
  have b41 := F41.binds (ps := ["self", "other"]) fun _ _ _ _ _ _ us hl => match us, hl with | [_, _], _ => rfl
  have F42 := fun_mk (st := s_Misreading_getitem) l42 c42 k42
  have b42 := F42.binds (ps := ["self", "at"]) fun _ _ _ _ _ _ us hl => match us, hl with | [_, _], _ => rfl
  have F43 := fun_mk (st := s_Misreading_iter) l43 c43 k43
  have b43 := F43.binds (ps := ["self"]) fun _ _ _ _ _ _ us hl => match us, hl with | [_], _ => rfl
  have F44 := fun_mk (st := s_OneToOne_init) l44 c44 k44
  have b44 := F44.binds (ps := ["self", "leads", "dead"]) fun _ _ _ _ _ _ us hl => match us, hl with | [_, _, _], _ => rfl
  have F45 := fun_mk (st := s_OneToOne_eq) l45 c45 k45
  have b45 := F45.binds (ps := ["self", "other"]) fun _ _ _ _ _ _ us hl => match us, hl with | [_, _], _ => rfl
  have F46 := fun_mk (st := s_OneToOne_bool) l46 c46 k46
  have b46 := F46.binds (ps := ["self"]) fun _ _ _ _ _ _ us hl => match us, hl with | [_], _ => rfl
  have F47 := fun_mk (st := s_Merged_init) l47 c47 k47
  have b47 := F47.binds (ps := ["self", "one", "other"]) fun _ _ _ _ _ _ us hl => match us, hl with | [_, _, _], _ => rfl
  have F48 := fun_mk (st := s_Merged_bool) l48 c48 k48
  have b48 := F48.binds (ps := ["self"]) fun _ _ _ _ _ _ us hl => match us, hl with | [_], _ => rfl
  have F49 := fun_mk (st := s_Meetings_init) l49 c49 k49
  have b49 := F49.binds (ps := ["self", "first", "second"]) fun _ _ _ _ _ _ us hl => match us, hl with | [_, _, _], _ => rfl
  have ee : ("" : Str) = Sx [] := by decide +kernel
  have F50 : FunD K "__init__" "Misreading.__init__" (defArgs s_Misreading_init) (defBody s_Misreading_init) (defScope s_Misreading_init) [.str (Sx [])] [] f50 _ := ⟨⟨oc50, od50, .ref TI, kV50, dc50, pm50, an50, cd50, ct50, sl50, rfl, l50, c50, .inr ⟨(fun z => nomatch z), TI, _, [.str "" tkT], nT, rfl, tI, rfl, .cons ⟨tkT, by rw [← ee]⟩ .nil⟩, .inl rfl⟩, k50⟩
  have F51 := fun_mk (st := s_Joined_init) l51 c51 k51
  have b51 := F51.binds (ps := ["self", "images"]) fun _ _ _ _ _ _ us hl => match us, hl with | [_, _], _ => rfl
  have F52 := fun_mk (st := s_BadTable_init) l52 c52 k52
  have b52 := F52.binds (ps := ["self", "part"]) fun _ _ _ _ _ _ us hl => match us, hl with | [_, _], _ => rfl
  have kb0 : KBn K (PySem.W.fnOf "__init__" "BadTable.__init__" (defArgs s_BadTable_init) (defBody s_BadTable_init) (defScope s_BadTable_init) .none kV52 dc52 pm52 an52 cd52 ct52) ["self", "part"] 1 ["part"] (fun us ws => us ++ ws) (fun vs zs => vs ++ zs) := ⟨fun s us ws _ h0 h2 => match us, ws, h0, h2 with
    | [_], [_], _, _ => .of_eq rfl, fun r1 r2 => r1.append r2⟩
  have Y0 : ClsX K CE B0 := ⟨⟨nm0, qq0, N0, bs0, sn0, sub0, ab0, col0, dd0, m00, m01, m02, m03, m05, x_BadTable⟩⟩
  have O0 : OexC K B0 := ⟨⟨nm0, qq0, N0, bs0, _, sn0, sub0, ab0, col0, dd0, m00, m01, m02, m03, m05, x_BadTable, show PySem.HandSPX.refsVE [.type "ValueError", .type "Exception", .type "BaseException", .type "object"] = true by decide +kernel⟩, s_BadTable, Y0.ex, Y0.ty, k_BadTable⟩
  have X0 : ExcC K B0 := ⟨hg_BadTable, hk_BadTable, Y0.ex, Y0.hd, ha_BadTable, tB, tC, Y0.hm⟩
  have F53 := fun_mk (st := s_TooMany_init) l53 c53 k53
  have b53 := F53.binds (ps := ["self", "what", "most"]) fun _ _ _ _ _ _ us hl => match us, hl with | [_, _, _], _ => rfl
  have kb1 : KBn K (PySem.W.fnOf "__init__" "TooMany.__init__" (defArgs s_TooMany_init) (defBody s_TooMany_init) (defScope s_TooMany_init) .none kV53 dc53 pm53 an53 cd53 ct53) ["self", "what", "most"] 1 ["most", "what"] (fun us ws => us ++ ws.reverse) (fun vs zs => vs ++ zs.reverse) := ⟨fun s us ws _ h0 h2 => match us, ws, h0, h2 with
    | [_], [_, _], _, _ => .of_eq rfl, fun r1 r2 => r1.append (vals_revW r2)⟩
  have Y1 : ClsX K CE B1 := ⟨⟨nm1, qq1, N1, bs1, sn1, sub1, ab1, col1, dd1, m10, m11, m12, m13, m15, x_TooMany⟩⟩
  have O1 : OexC K B1 := ⟨⟨nm1, qq1, N1, bs1, _, sn1, sub1, ab1, col1, dd1, m10, m11, m12, m13, m15, x_TooMany, show PySem.HandSPX.refsVE [.type "ValueError", .type "Exception", .type "BaseException", .type "object"] = true by decide +kernel⟩, s_TooMany, Y1.ex, Y1.ty, k_TooMany⟩
  have X1 : ExcC K B1 := ⟨hg_TooMany, hk_TooMany, Y1.ex, Y1.hd, ha_TooMany, tB, tC, Y1.hm⟩
  have n01 : B0 ≠ B1 := fun z => by
    rw [z] at nd
    simp at nd
  have n0E : B0 ≠ CE := fun z => by
    rw [z] at nd
    simp at nd
  have TH : Th K mg B0 B1 CE := ⟨Tq1, ⟨_, PySem.W.mg_of X G a_BadTable, rfl⟩, ⟨_, PySem.W.mg_of X G a_TooMany, rfl⟩, PySem.W.mg_of X G aX, exm_of eR iR tyR Y0.sE, exm_of eR iR tyR Y1.sE, kk_self, kk_of Y1 Y0 (Ne.symm n01) n0E, kk_self, X0, X1, n_BadTable_part, n_TooMany_what, n_TooMany_most⟩
  have TRi : Tri K mg CM CJ B0 B1 CE := ⟨T, TH⟩
  have T20 : Tl20 K mg CM CJ B0 B1 CE CO CR := ⟨TRi, PySem.W.mg_none_of X G z_zip, kN, fun _ _ _ _ hx => .base (.ins hx clO tAO tB tC tDO), nfO⟩
  have N1 : q1 ≠ p1 := fun z => by rw [z] at qn1; simp at qn1
  have N2 : q2 ≠ p2 := fun z => by rw [z] at qn2; simp at qn2
  have pne : p1 ≠ p2 := fun z => by rw [z] at pp12; simp at pp12
  have hd11_1 : vs1.getD 11 .none = .ref p1 := by rw [Array.getD_eq_getD_getElem?, qv1]; rfl
  have hd11_2 : vs2.getD 11 .none = .ref p2 := by rw [Array.getD_eq_getD_getElem?, qv2]; rfl
  have H1 : PySem.W.CodeHd h q1 p1 := ⟨_, vs1, _, _, _, _, _, _, _, X _ _ qc1, rfl, rfl, qv1, hd11_1, qa1, qb1, qe1, qg1, N1⟩
  have H2 : PySem.W.CodeHd h q2 p2 := ⟨_, vs2, _, _, _, _, _, _, _, X _ _ qc2, rfl, rfl, qv2, hd11_2, qa2, qb2, qe2, qg2, N2⟩
  have P1 : h.get? p1 = some { cls := .none, data := .fields #[] } := own1 f37 (PySem.W.mg_of X G a37) q1 p1 _ _ _ _ _ _ l37 rfl rfl qc1 qv1
  have P2 : h.get? p2 = some { cls := .none, data := .fields #[] } := own2 q2 p2 _ _ _ _ _ _ l38 rfl rfl qc2 qv2
  have each : ∀ {C : Addr × Addr → Prop}, C (q1, p1) → C (q2, p2) → ∀ p ∈ [(q1, p1), (q2, p2)], C p := fun a b p hp => by
    rcases List.mem_cons.mp hp with rfl | hp
    · exact a
    · rw [List.mem_singleton.mp hp]
      exact b
  refine ⟨PySem.W.fnOf "law" "law" (defArgs s_law) (defBody s_law) (defScope s_law) .none kV38 dc38 pm38 an38 (.ref q2) ct38, [(q1, p1), (q2, p2)], spLaw (TLs p1 p2) tS tE tW tD0 K, ⟨each P1 P2, each qk1 qk2, each H1 H2, fun s v => .of_eq rfl, fun Hh a ns hl _ ht hS => ⟨a, ns, rfl, hS, hl, fun p hp => ?_, ⟨⟨sq_known vS Hh, sq_known vE Hh, by rw [← ee]; exact sq_known vW Hh⟩, sq_known vD Hh⟩, fun _ => rfl⟩, fun base sys _ _ hb => ?_⟩⟩
  · have hp : p ∈ [(p1, (("_law_right" : Str) ++ ".<locals>.") ++ "<lambda>"), (p2, (("law" : Str) ++ ".<locals>.") ++ "<lambda>")] := hp
    rcases List.mem_cons.mp hp with rfl | hp
    · exact TabS.nil (ht (q1, p1) (by simp))
    · rw [List.mem_singleton.mp hp]
      exact TabS.nil (ht (q2, p2) (by simp))
  have K1 : TabT base mg (TLs p1 p2) (("_law_right" : Str) ++ ".<locals>.") q1 p1 := ⟨hb (q1, p1) (by simp), by simp [TLs], fun p hp e => by
    have hp : p ∈ [(p1, (("_law_right" : Str) ++ ".<locals>.") ++ "<lambda>"), (p2, (("law" : Str) ++ ".<locals>.") ++ "<lambda>")] := hp
    rcases List.mem_cons.mp hp with rfl | hp
    · rfl
    · rw [List.mem_singleton.mp hp] at e
      exact absurd e.symm pne⟩
  have K2 : TabT base mg (TLs p1 p2) (("law" : Str) ++ ".<locals>.") q2 p2 := ⟨hb (q2, p2) (by simp), by simp [TLs], fun p hp e => by
    have hp : p ∈ [(p1, (("_law_right" : Str) ++ ".<locals>.") ++ "<lambda>"), (p2, (("law" : Str) ++ ".<locals>.") ++ "<lambda>")] := hp
    rcases List.mem_cons.mp hp with rfl | hp
    · exact absurd e pne
    · rw [List.mem_singleton.mp hp]⟩
  have FB : FunC K "_law_right" "_law_right" s__law_right f37 q1 _ := ⟨⟨oc37, od37, kV37, dc37, pm37, an37, ct37, sl37, rfl, l37, c37⟩⟩
  have FL : FunC K "law" "law" s_law fa q2 (PySem.W.fnOf "law" "law" (defArgs s_law) (defBody s_law) (defScope s_law) .none kV38 dc38 pm38 an38 (.ref q2) ct38) := ⟨⟨oc38, od38, kV38, dc38, pm38, an38, ct38, sl38, rfl, l38, c38⟩⟩
  have D_heard : HearD K mg f36 := ⟨PySem.W.mg_of X G a36, k36, ⟨oc36, od36, kV36, dc36, pm36, an36, cd36, ct36, sl36, l36, c36⟩⟩
  have D_draw : Df l.prog w K mg base 1 "_law_draw" spDraw := ⟨⟨f28, _, _, ok_draw (k := 0) F28 B, PySem.W.mg_of X G a28, k28, b28⟩⟩
  have D_pick : Df l.prog w K mg base 2 "_law_pick" (spPick K) := ⟨⟨f29, _, _, ok_pick F29 B D_draw, PySem.W.mg_of X G a29, k29, b29⟩⟩
  have D_some_letters : Df l.prog w K mg base 2 "_law_some_letters" spLetters := ⟨⟨f30, _, _, ok_some_letters F30 B D_draw, PySem.W.mg_of X G a30, k30, b30⟩⟩
  have D_any_image : Df l.prog w K mg base 3 "_law_any_image" spImage := ⟨⟨f32, _, _, ok_any_image F32 B D_pick, PySem.W.mg_of X G a32, k32, b32⟩⟩
  have D_escaped : Df l.prog w K mg base 2 "_law_escaped" (spTab 52) := ⟨⟨f31, _, _, ok_escaped F31 B D_draw, PySem.W.mg_of X G a31, k31, b31⟩⟩
  have D_table : Df l.prog w K mg base 4 "_law_table" (spTab 260) := ⟨⟨f33, _, _, ok_table F33 B D_draw D_escaped D_any_image, PySem.W.mg_of X G a33, k33, b33⟩⟩
  have D_pen : Df l.prog w K mg base 1 "_law_pen" (spPen K) := ⟨⟨f27, _, _, ok_pen F27 B, PySem.W.mg_of X G a27, k27, b27⟩⟩
  have D_is_letter : Df l.prog w K mg base 1 "is_letter" (spIsLetter K) := ⟨⟨f3, _, _, ok_is_letter F3 T1, PySem.W.mg_of X G a3, k3, b3⟩⟩
  have D_all_letters : Df l.prog w K mg base 1 "all_letters" spAllLetters := ⟨⟨f4, _, _, ok_all_letters F4 T1, PySem.W.mg_of X G a4, k4, b4⟩⟩
  have D_is_text : Df l.prog w K mg base 2 "is_text" spIsText := ⟨⟨f5, _, _, ok_is_text F5 T1 D_all_letters, PySem.W.mg_of X G a5, k5, b5⟩⟩
  have D_is_image : Df l.prog w K mg base 3 "is_image" spIsImage := ⟨⟨f6, _, _, ok_is_image F6 T1 D_is_text, PySem.W.mg_of X G a6, k6, b6⟩⟩
  have D_told_images : Df l.prog w K mg base 4 "told_images" spTold := ⟨⟨f7, _, _, ok_told_images F7 T1 D_is_letter D_is_text D_is_image, PySem.W.mg_of X G a7, k7, b7⟩⟩
  have D_check_other : Df l.prog w K mg base 1 "check_other" (spChkO CM) := ⟨⟨f8, _, _, ok_check_other F8 T2, PySem.W.mg_of X G a8, k8, b8⟩⟩
  have D_cop0 : Df l.prog w K mg base 0 "copied" (fun _ _ _ _ => False) := ⟨⟨f0, _, _, ⟨fun _ _ _ _ z => z.elim, fun _ _ _ _ _ _ _ _ _ _ _ _ _ z => z.elim⟩, PySem.W.mg_of X G a0, k0, b0⟩⟩
  have D_copied : Df l.prog w K mg base 1 "copied" (spCopied K) := ⟨⟨f0, _, _, ok_copied F0 Tq1 D_cop0, PySem.W.mg_of X G a0, k0, b0⟩⟩
  have D_copyW : Df l.prog w K mg base 2 "copied" spCopyW := ⟨⟨f0, _, _, ok_copyW F0 Tq1 D_copied, PySem.W.mg_of X G a0, k0, b0⟩⟩
  have D_copT0 : Df l.prog w K mg base 1 "copied" (spCopT 0) := ⟨⟨f0, _, _, ok_copT (n := 0) (k := 0) F0 Te1 D_cop0, PySem.W.mg_of X G a0, k0, b0⟩⟩
  have D_copT1 : Df l.prog w K mg base 2 "copied" (spCopT 1) := ⟨⟨f0, _, _, ok_copT (n := 1) (k := 1) F0 Te1 D_copT0, PySem.W.mg_of X G a0, k0, b0⟩⟩
  have D_copT2 : Df l.prog w K mg base 3 "copied" (spCopT 2) := ⟨⟨f0, _, _, ok_copT (n := 2) (k := 2) F0 Te1 D_copT1, PySem.W.mg_of X G a0, k0, b0⟩⟩
  have D_rows0 : Df l.prog w K mg base 0 "equal_rows" (spRowsT 0) := ⟨⟨f2, _, _, ⟨fun _ _ _ _ z => z.elim, fun _ _ _ _ _ _ _ _ _ _ _ _ _ z => z.elim⟩, PySem.W.mg_of X G a2, k2, b2⟩⟩
  have D_eq0 : Df l.prog w K mg base 1 "equal" (spEqT 0) := ⟨⟨f1, _, _, ok_eqT (n := 0) (k := 0) (by decide) F1 Te1 D_rows0, PySem.W.mg_of X G a1, k1, b1⟩⟩
  have D_rows1 : Df l.prog w K mg base 2 "equal_rows" (spRowsT 1) := ⟨⟨f2, _, _, ok_rowsT (n := 0) (k := 1) F2 Te1 D_eq0, PySem.W.mg_of X G a2, k2, b2⟩⟩
  have D_eq1 : Df l.prog w K mg base 3 "equal" (spEqT 1) := ⟨⟨f1, _, _, ok_eqT (n := 1) (k := 2) (by decide) F1 Te1 D_rows1, PySem.W.mg_of X G a1, k1, b1⟩⟩
  have D_rows2 : Df l.prog w K mg base 4 "equal_rows" (spRowsT 2) := ⟨⟨f2, _, _, ok_rowsT (n := 1) (k := 3) F2 Te1 D_eq1, PySem.W.mg_of X G a2, k2, b2⟩⟩
  have D_eq2 : Df l.prog w K mg base 5 "equal" (spEqT 2) := ⟨⟨f1, _, _, ok_eqT (n := 2) (k := 4) (by decide) F1 Te1 D_rows2, PySem.W.mg_of X G a1, k1, b1⟩⟩
  have D_rows3 : Df l.prog w K mg base 6 "equal_rows" (spRowsT 3) := ⟨⟨f2, _, _, ok_rowsT (n := 2) (k := 5) F2 Te1 D_eq2, PySem.W.mg_of X G a2, k2, b2⟩⟩
  have D_eq3 : Df l.prog w K mg base 7 "equal" (spEqT 3) := ⟨⟨f1, _, _, ok_eqT (n := 3) (k := 6) (by decide) F1 Te1 D_rows3, PySem.W.mg_of X G a1, k1, b1⟩⟩
  have D_mk : Mkr l.prog w K mg base CM := mkr_of F50 T1 D_told_images ⟨mk, a50, i50, kc⟩ (PySem.W.mg_of X G aC)
  have D_mkMJ : MkrM l.prog w K mg base CM CJ := mkrM_of F50 T D_told_images ⟨mk, a50, i50, kc⟩ (PySem.W.mg_of X G aC)
  have D_mkJ : MkrJ l.prog w K mg base CJ := ⟨f51, _, ⟨mkJ, a51, i51, kcJ⟩, ok_Joined F51 T, PySem.W.mg_of X G aJ, b51⟩
  have D_first_barred : Mf l.prog w K mg base 1 CM "first_barred" (spFB CM) := ⟨⟨f39, _, _, ok_first_barred F39 T, ⟨a39, i39, k39⟩, ⟨a39, i39⟩, n39, b39⟩⟩
  have D_image : Mf l.prog w K mg base 1 CM "image" (spImg CM) := ⟨⟨f40, _, _, ok_image F40 T, ⟨a40, i40, k40⟩, ⟨a40, i40⟩, n40, b40⟩⟩
  have D_get : Mf l.prog w K mg base 2 CM "__getitem__" (spGet CM) := ⟨⟨f42, _, _, ok_get F42 T1 D_is_letter, ⟨a42, i42, k42⟩, ⟨a42, i42⟩, n42, b42⟩⟩
  have D_iter : ItM l.prog w K mg base 1 CM (snIter CM) := ⟨f43, _, _, ok_iter F43 T1, ⟨a43, i43⟩, b43⟩
  have D_rshift : Bo l.prog w K mg base 7 CM "__rshift__" (spRsh CM) := ⟨⟨f41, _, _, ok_rshift F41 T D_check_other D_first_barred D_image D_mkJ D_mkMJ, b41, a41, i41, sf⟩⟩
  have D_other_side : Df l.prog w K mg base 1 "other_side" spOther := ⟨⟨f9, _, _, ok_other F9 Tm1, PySem.W.mg_of X G a9, k9, b9⟩⟩
  have D_place_behind : Df l.prog w K mg base 2 "place_behind" (spBehind K tS tE tW) := ⟨⟨f10, _, _, ok_behind F10 Tm1 D_other_side, PySem.W.mg_of X G a10, k10, b10⟩⟩
  have D_with_label : Df l.prog w K mg base 1 "with_label" spLabel := ⟨⟨f12, _, _, ok_with_label F12 Tm1, PySem.W.mg_of X G a12, k12, b12⟩⟩
  have D_lead_of : Df l.prog w K mg base 1 "lead_of" (spLead K) := ⟨⟨f13, _, _, ok_lead_of F13 Tm1, PySem.W.mg_of X G a13, k13, b13⟩⟩
  have D_moves_from : Df l.prog w K mg base 3 "moves_from" (spMoves K tS tE tW) := ⟨⟨f11, _, _, ok_moves F11 Tm1 D_other_side D_place_behind, PySem.W.mg_of X G a11, k11, b11⟩⟩
  have D_all_moves : Df l.prog w K mg base 4 "all_moves" (spAll K w tS tE tW) := ⟨⟨f14, _, _, ok_all_moves F14 Tm1 D_moves_from, PySem.W.mg_of X G a14, k14, b14⟩⟩
  have D_all_living : Df l.prog w K mg base 1 "all_living" (spLiving K w tS tE tW) := ⟨⟨f15, _, _, ok_all_living F15 Tm1, PySem.W.mg_of X G a15, k15, b15⟩⟩
  have D_ways_from : Df l.prog w K mg base 2 "ways_from" (spWays K w) := ⟨⟨f16, _, _, ok_ways_from F16 Tm1 D_with_label, PySem.W.mg_of X G a16, k16, b16⟩⟩
  have D_Meetings : MkC l.prog w K mg base 5 CG "Meetings" (spMee K w tS tE tW CG) := ⟨f49, _, _, ⟨mkG, a49, i49, kcG⟩, ok_meet F49 Tn1 D_all_moves D_all_living D_ways_from, PySem.W.mg_of X G aG, b49⟩
  have D_OneToOne : MkC l.prog w K mg base 4 CO "OneToOne" (spOneI CO) := ⟨f44, _, _, ⟨mkO, a44, i44, kcO⟩, ok_oneI F44 Tv1 D_copT2, PySem.W.mg_of X G aO, b44⟩
  have D_Merged : MkC l.prog w K mg base 4 CR "Merged" (spMrgI CR) := ⟨f47, _, _, ⟨mkR, a47, i47, kcR⟩, ok_mrgI F47 Tv1 D_copyW, PySem.W.mg_of X G aR, b47⟩
  have D_ended : Df l.prog w K mg base 3 "ended" (spEnded K w tS tE tW CG) := ⟨⟨f17, _, _, ok_ended F17 Tn1 D_ways_from, PySem.W.mg_of X G a17, k17, b17⟩⟩
  have D_unlike_meeting : Df l.prog w K mg base 4 "unlike_meeting" (spUnlike K w tS tE tW CG) := ⟨⟨f18, _, _, ok_unlike F18 Tn1 D_with_label D_lead_of D_ended, PySem.W.mg_of X G a18, k18, b18⟩⟩
  have D_rests_of : Df l.prog w K mg base 1 "rests_of" (spRests K w tD0 CG) := ⟨⟨f19, _, _, ok_rests F19 Tn1 hSD, PySem.W.mg_of X G a19, k19, b19⟩⟩
  have D_leads_of : Df l.prog w K mg base 2 "leads_of" (spLeads K w tD0 CG) := ⟨⟨f20, _, _, ok_leads F20 Tn1 D_rests_of D_lead_of, PySem.W.mg_of X G a20, k20, b20⟩⟩
  have D_check_misreading : Df l.prog w K mg base 1 "check_misreading" (spChkM CM) := ⟨⟨f21, _, _, ok_check_misreading F21 Tp1, PySem.W.mg_of X G a21, k21, b21⟩⟩
  have D_check_length : Df l.prog w K mg base 4 "check_length" (spChkL CM) := ⟨⟨f22, _, _, ok_check_length F22 Tp1 D_iter D_get, PySem.W.mg_of X G a22, k22, b22⟩⟩
  have D_check_images : Df l.prog w K mg base 5 "check_images" (spChkL CM) := ⟨⟨f23, _, _, ok_check_images F23 Tp1 D_check_misreading D_check_length, PySem.W.mg_of X G a23, k23, b23⟩⟩
  have D_image_pairs : Df l.prog w K mg base 4 "image_pairs" (spPairs CM) := ⟨⟨f24, _, _, ok_image_pairs F24 Tp1 D_iter D_get, PySem.W.mg_of X G a24, k24, b24⟩⟩
  have D_merging : Df l.prog w K mg base 7 "merging" (spMerging K tS tE tW tD0 CM CO CR) := ⟨⟨f25, _, _, ok_merging F25 Tp1 D_check_images D_image_pairs D_Meetings D_unlike_meeting D_leads_of D_rests_of D_OneToOne D_Merged, PySem.W.mg_of X G a25, k25, b25⟩⟩
  have D_boolO : Mf l.prog w K mg base 1 CO "__bool__" (spTrue true) := ⟨⟨f46, _, _, ok_oneB F46, ⟨a46, i46, k46⟩, ⟨a46, i46⟩, n46, b46⟩⟩
  have D_boolR : Mf l.prog w K mg base 1 CR "__bool__" (spTrue false) := ⟨⟨f48, _, _, ok_mrgB F48, ⟨a48, i48, k48⟩, ⟨a48, i48⟩, n48, b48⟩⟩
  have D_eqO : Mf l.prog w K mg base 8 CO "__eq__" (spOneE K CO) := ⟨⟨f45, _, _, ok_oneE F45 Tv1 D_eq3, ⟨a45, i45, k45⟩, ⟨a45, i45⟩, n45, b45⟩⟩
  have D_left : Df l.prog w K mg base 1 "_law_left" spLeft := ⟨⟨f34, _, _, ok_left F34 T, PySem.W.mg_of X G a34, k34, b34⟩⟩
  have D_is_unique : Df l.prog w K mg base 2 "_law_is_unique" spUniq := ⟨⟨f35, _, _, ok_is_unique F35 Tu1 D_left, PySem.W.mg_of X G a35, k35, b35⟩⟩
  have E_BadTable : Er1 l.prog w K mg base "BadTable" "part" B0 := ⟨O0, X0, n_BadTable_part, PySem.W.mg_of X G a_BadTable, f52, _, _, a52, y52, ok_BadTable F52 TBx sys D_copyW, b52, kb0⟩
  have E_TooMany : Er2 l.prog w K mg base "TooMany" "what" "most" B1 := ⟨O1, X1, n_TooMany_what, n_TooMany_most, PySem.W.mg_of X G a_TooMany, f53, _, _, a53, y53, ok_TooMany F53 TBx sys D_copyW, b53, kb1⟩
  have D_ckE : DfG l.prog w K mg base (L2.CX l.prog w) 5 "check_misreading" (spCkE K CM B0 B1) := ⟨⟨f21, _, _, ok_ckE F21 Tp1 E_BadTable, PySem.W.mg_of X G a21, k21, b21⟩⟩
  have D_lenE : DfG l.prog w K mg base (L2.CX l.prog w) 5 "check_length" (spLenE CM B0 B1) := ⟨⟨f22, _, _, ok_lenE F22 Tp1 D_iter D_get E_TooMany, PySem.W.mg_of X G a22, k22, b22⟩⟩
  have D_imE : DfG l.prog w K mg base (L2.CX l.prog w) 6 "check_images" (spImE K CM B0 B1) := ⟨⟨f23, _, _, ok_imE F23 D_ckE D_lenE, PySem.W.mg_of X G a23, k23, b23⟩⟩
  have D_mrgA : DfG l.prog w K mg base (L2.CX l.prog w) 7 "merging" (spMrgA K tS tE tW tD0 CM B0 B1 CO CR) := ⟨f25, _, _, mrgA (ok_merging F25 Tp1 D_check_images D_image_pairs D_Meetings D_unlike_meeting D_leads_of D_rests_of D_OneToOne D_Merged) (ok_mrgX F25 D_imE), PySem.W.mg_of X G a25, k25, b25⟩
  have D_showA : DfG l.prog w K mg base (L2.CX l.prog w) 7 "shows_merging" (spShowA K CM B0 B1 CO CR) := ⟨⟨f26, _, _, ok_showsA F26 Ts2 D_imE, PySem.W.mg_of X G a26, k26, b26⟩⟩
  have D_rightM : DfG l.prog w K mg base CX0 12 "_law_right" (spRightM K (TLs p1 p2) tS tE tW tD0 CM CO CR) := ⟨f37, _, _, ok_rightM FB TRi D_mrgA D_showA D_boolO D_boolR D_iter D_get D_is_unique D_heard K1, PySem.W.mg_of X G a37, k37, b37⟩
  exact ok_law FL T20 D_pen D_draw D_pick D_some_letters D_table D_mk D_rshift D_rightM D_mrgA D_merging D_showA D_eqO D_OneToOne D_heard K2
/-- the end, where the tables of two defs are known -/
theorem walk {l : PySem.W.OpenLaw} {q : Program} {loose : List Str} {XP : (Str → Option Value) → Heap → Prop} {YP : World → Heap → Prop} {d : DefRec} {K : Params → PySem.W.Frag} (hn : l.most = some 63) (hdf : d.params.defaults = []) (him : importsNone q = true) (hrec : ((recsOf q).any fun e => e.name == d.name) = true) (hrec1 : ((recsOf q).any fun e => e.name == "_law_right") = true)
    (hY : ∀ (w : World) (h : Heap), YP w h → (K w.params).In h)
    (F : ∀ (w : World) (mg : Str → Option Value) (fa : Addr) (h : Heap), (K w.params).In h → h.Ns mainGlobals mg → mg d.name = some (.ref fa) → (∀ fb, mg "_law_right" = some (.ref fb) → OwnTab (K w.params) fb h) → OwnTab (K w.params) fa h → ∃ fd cs sp, LawG l w (K w.params) 13 mg fa h fd cs sp) :
    PySem.W.WalkO q loose XP YP l.row.toRowW d [] (fun f vs => PySem.call f vs) := by
  refine Att.attach_callB hn hdf fun w s₀ s₁ mg mb fa o pm cd doc a vs ns G Y ho hd hcd hmg hobj hints hlen hbits hg => ?_
  have KX := hY w _ Y
  have tab : ∀ (x : Str) (fb : Addr), ((recsOf q).any fun e => e.name == x) = true → mg x = some (.ref fb) → OwnTab (K w.params) fb s₁.heap := fun x fb hr hm0 c P o1 fd1 e dd vs1 sl k1 k2 k3 k4 k5 => by
    obtain ⟨dL, hm, hn1⟩ := List.any_eq_true.mp hr
    have hn2 : dL.name = x := beq_iff_eq.mp hn1
    obtain ⟨a', o', fd', c', P', h1, h2, h3, h4, h5, h6⟩ := G.T.tab dL hm
    rw [hn2, hm0] at h1
    cases h1
    have g1 := KX _ _ k1
    rw [g1] at h2
    cases h2
    rw [k2] at h3
    cases h3
    rw [k3] at h4
    cases h4
    obtain ⟨⟨oc, vc, e1, _, e3, e4⟩, hP⟩ := h6
    have g2 := KX _ _ k4
    rw [g2] at e1
    cases e1
    cases e3
    rw [k5] at e4
    cases e4
    exact hP
  obtain ⟨mm, hmods, _⟩ := (G.T.seer him).mods
  obtain ⟨fd, cs, sp, L⟩ := F w mg fa _ KX G.T.g hmg (fun fb hm0 => tab _ fb hrec1 hm0) (tab _ fa hrec hmg)
  exact law_callS KX G.T.g G.T.b G.T.builtins G.T.nolimit hg hmods L.tabs L.untold L.codes G.T.bmain hobj hints (Nat.le_trans hlen (by decide)) ⟨rfl, by decide, by decide⟩ (fun base sys kin g hb => L.runs base sys kin g hb) L.binds (fun H hH hS => L.starts H a ns hlen hbits hH hS) fun _ _ _ z => z
end V8
set_option Elab.async false
set_option linter.all false
set_option maxRecDepth 100000
open PySem PySem.W PyProof.Rows
theorem PySem.W.Fast.te3657740109347051273 : True := trivial
theorem PySem.W.Fast.tw2697616521817448329 : True := trivial
theorem PySem.W.Fast.tw9194445039671030793 : True := trivial
theorem PySem.W.Fast.tw4562768649118962072 : True := trivial
theorem PySem.W.Fast.tw12481983255890125441 : True := trivial
set_option maxHeartbeats 0 in
theorem PySem.Challenge.cw_blindrepair_k20_merging_refused_holds : PySem.Challenge.rw_blindrepair_k20_merging_refused.Holds := by
  w_on; o_law; k_head; (case hw => w_witness2)
  k_fill
  refine V8.walk (l := PySem.Challenge.rw_blindrepair_k20_merging_refused) rfl rfl (by decide +kernel) (by decide +kernel) (by decide +kernel) (fun w h Y => PySem.W.km_in_of Y) ?F
  case F =>
    intro w mg fa h KX G hmg own1 own2
    refine' V8.all_mk KX G hmg own1 own2 ?aC ?aJ ?aG ?aO ?aR ?uS ?vS ?uE ?vE ?uW ?vW ?uD ?vD ?a0 ?l0 ?c0 ?k0 ?a1 ?l1 ?c1 ?k1 ?a2 ?l2 ?c2 ?k2 ?a3 ?l3 ?c3 ?k3 ?a4 ?l4 ?c4 ?k4 ?a5 ?l5 ?c5 ?k5 ?a6 ?l6 ?c6 ?k6 ?a7 ?l7 ?c7 ?k7 ?a8 ?l8 ?c8 ?k8 ?a9 ?l9 ?c9 ?k9 ?a10 ?l10 ?c10 ?k10 ?a11 ?l11 ?c11 ?k11 ?a12 ?l12 ?c12 ?k12 ?a13 ?l13 ?c13 ?k13 ?a14 ?l14 ?c14 ?k14 ?a15 ?l15 ?c15 ?k15 ?a16 ?l16 ?c16 ?k16 ?a17 ?l17 ?c17 ?k17 ?a18 ?l18 ?c18 ?k18 ?a19 ?l19 ?c19 ?k19 ?a20 ?l20 ?c20 ?k20 ?a21 ?l21 ?c21 ?k21 ?a22 ?l22 ?c22 ?k22 ?a23 ?l23 ?c23 ?k23 ?a24 ?l24 ?c24 ?k24 ?a25 ?l25 ?c25 ?k25 ?a26 ?l26 ?c26 ?k26 ?a27 ?l27 ?c27 ?k27 ?a28 ?l28 ?c28 ?k28 ?a29 ?l29 ?c29 ?k29 ?a30 ?l30 ?c30 ?k30 ?a31 ?l31 ?c31 ?k31 ?a32 ?l32 ?c32 ?k32 ?a33 ?l33 ?c33 ?k33 ?a34 ?l34 ?c34 ?k34 ?a35 ?l35 ?c35 ?k35 ?a36 ?l36 ?c36 ?k36 ?a37 ?l37 ?c37 ?k37 ?a38 ?l38 ?c38 ?k38 ?a39 ?i39 ?l39 ?c39 ?k39 ?n39 ?a40 ?i40 ?l40 ?c40 ?k40 ?n40 ?a41 ?i41 ?l41 ?c41 ?k41 ?n41 ?a42 ?i42 ?l42 ?c42 ?k42 ?n42 ?a43 ?i43 ?l43 ?c43 ?k43 ?n43 ?a44 ?i44 ?l44 ?c44 ?k44 ?a45 ?i45 ?l45 ?c45 ?k45 ?n45 ?a46 ?i46 ?l46 ?c46 ?k46 ?n46 ?a47 ?i47 ?l47 ?c47 ?k47 ?a48 ?i48 ?l48 ?c48 ?k48 ?n48 ?a49 ?i49 ?l49 ?c49 ?k49 ?a50 ?i50 ?l50 ?c50 ?k50 ?tI ?a51 ?i51 ?l51 ?c51 ?k51 ?aX ?a_BadTable ?a_TooMany ?a52 ?y52 ?l52 ?c52 ?k52 ?a53 ?y53 ?l53 ?c53 ?k53 ?x_BadTable ?s_BadTable ?k_BadTable ?hg_BadTable ?hk_BadTable ?ha_BadTable ?n_BadTable_part ?x_TooMany ?s_TooMany ?k_TooMany ?hg_TooMany ?hk_TooMany ?ha_TooMany ?n_TooMany_what ?n_TooMany_most ?eR ?tyR ?iR ?rdR ?gaR ?vR ?nd ?qc1 ?qv1 ?qa1 ?qb1 ?qe1 ?qg1 ?qn1 ?qk1 ?qc2 ?qv2 ?qa2 ?qb2 ?qe2 ?qg2 ?qn2 ?qk2 ?pp12 ?rd ?ga ?pg ?hd ?po ?sa ?mk ?kc ?sf ?nL ?nI ?nC ?tA ?tD ?ne ?tB ?tC ?rp ?h1 ?h2 ?os_int ?ow_int ?ow_str ?ow_dict ?pgJ ?hdJ ?poJ ?saJ ?mkJ ?kcJ ?nJ ?jA ?jD ?pgO ?hdO ?poO ?saO ?mkO ?kcO ?tAO ?tDO ?neO ?pgR ?hdR ?poR ?saR ?mkR ?kcR ?tAR ?tDR ?neR ?pgG ?hdG ?poG ?saG ?mkG ?kcG ?nO1 ?nO2 ?nR1 ?nR2 ?nG1 ?nG2 ?nG3 ?nfO ?ok_int ?ok_str ?ok_dict ?kdJ ?kMM ?kMJ ?kMs ?kls ?kJJ ?kn_NoneType_M ?kn_NoneType_O ?kn_NoneType_R ?kn_int_M ?kn_int_O ?kn_int_R ?kn_bool_M ?kn_bool_O ?kn_bool_R ?kn_str_M ?kn_str_O ?kn_str_R ?kn_dict_M ?kn_dict_O ?kn_dict_R ?kn_tuple_M ?kn_tuple_O ?kn_tuple_R ?kn_list_M ?kn_list_O ?kn_list_R ?kOO ?kRR ?g1 ?g2 ?g3 ?g4 ?g5 ?g6 ?z_list ?z_int ?z_len ?z_abs ?z_range ?z_dict ?z_str ?z_sorted ?z_tuple ?z_isinstance ?z_iter ?z_enumerate ?z_all ?z_bool ?z_any ?z_zip ?z_set ?z_repr
    (case aC => k_is)
    (case aJ => k_is)
    (case aG => k_is)
    (case aO => k_is)
    (case aR => k_is)
    (case uS => k_is)
    (case vS => k_is)
    (case uE => k_is)
    (case vE => k_is)
    (case uW => k_is)
    (case vW => k_is)
    (case uD => k_is)
    (case vD => k_is)
    (case a0 => k_is)
    (case l0 => k_is)
    (case c0 => k_is)
    (case k0 => k_is)
    (case a1 => k_is)
    (case l1 => k_is)
    (case c1 => k_is)
    (case k1 => k_is)
    (case a2 => k_is)
    (case l2 => k_is)
    (case c2 => k_is)
    (case k2 => k_is)
    (case a3 => k_is)
    (case l3 => k_is)
    (case c3 => k_is)
    (case k3 => k_is)
    (case a4 => k_is)
    (case l4 => k_is)
    (case c4 => k_is)
    (case k4 => k_is)
    (case a5 => k_is)
    (case l5 => k_is)
    (case c5 => k_is)
    (case k5 => k_is)
    (case a6 => k_is)
    (case l6 => k_is)
    (case c6 => k_is)
    (case k6 => k_is)
    (case a7 => k_is)
    (case l7 => k_is)
    (case c7 => k_is)
    (case k7 => k_is)
    (case a8 => k_is)
    (case l8 => k_is)
    (case c8 => k_is)
    (case k8 => k_is)
    (case a9 => k_is)
    (case l9 => k_is)
    (case c9 => k_is)
    (case k9 => k_is)
    (case a10 => k_is)
    (case l10 => k_is)
    (case c10 => k_is)
    (case k10 => k_is)
    (case a11 => k_is)
    (case l11 => k_is)
    (case c11 => k_is)
    (case k11 => k_is)
    (case a12 => k_is)
    (case l12 => k_is)
    (case c12 => k_is)
    (case k12 => k_is)
    (case a13 => k_is)
    (case l13 => k_is)
    (case c13 => k_is)
    (case k13 => k_is)
    (case a14 => k_is)
    (case l14 => k_is)
    (case c14 => k_is)
    (case k14 => k_is)
    (case a15 => k_is)
    (case l15 => k_is)
    (case c15 => k_is)
    (case k15 => k_is)
    (case a16 => k_is)
    (case l16 => k_is)
    (case c16 => k_is)
    (case k16 => k_is)
    (case a17 => k_is)
    (case l17 => k_is)
    (case c17 => k_is)
    (case k17 => k_is)
    (case a18 => k_is)
    (case l18 => k_is)
    (case c18 => k_is)
    (case k18 => k_is)
    (case a19 => k_is)
    (case l19 => k_is)
    (case c19 => k_is)
    (case k19 => k_is)
    (case a20 => k_is)
    (case l20 => k_is)
    (case c20 => k_is)
    (case k20 => k_is)
    (case a21 => k_is)
    (case l21 => k_is)
    (case c21 => k_is)
    (case k21 => k_is)
    (case a22 => k_is)
    (case l22 => k_is)
    (case c22 => k_is)
    (case k22 => k_is)
    (case a23 => k_is)
    (case l23 => k_is)
    (case c23 => k_is)
    (case k23 => k_is)
    (case a24 => k_is)
    (case l24 => k_is)
    (case c24 => k_is)
    (case k24 => k_is)
    (case a25 => k_is)
    (case l25 => k_is)
    (case c25 => k_is)
    (case k25 => k_is)
    (case a26 => k_is)
    (case l26 => k_is)
    (case c26 => k_is)
    (case k26 => k_is)
    (case a27 => k_is)
    (case l27 => k_is)
    (case c27 => k_is)
    (case k27 => k_is)
    (case a28 => k_is)
    (case l28 => k_is)
    (case c28 => k_is)
    (case k28 => k_is)
    (case a29 => k_is)
    (case l29 => k_is)
    (case c29 => k_is)
    (case k29 => k_is)
    (case a30 => k_is)
    (case l30 => k_is)
    (case c30 => k_is)
    (case k30 => k_is)
    (case a31 => k_is)
    (case l31 => k_is)
    (case c31 => k_is)
    (case k31 => k_is)
    (case a32 => k_is)
    (case l32 => k_is)
    (case c32 => k_is)
    (case k32 => k_is)
    (case a33 => k_is)
    (case l33 => k_is)
    (case c33 => k_is)
    (case k33 => k_is)
    (case a34 => k_is)
    (case l34 => k_is)
    (case c34 => k_is)
    (case k34 => k_is)
    (case a35 => k_is)
    (case l35 => k_is)
    (case c35 => k_is)
    (case k35 => k_is)
    (case a36 => k_is)
    (case l36 => k_is)
    (case c36 => k_is)
    (case k36 => k_is)
    (case a37 => k_is)
    (case l37 => k_is)
    (case c37 => k_is)
    (case k37 => k_is)
    (case a38 => k_is)
    (case l38 => k_is)
    (case c38 => k_is)
    (case k38 => k_is)
    (case a39 => k_is)
    (case i39 => k_is)
    (case l39 => k_is)
    (case c39 => k_is)
    (case k39 => k_is)
    (case n39 => k_is)
    (case a40 => k_is)
    (case i40 => k_is)
    (case l40 => k_is)
    (case c40 => k_is)
    (case k40 => k_is)
    (case n40 => k_is)
    (case a41 => k_is)
    (case i41 => k_is)
    (case l41 => k_is)
    (case c41 => k_is)
    (case k41 => k_is)
    (case n41 => k_is)
    (case a42 => k_is)
    (case i42 => k_is)
    (case l42 => k_is)
    (case c42 => k_is)
    (case k42 => k_is)
    (case n42 => k_is)
    (case a43 => k_is)
    (case i43 => k_is)
    (case l43 => k_is)
    (case c43 => k_is)
    (case k43 => k_is)
    (case n43 => k_is)
    (case a44 => k_is)
    (case i44 => k_is)
    (case l44 => k_is)
    (case c44 => k_is)
    (case k44 => k_is)
    (case a45 => k_is)
    (case i45 => k_is)
    (case l45 => k_is)
    (case c45 => k_is)
    (case k45 => k_is)
    (case n45 => k_is)
    (case a46 => k_is)
    (case i46 => k_is)
    (case l46 => k_is)
    (case c46 => k_is)
    (case k46 => k_is)
    (case n46 => k_is)
    (case a47 => k_is)
    (case i47 => k_is)
    (case l47 => k_is)
    (case c47 => k_is)
    (case k47 => k_is)
    (case a48 => k_is)
    (case i48 => k_is)
    (case l48 => k_is)
    (case c48 => k_is)
    (case k48 => k_is)
    (case n48 => k_is)
    (case a49 => k_is)
    (case i49 => k_is)
    (case l49 => k_is)
    (case c49 => k_is)
    (case k49 => k_is)
    (case a50 => k_is)
    (case i50 => k_is)
    (case l50 => k_is)
    (case c50 => k_is)
    (case k50 => k_is)
    (case tI => k_is)
    (case a51 => k_is)
    (case i51 => k_is)
    (case l51 => k_is)
    (case c51 => k_is)
    (case k51 => k_is)
    (case aX => k_is)
    (case a_BadTable => k_is)
    (case a_TooMany => k_is)
    (case a52 => k_is)
    (case y52 => k_is)
    (case l52 => k_is)
    (case c52 => k_is)
    (case k52 => k_is)
    (case a53 => k_is)
    (case y53 => k_is)
    (case l53 => k_is)
    (case c53 => k_is)
    (case k53 => k_is)
    (case x_BadTable => k_is)
    (case s_BadTable => k_is)
    (case k_BadTable => k_is)
    (case hg_BadTable => k_is)
    (case hk_BadTable => k_is)
    (case ha_BadTable => k_is)
    (case n_BadTable_part => k_is)
    (case x_TooMany => k_is)
    (case s_TooMany => k_is)
    (case k_TooMany => k_is)
    (case hg_TooMany => k_is)
    (case hk_TooMany => k_is)
    (case ha_TooMany => k_is)
    (case n_TooMany_what => k_is)
    (case n_TooMany_most => k_is)
    (case eR => k_is)
    (case tyR => k_is)
    (case iR => k_is)
    (case rdR => k_is)
    (case gaR => k_is)
    (case vR => k_is)
    (case nd => decide +kernel)
    (case qc1 => k_is)
    (case qv1 => first | rfl | k_is)
    (case qa1 => first | rfl | k_is)
    (case qb1 => first | rfl | k_is)
    (case qe1 => first | rfl | k_is)
    (case qg1 => first | rfl | k_is)
    (case qn1 => first | rfl | k_is)
    (case qk1 => first | rfl | k_is)
    (case qc2 => k_is)
    (case qv2 => first | rfl | k_is)
    (case qa2 => first | rfl | k_is)
    (case qb2 => first | rfl | k_is)
    (case qe2 => first | rfl | k_is)
    (case qg2 => first | rfl | k_is)
    (case qn2 => first | rfl | k_is)
    (case qk2 => first | rfl | k_is)
    (case pp12 => first | rfl | k_is)
    (case rd => k_is)
    (case ga => k_is)
    (case pg => k_is)
    (case hd => k_is)
    (case po => k_is)
    (case sa => k_is)
    (case mk => k_is)
    (case kc => k_is)
    (case sf => k_is)
    (case nL => k_is)
    (case nI => k_is)
    (case nC => k_is)
    (case tA => k_is)
    (case tD => k_is)
    (case ne => k_is)
    (case tB => k_is)
    (case tC => k_is)
    (case rp => k_is)
    (case h1 => k_is)
    (case h2 => k_is)
    (case os_int => k_is)
    (case ow_int => k_is)
    (case ow_str => k_is)
    (case ow_dict => k_is)
    (case pgJ => k_is)
    (case hdJ => k_is)
    (case poJ => k_is)
    (case saJ => k_is)
    (case mkJ => k_is)
    (case kcJ => k_is)
    (case nJ => k_is)
    (case jA => k_is)
    (case jD => k_is)
    (case pgO => k_is)
    (case hdO => k_is)
    (case poO => k_is)
    (case saO => k_is)
    (case mkO => k_is)
    (case kcO => k_is)
    (case tAO => k_is)
    (case tDO => k_is)
    (case neO => k_is)
    (case pgR => k_is)
    (case hdR => k_is)
    (case poR => k_is)
    (case saR => k_is)
    (case mkR => k_is)
    (case kcR => k_is)
    (case tAR => k_is)
    (case tDR => k_is)
    (case neR => k_is)
    (case pgG => k_is)
    (case hdG => k_is)
    (case poG => k_is)
    (case saG => k_is)
    (case mkG => k_is)
    (case kcG => k_is)
    (case nO1 => k_is)
    (case nO2 => k_is)
    (case nR1 => k_is)
    (case nR2 => k_is)
    (case nG1 => k_is)
    (case nG2 => k_is)
    (case nG3 => k_is)
    (case nfO => k_is)
    (case ok_int => first | kit_is | exact L2.kit_ty (by decide +kernel))
    (case ok_str => first | kit_is | exact L2.kit_ty (by decide +kernel))
    (case ok_dict => first | kit_is | exact L2.kit_ty (by decide +kernel))
    (case kdJ => first | kit_is | exact L2.kit_ty (by decide +kernel))
    (case kMM => first | kit_is | exact L2.kit_ty (by decide +kernel))
    (case kMJ => first | kit_is | exact L2.kit_ty (by decide +kernel))
    (case kMs => first | kit_is | exact L2.kit_ty (by decide +kernel))
    (case kls => first | kit_is | exact L2.kit_ty (by decide +kernel))
    (case kJJ => first | kit_is | exact L2.kit_ty (by decide +kernel))
    (case kn_NoneType_M => first | kit_is | exact L2.kit_ty (by decide +kernel))
    (case kn_NoneType_O => first | kit_is | exact L2.kit_ty (by decide +kernel))
    (case kn_NoneType_R => first | kit_is | exact L2.kit_ty (by decide +kernel))
    (case kn_int_M => first | kit_is | exact L2.kit_ty (by decide +kernel))
    (case kn_int_O => first | kit_is | exact L2.kit_ty (by decide +kernel))
    (case kn_int_R => first | kit_is | exact L2.kit_ty (by decide +kernel))
    (case kn_bool_M => first | kit_is | exact L2.kit_ty (by decide +kernel))
    (case kn_bool_O => first | kit_is | exact L2.kit_ty (by decide +kernel))
    (case kn_bool_R => first | kit_is | exact L2.kit_ty (by decide +kernel))
    (case kn_str_M => first | kit_is | exact L2.kit_ty (by decide +kernel))
    (case kn_str_O => first | kit_is | exact L2.kit_ty (by decide +kernel))
    (case kn_str_R => first | kit_is | exact L2.kit_ty (by decide +kernel))
    (case kn_dict_M => first | kit_is | exact L2.kit_ty (by decide +kernel))
    (case kn_dict_O => first | kit_is | exact L2.kit_ty (by decide +kernel))
    (case kn_dict_R => first | kit_is | exact L2.kit_ty (by decide +kernel))
    (case kn_tuple_M => first | kit_is | exact L2.kit_ty (by decide +kernel))
    (case kn_tuple_O => first | kit_is | exact L2.kit_ty (by decide +kernel))
    (case kn_tuple_R => first | kit_is | exact L2.kit_ty (by decide +kernel))
    (case kn_list_M => first | kit_is | exact L2.kit_ty (by decide +kernel))
    (case kn_list_O => first | kit_is | exact L2.kit_ty (by decide +kernel))
    (case kn_list_R => first | kit_is | exact L2.kit_ty (by decide +kernel))
    (case kOO => first | kit_is | exact L2.kit_ty (by decide +kernel))
    (case kRR => first | kit_is | exact L2.kit_ty (by decide +kernel))
    (case g1 => k_is)
    (case g2 => k_is)
    (case g3 => k_is)
    (case g4 => k_is)
    (case g5 => k_is)
    (case g6 => k_is)
    (case z_list => k_is)
    (case z_int => k_is)
    (case z_len => k_is)
    (case z_abs => k_is)
    (case z_range => k_is)
    (case z_dict => k_is)
    (case z_str => k_is)
    (case z_sorted => k_is)
    (case z_tuple => k_is)
    (case z_isinstance => k_is)
    (case z_iter => k_is)
    (case z_enumerate => k_is)
    (case z_all => k_is)
    (case z_bool => k_is)
    (case z_any => k_is)
    (case z_zip => k_is)
    (case z_set => k_is)
    (case z_repr => k_is)
