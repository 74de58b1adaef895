import PyProof.Rows.All
import Wide.All
import OpenK.AllK
import Wide.FinOn
import HandS.ForMost
import HandS.IsInst
import HandS.Wide
import HandS.More
import HandS.SlotsOwn
import HandS.ClsMeth
import HandS.TupMul
import HandS.TupAny
import HandS.Gcd
import HandS.MakeKw
import HandS.Defaults
import HandS.SetFor
import HandS.Strs
import HandS.SortRule
import HandS.Zip
import HandS.Deep
import HandS.TupLe
import KE.GoesEnum
import KE.GoesMore
import KE.KExcSuper
import KE.KSuper
import HandS.Exc
import HandS.ExcField
import HandS.ExcOwn
import HandS.WordsExc
import HandS.DeepEq
import PyProof.SumWalkG
import PyProof.Rows.SumAny
import PyProof.WalksMore
import HandS.Rev
import HandS.Dict
import HandS.Iter
import KE.KDictKeyed
import KE.KDictWalk
import HandS.Lambda
import HandS.TryMany
import HandS.Star
import PyProof.P3In
import HandS.FStr
import HandS.SortOrd
import HandS.NamedTupSort
import KE.DataFind
import HandS.List
import HandS.Text
import HandS.StrMore
import HandS.DictComp
import KE.SortData
import KE.KDictDisplayH
import KE.KStateDown
import HandS.Head0
import HandS.Head1
import HandS.Head2
import HandS.HeadEnd
import HandS.HeadHook1
import HandS.HeadHook2
import HandS.HeadHook3
import HandS.HeadHook4
import HandS.Head3
import KE.KExcPX
import PySem.Challenge.RW_callsthrough_k12_whole_strict_over_all_s
set_option Elab.async false
set_option linter.all false
set_option maxRecDepth 100000
set_option maxHeartbeats 4000000
namespace Com
open PySem PySem.Spec PyProof.Rows L2
/-- the module has the name x of the def st -/
structure DefAt (K : PySem.W.Frag) (mg : Str → Option Value) (x : Str) (st : Stmt) (ps : List Str) : Prop where
  ex : ∃ (f : Addr) (fd : FuncData), Fun K x x st f fd ∧ mg x = some (.ref f) ∧ Binds K fd ps []
/-- the class at C has the method m, the def st -/
structure MethAt (K : PySem.W.Frag) (C : Addr) (m qual : Str) (st : Stmt) (ps : List Str) : Prop where
  ex : ∃ (f : Addr) (fd : FuncData), Fun K m qual st f fd ∧ Meth K C m f ∧ Binds K fd ps []
/-- the promises -/
structure DefOk (P : Program) (w : World) (K : PySem.W.Frag) (mg : Str → Option Value) (base : Heap) (CX : CXT) (k : Nat) (x : Str) (sp : Sp) : Prop where
  ex : ∃ f : Addr, FnR P w K mg base CX k f sp ∧ mg x = some (.ref f) ∧ PySem.W.keepIn K (.ref f) = true
structure MethOk (P : Program) (w : World) (K : PySem.W.Frag) (mg : Str → Option Value) (base : Heap) (CX : CXT) (k : Nat) (C : Addr) (m : Str) (sp : Sp) : Prop where
  ex : ∃ f : Addr, FnR P w K mg base CX k f sp ∧ Meth K C m f
structure NewOk (P : Program) (w : World) (K : PySem.W.Frag) (mg : Str → Option Value) (base : Heap) (CX : CXT) (k : Nat) (x : Str) (C : Addr) (sp : Sp) : Prop where
  ex : ∃ f : Addr, FnR P w K mg base CX k f sp ∧ Mk K C f
  mg : mg x = some (.ref C)
theorem DefAt.of {K : PySem.W.Frag} {mg : Str → Option Value} {h : Heap} {x : Str} {st : Stmt} {ps : List Str} {f : Addr} {oc : Value} {od an : Option Addr} {osl : Array (Option Value)} {kV doc pm cdv ct : Value}
    (X : K.In h) (G : h.Ns mainGlobals mg) (a : PySem.W.nsIn K mainGlobals x = some (some (.ref f)))
    (l : K.lookup f = some ⟨oc, od, .func (PySem.W.fnOf x x (defArgs st) (defBody st) (defScope st) .none kV doc pm an cdv ct), osl⟩) (c : PySem.W.codeIn K cdv x = true) (k : PySem.W.keepIn K (.ref f) = true)
    (b : ∀ (kV doc pm : Value) (an : Option Addr) (cdv ct : Value) (us : List Value), us.length = ps.length → bindArgs (PySem.W.fnOf x x (defArgs st) (defBody st) (defScope st) .none kV doc pm an cdv ct) ⟨us, []⟩ = pure (ps.zip us)) :
    DefAt K mg x st ps := ⟨f, _, fun_mk l c k, PySem.W.mg_of X G a, (fun_mk l c k).binds b⟩
theorem MethAt.of {K : PySem.W.Frag} {C : Addr} {m qual : Str} {st : Stmt} {ps : List Str} {f : Addr} {oc : Value} {od an : Option Addr} {osl : Array (Option Value)} {kV doc pm cdv ct : Value}
    (a : PySem.W.findIn K (.ref C) m = some (some (.ref f))) (i : PySem.W.isFn K (.ref f) = true)
    (l : K.lookup f = some ⟨oc, od, .func (PySem.W.fnOf m qual (defArgs st) (defBody st) (defScope st) .none kV doc pm an cdv ct), osl⟩) (c : PySem.W.codeIn K cdv qual = true) (k : PySem.W.keepIn K (.ref f) = true)
    (b : ∀ (kV doc pm : Value) (an : Option Addr) (cdv ct : Value) (us : List Value), us.length = ps.length → bindArgs (PySem.W.fnOf m qual (defArgs st) (defBody st) (defScope st) .none kV doc pm an cdv ct) ⟨us, []⟩ = pure (ps.zip us)) :
    MethAt K C m qual st ps := ⟨f, _, fun_mk l c k, ⟨a, i, k⟩, (fun_mk l c k).binds b⟩
theorem raw0 {P : Program} {w : World} {K : PySem.W.Frag} {mg : Str → Option Value} {base : Heap} {CX : CXT} {k : Nat} {f : Addr} {fd : FuncData} {ps : List Str} {sp : Sp} (F : FnOk P w K mg base CX k f fd ps sp) (b : Binds K fd ps []) : FnR P w K mg base CX k f sp :=
  (F.raw (ds := []) (dvs := []) b .nil).imp fun vs H Q E h => by rw [List.append_nil]; exact h
section
variable {P : Program} {w : World} {K : PySem.W.Frag} {mg : Str → Option Value} {base : Heap} {x qual : Str} {C : Addr} {st : Stmt} {ps N : List Str} {k : Nat} {sp : Sp}
theorem DefAt.ok (D : DefAt K mg x st ps) (S : FnScope N ps (defScope st)) (len : ∀ vs H Q E, sp vs H Q E → vs.length = ps.length)
    (hbody : ∀ (f : Addr) (cdv : Value) (A : Around) (outer : List Env) (s : Shared) (H : Hp) (vs : List V) (Q : VK) (E : XK), Room k (A.deeper (envOfC x (defScope st) s.heap.objs.size f cdv)) → sp vs H Q E →
      ∃ t, PSs (cxOf CX0 P w K mg base N x (defScope st) f cdv A outer s H E).nox (defBody st) t ∧ t { nx := fun _ H' => Q .non H', rt := Q } (start N vs) H) : DefOk P w K mg base CX0 (k + 1) x sp := by
  obtain ⟨f, fd, F, m, b⟩ := D.ex
  exact ⟨f, raw0 (F.ok S len (fun cdv A outer s H vs Q E hr h => hbody f cdv A outer s H vs Q E hr h)) b, m, F.kp⟩
theorem MethAt.fn (D : MethAt K C x qual st ps) (S : FnScope N ps (defScope st)) (len : ∀ vs H Q E, sp vs H Q E → vs.length = ps.length)
    (hbody : ∀ (f : Addr) (cdv : Value) (A : Around) (outer : List Env) (s : Shared) (H : Hp) (vs : List V) (Q : VK) (E : XK), Room k (A.deeper (envOfC qual (defScope st) s.heap.objs.size f cdv)) → sp vs H Q E →
      ∃ t, PSs (cxOf CX0 P w K mg base N qual (defScope st) f cdv A outer s H E).nox (defBody st) t ∧ t { nx := fun _ H' => Q .non H', rt := Q } (start N vs) H) : MethOk P w K mg base CX0 (k + 1) C x sp := by
  obtain ⟨f, fd, F, m, b⟩ := D.ex
  exact ⟨f, raw0 (F.ok S len (fun cdv A outer s H vs Q E hr h => hbody f cdv A outer s H vs Q E hr h)) b, m⟩
theorem DefOk.mono {CX : CXT} {j : Nat} (D : DefOk P w K mg base CX j x sp) (h : j ≤ k) : DefOk P w K mg base CX k x sp := let ⟨f, F, m, kp⟩ := D.ex; ⟨f, F.mono h, m, kp⟩
theorem MethOk.mono {CX : CXT} {j : Nat} (D : MethOk P w K mg base CX j C x sp) (h : j ≤ k) : MethOk P w K mg base CX k C x sp := let ⟨f, F, m⟩ := D.ex; ⟨f, F.mono h, m⟩
/-- an __init__ makes its class makeable -/
theorem MethOk.new {CX : CXT} (D : MethOk P w K mg base CX k C "__init__" sp) (mk : PySem.W.makesIn K C = true) (kc : PySem.W.keepIn K (.ref C) = true) (hm : mg x = some (.ref C)) : NewOk P w K mg base CX k x C sp :=
  let ⟨f, F, m⟩ := D.ex; ⟨⟨f, F, ⟨mk, m.at_, m.fn, kc⟩⟩, hm⟩
end
def tDef (sp : Sp) (E : XK) (t : TA) : TE := fun σ H Q => t σ H fun vs H1 => sp vs H1 Q E
def tNew (C : Addr) (sp : Sp) (E : XK) (t : TA) : TE := fun σ H Q => t σ H fun vs H1 => ∀ x dx, H1 x = none → H1 dx = none → dx ≠ x →
  sp (.ref x :: vs) (upd (upd H1 dx (.own x)) x (.ins C dx [])) (fun v H2 => v = .non ∧ Q (.ref x) H2) E
def tMth (C : Addr) (m : Str) (sp : Sp) (E : XK) (ta : TE) (t : TA) : TE := fun σ H Q => ta σ H fun x H1 => ∃ a dx fs, x = .ref a ∧ H1 a = some (.ins C dx fs) ∧ fs.lookup m = none ∧ t σ H1 fun vs H2 => sp (x :: vs) H2 Q E
section
variable {X : Cx} {CX : CXT} {k j : Nat} {C f : Addr} {sp : Sp} {E : XK} {x m : Str} {p pos apos : Pos} {o e : Expr} {es : List Expr} {ta : TE} {t : TA} {i : Nat}
theorem runR {pins : List (Addr × Obj)} {σ : L2.St} {H : Hp} {s : Shared} {Q : VK} {us : List Value} {vs : List V} (F : FnR X.prog X.w X.K X.mg X.base CX j f sp) (hr : Room k X.A) (hjk : j ≤ k) (hx : Passes CX X E) (I : Inv X pins σ H s) (r : Vals vs us) (h : sp vs H Q E) :
    wpAny (model X.prog X.w) X.A (call (.ref f) us) (EP X pins σ Q) X.xe s := wpAny_call (run_fnR F (hr.mono hjk) hx I r h)
theorem pe_def (D : DefOk X.prog X.w X.K X.mg X.base CX j x sp) (hr : Room k X.A) (hjk : j ≤ k) (hx : Passes CX X E) (ha : PA X (e :: es) t) (hg : Gl X x := by rfl) (hdb : (x == ("__debug__" : Str)) = false := by decide)
    (he : starEach (e :: es) X.env = (false, eval e X.env) :: starEach es X.env := by rfl) (hpl : (backTo pos (starEach es X.env)).any (·.1) = false := by rfl) :
    PE X (.Call (.Name x p) (e :: es) [] pos) (tDef sp E t) := by
  obtain ⟨f, F, m, kp⟩ := D.ex
  refine ⟨fun pins s σ H Q I h => ?_⟩
  refine wpAny_Call_Name_kw (ld_glob I hg m ?_ hdb)
  refine PySem.W.callWith_K (h₀ := X.base) I.ok.mod.kin kp (thn (ha.run pos pins s σ H _ I h) fun us s1 ⟨vs, H1, I1, r, q⟩ => ⟨I1.kIn, ?_⟩) he hpl
  exact runR F hr hjk hx I1 r q
theorem runNew {pins : List (Addr × Obj)} {σ : L2.St} {H : Hp} {s : Shared} {Q : VK} {us : List Value} {vs : List V} (M : Mk X.K C f) (F : FnR X.prog X.w X.K X.mg X.base CX j f sp) (hr : Room (k + 1) X.A) (hjk : j ≤ k)
    (hx : Passes CX X E) (I : Inv X pins σ H s) (r : Vals vs us)
    (h : ∀ x dx, H x = none → H dx = none → dx ≠ x → sp (.ref x :: vs) (upd (upd H dx (.own x)) x (.ins C dx [])) (fun v H2 => v = .non ∧ Q (.ref x) H2) E) :
    wpAny (model X.prog X.w) X.A (call (.ref C) us) (EP X pins σ Q) X.xe s := by
  have hq := h (s.heap.objs.size + 1) s.heap.objs.size (I.hok.fresh (Nat.le_succ _)) (I.hok.fresh (Nat.le_refl _)) (Nat.ne_of_lt (Nat.lt_succ_self _))
  have I2 := Inv.made (C := C) I
  have r2 : Vals (V.ref (s.heap.objs.size + 1) :: vs) (Value.ref (s.heap.objs.size + 1) :: us) := .cons rfl r
  refine wpAny_call (make_map (f := f) I.kIn M.makes M.init (beq_iff_eq.mp M.fn) (codeAny_mono (F _ X.stack _ _ (Value.ref (s.heap.objs.size + 1) :: us) _ _ E ((hr.make C us []).mono hjk)
    (I2.env0.make C us []) r2 hq) fun r s' hq' => ?_))
  cases r with
  | error e => exact hx pins σ _ _ e s' I2 hq'
  | ok fl =>
    cases fl with
    | ret u =>
      obtain ⟨v, H', I3, rv, ev, q3⟩ := I2.after hq'
      subst ev
      exact ⟨rv, ⟨V.ref (s.heap.objs.size + 1), H', I3, rfl, q3⟩⟩
    | next => exact False.elim hq'
    | brk => exact False.elim hq'
    | cont => exact False.elim hq'
theorem pe_new (M : NewOk X.prog X.w X.K X.mg X.base CX j x C sp) (hr : Room (k + 1) X.A) (hjk : j ≤ k) (hx : Passes CX X E) (ha : PA X (e :: es) t) (hg : Gl X x := by rfl) (hdb : (x == ("__debug__" : Str)) = false := by decide)
    (he : starEach (e :: es) X.env = (false, eval e X.env) :: starEach es X.env := by rfl) (hpl : (backTo pos (starEach es X.env)).any (·.1) = false := by rfl) :
    PE X (.Call (.Name x p) (e :: es) [] pos) (tNew C sp E t) := by
  obtain ⟨f, F, M1⟩ := M.ex
  refine ⟨fun pins s σ H Q I h => ?_⟩
  refine wpAny_Call_Name_kw (ld_glob I hg M.mg ?_ hdb)
  refine PySem.W.callWith_K (h₀ := X.base) I.ok.mod.kin M1.kp (thn (ha.run pos pins s σ H _ I h) fun us s1 ⟨vs, H1, I1, r, q⟩ => ⟨I1.kIn, ?_⟩) he hpl
  exact runNew M1 F hr hjk hx I1 r q
theorem pe_mth {pl : Sem Bool} (he : PE X o ta) (c : Cls X.K C) (M : MethOk X.prog X.w X.K X.mg X.base CX j C m sp) (hr : Room k X.A) (hjk : j ≤ k) (hx : Passes CX X E) (ha : PA X (e :: es) t)
    (hst : starEach (e :: es) X.env = (false, eval e X.env) :: starEach es X.env := by rfl) (hpl : (backTo pos (starEach es X.env)).any (·.1) = false := by rfl)
    (ht : eval (.Call (.Attribute o m apos) (e :: es) [] pos) X.env = (do
      let ov ← eval o X.env
      standAt apos.atName
      let (f, first) ← holding [ov] (getMethod ov m pl)
      callWith pos f first (backTo pos (starEach (e :: es) X.env)) (backToKw pos (keywordEach [] X.env))) := by rfl) :
    PE X (.Call (.Attribute o m apos) (e :: es) [] pos) (tMth C m sp E ta t) := by
  obtain ⟨g, F, hm⟩ := M.ex
  refine ⟨fun pins s σ H Q I h => ?_⟩
  refine PySem.W.methodCall_KW (pl := pl) (thn (he.run pins s σ H _ I h) fun u s1 ⟨x, H1, I1, rx, a, dx, fs, ex, ea, l, q⟩ => ?_) ht
  subst ex
  obtain rfl : u = Value.ref a := rx
  refine getmeth_ok I1 ea c hm l ?_
  refine PySem.W.callWith_K (first := [.ref a]) (h₀ := X.base) I.ok.mod.kin hm.kp (thn (ha.run pos pins s1 σ H1 _ I1 q) fun us s2 ⟨vs, H2, I2, r, q2⟩ => ⟨I2.kIn, ?_⟩) hst hpl
  exact runR (us := .ref a :: us) (vs := .ref a :: vs) F hr hjk hx I2 (.cons rfl r) q2
theorem pe_mth0 {pl : Sem Bool} (he : PE X o ta) (c : Cls X.K C) (M : MethOk X.prog X.w X.K X.mg X.base CX j C m sp) (hr : Room k X.A) (hjk : j ≤ k) (hx : Passes CX X E)
    (ht : eval (.Call (.Attribute o m apos) [] [] pos) X.env = (do
      let ov ← eval o X.env
      standAt apos.atName
      let (f, first) ← holding [ov] (getMethod ov m pl)
      callWith pos f first (backTo pos (starEach [] X.env)) (backToKw pos (keywordEach [] X.env))) := by rfl) :
    PE X (.Call (.Attribute o m apos) [] [] pos) (tMth C m sp E ta tNil) := by
  obtain ⟨g, F, hm⟩ := M.ex
  refine ⟨fun pins s σ H Q I h => ?_⟩
  refine PySem.W.methodCall_KW (pl := pl) (thn (he.run pins s σ H _ I h) fun u s1 ⟨x, H1, I1, rx, a, dx, fs, ex, ea, l, q⟩ => ?_) ht
  subst ex
  obtain rfl : u = Value.ref a := rx
  refine getmeth_ok I1 ea c hm l ?_
  exact PySem.W.callWith_K0 (first := [.ref a]) I1.kIn hm.kp (runR (us := [.ref a]) (vs := [.ref a]) F hr hjk hx I1 (.cons rfl .nil) q)
end
theorem get_list {X : Cx} : PGet X (rIxL X.K) := by
  intro pins s σ H o i ov iv Q I ro ri h
  obtain ⟨p, xs, i, z, rfl, rfl, hq, he, q⟩ := h
  cases ro
  obtain ⟨t, rfl⟩ := ri
  obtain ⟨its, r, pl, hz⟩ := I.list hq
  obtain ⟨j, h1, h2, h3, h4, h5⟩ := atI_get he
  obtain ⟨w, ew, rw'⟩ := r.get h2
  have hl := r.length
  have hn := line63
  have fin : EP X pins σ Q w s := ⟨z, H, I, rw', q⟩
  by_cases h0 : 0 ≤ i
  · have hj : i.toNat = j := by
      rw [seqIndex_of h0 h5] at h1
      exact Option.some.inj h1
    exact wpAny_getItem_list pl.isList h0 (by omega) (by rw [hj]; simpa using ew) fin
  · have hj : (i + (its.toArray.size : Int)).toNat = j := by
      rw [seqIndex_neg (by omega) h4] at h1
      rw [List.size_toArray, ← hl]
      exact Option.some.inj h1
    exact wpAny_getItem_list_neg pl.isList (by omega) (by rw [List.size_toArray] <;> omega) (by omega) (by rw [hj]; simpa using ew) fin
theorem TyOf.same {K : PySem.W.Frag} {H H' : Hp} (s : Same H H') {x : V} {t : Value} (h : TyOf K H x t) : TyOf K H' x t := by
  cases h with
  | non => exact .non
  | bl x => exact .bl x
  | int i => exact .int i
  | str x => exact .str x
  | flt x => exact .flt x
  | lst e => exact .lst (s _ _ e)
  | frz e => exact .frz (s _ _ e)
  | tup e => exact .tup (s _ _ e)
  | dK e => exact .dK (s _ _ e)
  | dT e => exact .dT (s _ _ e)
  | ins e cl ha hn htk hm => exact .ins (s _ _ e) cl ha hn htk hm
theorem TyX.same {K : PySem.W.Frag} {H H' : Hp} (s : Same H H') {x : V} {t : Value} (h : TyX K H x t) : TyX K H' x t := by
  cases h with
  | base h => exact .base (TyOf.same s h)
  | byt b => exact .byt b
  | set e => exact .set (s _ _ e)
  | kList e c => exact .kList e c
  | kTuple e c => exact .kTuple e c
  | kDict e c => exact .kDict e c
  | fTuple e => exact .fTuple (s _ _ e)
  | fDict e => exact .fDict (s _ _ e)
end Com
namespace Com
open PySem PySem.Spec PyProof.Rows L2
def tI (ds : List Int) : PyData := .tuple (ds.map .int)
theorem eqvAll_ints : ∀ ds es : List Int, PyData.eqvAll (ds.map .int) (es.map .int) = decide (ds = es)
  | [], [] => rfl
  | [], e :: es => by simp [PyData.eqvAll]
  | d :: ds, [] => by simp [PyData.eqvAll]
  | d :: ds, e :: es => by
    rw [List.map_cons, List.map_cons, PyData.eqvAll, eqvAll_ints ds es, PyData.eqv]
    by_cases h : d = e
    · subst h
      by_cases h2 : ds = es
      · subst h2; simp
      · simp [h2]
    · simp [h]
theorem eqv_tI (ds es : List Int) : PyData.eqv (tI ds) (tI es) = decide (ds = es) := by
  show PyData.eqv (.tuple _) (.tuple _) = _
  rw [PyData.eqv]
  exact eqvAll_ints ds es
def pD (p : Int × Int) : PyData := tI [p.1, p.2]
theorem eqv_pD (p q : Int × Int) : PyData.eqv (pD p) (pD q) = decide (p = q) := by
  unfold pD
  rw [eqv_tI]
  obtain ⟨a, b⟩ := p
  obtain ⟨c, d⟩ := q
  simp
/-- at a list's places tuples of two ints: the pairs ps -/
def PairsV (H : Hp) : List V → List (Int × Int) → Prop := Paired fun v p => ∃ a, v = .ref a ∧ H a = some (.tup [.int p.1, .int p.2])
theorem PairsV.same {H H' : Hp} (s : Same H H') : ∀ {vs : List V} {ps : List (Int × Int)}, PairsV H vs ps → PairsV H' vs ps
  | _, _, .nil => .nil
  | _, _, .cons ⟨a, e, h⟩ t => .cons ⟨a, e, s _ _ h⟩ (PairsV.same s t)
theorem PairsV.mono {H H' : Hp} (s : ∀ b xs, H b = some (.tup xs) → H' b = some (.tup xs)) : ∀ {vs : List V} {ps : List (Int × Int)}, PairsV H vs ps → PairsV H' vs ps
  | _, _, .nil => .nil
  | _, _, .cons ⟨a, e, h⟩ t => .cons ⟨a, e, s _ _ h⟩ (PairsV.mono s t)
theorem putF_nil {f : Str} {v : V} : putF f v [] = [(f, v)] := rfl
theorem putF_ne {f g : Str} {v w : V} {fs : List (Str × V)} (h : ¬ g = f) : putF f v ((g, w) :: fs) = (g, w) :: putF f v fs := by
  show (if g = f then _ else _) = _
  rw [if_neg h]
theorem ifB {b : Bool} {A B : Prop} (h1 : b = true → A) (h2 : b = false → B) : if b = true then A else B := by
  cases b with
  | true => exact iteT (h1 rfl)
  | false => exact iteF (h2 rfl)
theorem mulm {x m y : Int} (h0 : 0 < m) (h : m < 2 ^ 64) : CMul (x % m) y :=
  .inl ⟨by have := Int.emod_nonneg x (show m ≠ 0 by omega); omega, by have := Int.emod_lt_of_pos x h0; omega⟩
theorem len1 {n : Nat} (h : n ≤ 1000) : n ≤ sizeLine := Nat.le_of_lt (small1000 h)
theorem divW {n size : Int} (h1 : 1 ≤ size) (h2 : size < 2 ^ 200) : CDivW n size := wide_div (b := 200) (by omega) (by
  have : ((2 : Int) ^ 200) = (((2 : Nat) ^ 200 : Nat) : Int) := by decide
  omega) (by decide) (by decide)
/-- all that stood but what stood at a stands; nothing new but .. -/
def But (a : Addr) (H H' : Hp) : Prop := ∀ b, b ≠ a → H' b = H b
theorem But.upd {H : Hp} {p : Addr} {o : HO} : But p H (upd H p o) := fun b hb => upd_ne hb
theorem But.same {H H' : Hp} {p : Addr} (h : But p H H') (n : H p = none) : Same H H' := fun b o e => by rw [h b (ne_of_none e n)]; exact e
theorem Same.upd {H : Hp} {p : Addr} {o : HO} (n : H p = none) : Same H (upd H p o) := fun b u e => by rw [upd_ne (ne_of_none e n)]; exact e
/-- at a the three numbers of a flow of draws -/
def FlowAt (H : Hp) (a : Addr) : Prop := ∃ n c r : Int, H a = some (.lst [.int n, .int c, .int r])
theorem FlowAt.new {H : Hp} {p : Addr} {n c r : Int} : FlowAt (upd H p (.lst [.int n, .int c, .int r])) p := ⟨n, c, r, upd_same⟩
end Com
namespace Com
open PySem PySem.Spec PyProof.Rows L2
theorem lp_tup {K : PySem.W.Frag} {a : Addr} {xs : List V} {H0 : Hp} {Qd : Hp → Prop} {B : V → Hp → (Hp → Prop) → Prop} (Pv : Nat → Hp → Prop) (h0 : Pv 0 H0) (hl : ∀ i H, i ≤ xs.length → Pv i H → SqT K H a xs) (hs : ∀ i x H, xs[i]? = some x → Pv i H → B x H (Pv (i + 1))) (hd : ∀ H, Pv xs.length H → Qd H) :
    ∃ W : Nat → Nat → Hp → Prop, (∃ m, W 0 m H0) ∧ ∀ i m H, W i m H → ((Itt K a).stop i H ∧ Qd H) ∨ ((Itt K a).go i H ∧ ∃ Nx : Hp → Prop, (∀ H', Nx H' → ∃ m', m' < m ∧ W (i + 1) m' H') ∧ ∀ x H', (Itt K a).yld i H x H' → B x H' Nx) := by
  refine ⟨fun i m H => m = xs.length - i ∧ i ≤ xs.length ∧ Pv i H, ⟨xs.length, by simp, Nat.zero_le _, h0⟩, ?_⟩
  rintro i m H ⟨rfl, hi, p⟩
  have q := hl i H hi p
  by_cases hlt : i < xs.length
  · refine .inr ⟨⟨xs, xs[i], q, by simp [hlt]⟩, Pv (i + 1), fun H' p' => ⟨xs.length - (i + 1), by omega, rfl, hlt, p'⟩, fun x H' y => ?_⟩
    obtain ⟨e, y⟩ := y
    subst e
    exact hs i x _ (y xs q) p
  · have e : i = xs.length := by omega
    subst e
    exact .inl ⟨⟨xs, q, Nat.le_refl _⟩, hd H p⟩
/-- isinstance(x, int) and not isinstance(x, bool): its answer -/
def PlainI (K : PySem.W.Frag) (H : Hp) (x : V) (b : Bool) : Prop := ∃ t b1, TyX K H x t ∧ PySem.W.kitOne K t (.type "int") = some b1 ∧ (b1 = false → b = false) ∧ (b1 = true → ∃ b2, PySem.W.kitOne K t (.type "bool") = some b2 ∧ b = !b2)
theorem PlainI.int {K : PySem.W.Frag} {H : Hp} (i : Int) : PlainI K H (.int i) true := ⟨.type "int", true, .base (.int i), kit_ty (by decide +kernel), (fun h => nomatch h), fun _ => ⟨false, kit_ty (by decide +kernel), rfl⟩⟩
theorem PlainI.same {K : PySem.W.Frag} {H H' : Hp} (s : Same H H') {x : V} {b : Bool} (h : PlainI K H x b) : PlainI K H' x b := let ⟨t, b1, ty, r⟩ := h; ⟨t, b1, TyX.same s ty, r⟩
/-- is x an integer from lo to hi: the answer -/
def InR (K : PySem.W.Frag) (H : Hp) (x : V) (lo hi : Int) (b : Bool) : Prop := (∃ i, x = .int i ∧ b = (decide (lo ≤ i) && decide (i ≤ hi))) ∨ (PlainI K H x false ∧ b = false)
theorem InR.same {K : PySem.W.Frag} {H H' : Hp} (s : Same H H') {x : V} {lo hi : Int} {b : Bool} (h : InR K H x lo hi b) : InR K H' x lo hi b := h.elim .inl fun ⟨p, e⟩ => .inr ⟨p.same s, e⟩
theorem InR.good {K : PySem.W.Frag} {H : Hp} {i lo hi : Int} (h1 : lo ≤ i) (h2 : i ≤ hi) : InR K H (.int i) lo hi true := .inl ⟨i, rfl, by rw [decide_eq_true h1, decide_eq_true h2]; rfl⟩
end Com
namespace Com
open PySem PySem.Spec PyProof.Rows L2
theorem pe_gint {X : Cx} {x : Str} {i : Int} {t : Tok} {pos : Pos} (hg : Gl X x) (hm : X.mg x = some (.int i t)) (hd : (x == ("__debug__" : Str)) = false := by decide) : PE X (.Name x pos) (tC (.int i)) := pe_glob (v := .int i) hg hm ⟨t, rfl⟩ hd
end Com
namespace Com
open PySem PySem.Spec PyProof.Rows L2
end Com
namespace Com
open PySem PySem.Spec PyProof.Rows L2
/-- all pairs, ascending -/
def rowL (i m : Nat) : List (Int × Int) := (List.range m).map fun (j : Nat) => ((i : Int), (j : Int))
def pairsL (n m : Nat) : List (Int × Int) := (List.range n).flatMap fun i => rowL i m
theorem pairsL_succ (n m : Nat) : pairsL (n + 1) m = pairsL n m ++ rowL n m := by
  unfold pairsL
  rw [List.range_succ, List.flatMap_append]
  simp
theorem rowL_len (i m : Nat) : (rowL i m).length = m := by simp [rowL]
theorem pairsL_len (n m : Nat) : (pairsL n m).length = n * m := by
  induction n with
  | zero => simp [pairsL]
  | succ n ih => rw [pairsL_succ, List.length_append, ih, rowL_len, Nat.succ_mul]
end Com
namespace Com
open PySem PySem.Spec PyProof.Rows L2
def rLen (K : PySem.W.Frag) : List V → Hp → VK → Prop := fun xs H Q => ∃ p ys, xs = [.ref p] ∧ (SqL K H p ys ∨ SqT K H p ys) ∧ Q (.int (ys.length : Nat)) H
def rListOf (K : PySem.W.Frag) : List V → Hp → VK → Prop := fun xs H Q => ∃ p ys, xs = [.ref p] ∧ (SqL K H p ys ∨ SqT K H p ys) ∧ ∀ l, H l = none → Q (.ref l) (upd H l (.lst ys))
def rTupleOf (K : PySem.W.Frag) : List V → Hp → VK → Prop := fun xs H Q => ∃ p ys, xs = [.ref p] ∧ ((SqL K H p ys ∧ ∀ l, H l = none → Q (.ref l) (upd H l (.tup ys))) ∨ (SqT K H p ys ∧ Q (.ref p) H))
section
variable {X : Cx} {K : PySem.W.Frag} {e o value : Expr} {f : Str} {pos pos' : Pos} {ta tv tl : TE} {tg : Expr}
theorem pe_fldK (K : PySem.W.Frag) (he : PE X e ta) (hb : attributeBase e f X.env (eval e X.env) = eval e X.env := by rfl) (hK : X.K = K := by rfl) : PE X (.Attribute e f pos) (tFld K ta f) := by subst hK; exact pe_fld he hb
theorem ps_fldK (K : PySem.W.Frag) (ha : PE X o ta) (hv : PE X value tv) (hs : swapsWith value (some (.Attribute o f pos')) pos.line X.env = pure false := by rfl) (hK : X.K = K := by rfl) : PS X (.Assign [.Attribute o f pos'] value pos) (sFld K ta tv f) := by subst hK; exact ps_fld ha hv hs
theorem cl_len (K : PySem.W.Frag) (hK : X.K = K := by rfl) : CallR X (.builtin "len") (rLen K) := by subst hK; exact call_len_seq
theorem cl_isi (K : PySem.W.Frag) (hK : X.K = K := by rfl) : CallR X (.builtin "isinstance") (rIsi K) := by subst hK; exact call_isi
theorem cl_list (K : PySem.W.Frag) (hK : X.K = K := by rfl) : CallR X (.type "list") (rListOf K) := by subst hK; exact call_list_of
theorem cl_tuple (K : PySem.W.Frag) (hK : X.K = K := by rfl) : CallR X (.type "tuple") (rTupleOf K) := by subst hK; exact call_tuple_of
theorem cl_all (K : PySem.W.Frag) (hc : X.calm = true := by rfl) (hK : X.K = K := by rfl) : CallR X (.builtin "all") (rAll K) := by subst hK; exact cr_all hc
theorem ixL (K : PySem.W.Frag) (hK : X.K = K := by rfl) : IxR X (rIxL K) := by subst hK; exact ix_list
theorem ixT (K : PySem.W.Frag) (hK : X.K = K := by rfl) : IxR X (rIxT K) := by subst hK; exact ix_tup
theorem getL (K : PySem.W.Frag) (hK : X.K = K := by rfl) : PGet X (rIxL K) := by subst hK; exact get_list
theorem eqD (K : PySem.W.Frag) (hu : X.A.units + 64 < cLine) (hK : X.K = K := by rfl) : OpR X (compareOp .Eq) (rEqD K) := by subst hK; exact op_eqD hu
theorem neD (K : PySem.W.Frag) (hu : X.A.units + 64 < cLine) (hK : X.K = K := by rfl) : OpR X (compareOp .NotEq) (rNeD K) := by subst hK; exact op_neD hu
theorem piT (K : PySem.W.Frag) {l : Expr} (hl : PE X l tl) (hK : X.K = K := by rfl) : PI X tg l (iTup K tl) := by subst hK; exact pi_tup hl
theorem slL (K : PySem.W.Frag) (hK : X.K = K := by rfl) : SlR X (rSlL K) := by subst hK; exact sl_list
end
end Com
namespace Com
open PySem PySem.Spec PyProof.Rows L2
theorem tuple_mul1 (l : Addr) (items : Array Value) (n : Nat) (dd : Option Addr) (sl : Array (Option Value)) (u : Tok) :
    Meets (Builtin.«tuple.__mul__» ⟨[.ref l, .int 1 u], []⟩) (fun _ R s => s.heap.get? l = some { cls := .type "tuple", dict := dd, data := .seq items n, slots := sl } ∧ R (.ok (.ret (.ref l))) s) :=
  .of_wp fun prog w A R s h => by
    obtain ⟨hp, g, d, tk, os⟩ := s
    obtain ⟨hl, h⟩ := h
    have f1 := AutoSeq1.idx_int
    have c1 : (items.isEmpty || (1 : Int) == 1) = true := by simp
    wp_walk using wpAny_loadPart' hl
    repeat (first
      | (refine wpAny_ite_true (decide_eq_true c1) ?_; wp_walk using wpAny_loadPart' hl)
      | (refine wpAny_ite_false (decide_eq_false (by decide)) ?_; wp_walk using wpAny_loadPart' hl))
    exact ⟨_, rfl, h⟩
def rRep1 (K : PySem.W.Frag) : R2 := fun x y H Q => ∃ l xs, x = .ref l ∧ y = .int 1 ∧ SqT K H l xs ∧ Q (.ref l) H
theorem op_rep1 {X : Cx} : OpR X (binaryOp .Mult) (rRep1 X.K) := by
  intro pins s σ H x y v u Q I rx ry h
  obtain ⟨l, xs, rfl, rfl, hT, q⟩ := h
  cases rx
  obtain ⟨t, rfl⟩ := ry
  obtain ⟨its, r, ⟨⟨cls, dd, data, sl⟩, ho, hc, n, hd⟩, hs⟩ := I.tuple hT
  simp only at hc hd
  subst hc hd
  refine wpAny_binaryOp_repeat_ref (T := "tuple") (U := "int") (by decide) ⟨_, ho, rfl⟩ (fun s' => typeIs_int s' 1 t) noFill_tuple_mul F.fills_int_mul F.slot_int_rmul repeat_tuple F.slot_int_index.lookup
    (call_meets F.slot_int_rmul (typeIs_int s 1 t) F.entry_int_rmul (F.args_int_rmul_2 _ _) (int_rmul_tuple 1 t l its.toArray n dd sl)
      ⟨ho, rfl, ⟨_, ho, rfl⟩, call_meets F.slot_tuple_mul ⟨_, ho, rfl⟩ F.entry_tuple_mul (F.args_tuple_mul_2 _ _) (tuple_mul1 l its.toArray n dd sl t) ⟨ho, ?_⟩⟩)
  exact ⟨.ref l, H, I, rfl, q⟩
/-- the repeated tuple stands at p -/
def rRepA (K : PySem.W.Frag) : R2 := fun x y H Q => ∃ l k xs, x = .ref l ∧ y = .int k ∧ H l = some (.tup xs) ∧ xs ≠ [] ∧ 1 ≤ k ∧ k ≤ 1000 ∧ xs.length ≤ 1000 ∧ ∀ p H', (H' p = some (.tup (List.replicate k.toNat xs).flatten)) → Same H H' → Q (.ref p) H'
theorem repA {X : Cx} (K : PySem.W.Frag) (hK : X.K = K := by rfl) : OpR X (binaryOp .Mult) (rRepA K) := by
  subst hK
  intro pins s σ H x y v u Q I rx ry h
  obtain ⟨l, k, xs, e1, e2, hT, hne, h1, h2, hz, q⟩ := h
  by_cases hk : k = 1
  · subst hk
    exact op_rep1 pins s σ H x y v u Q I rx ry ⟨l, xs, e1, e2, SqT.of hT, q l H (by rw [hT]; simp) (Same.refl H)⟩
  · exact op_repT pins s σ H x y v u Q I rx ry ⟨l, k, xs, e1, e2, SqT.of hT, hne, by omega, h2, hz, fun p hp => q p _ upd_same (Com.Same.upd hp)⟩
end Com
namespace Com
open PySem PySem.Spec PyProof.Rows L2
def rCutT : V → Option Int → Option Int → Hp → VK → Prop := fun x lo hi H Q => ∃ a xs, x = .ref a ∧ H a = some (.tup xs) ∧ ∀ p H', H' p = some (.tup (cutV xs lo hi)) → Same H H' → Q (.ref p) H'
theorem slT {X : Cx} : SlR X rCutT := by
  intro x v vl vu lo hi sl Q I rx hs pl pu h
  revert x v vl vu lo hi sl Q I rx hs pl pu h
  intro pins s σ H x v vl vu lo hi sl Q I rx hs pl pu h
  obtain ⟨a, xs, rfl, hx, q⟩ := h
  refine sl_tupA pins s σ H (.ref a) v vl vu lo hi sl Q I rx hs pl pu ⟨a, xs, rfl, SqT.of hx, fun w => q a H ?_ (Same.refl H), fun _ p hp => q p _ upd_same (Com.Same.upd hp)⟩
  have e : cutV xs lo hi = xs := by
    unfold cutV
    rw [w.1, w.2, List.drop_zero, Nat.sub_zero, List.take_length]
  rw [e]
  exact hx
def rCatB : R2 := fun x y H Q => ∃ a b xs ys, x = .ref a ∧ y = .ref b ∧ H a = some (.tup xs) ∧ H b = some (.tup ys) ∧ xs.length + ys.length ≤ 1000 ∧ ∀ p H', H' p = some (.tup (xs ++ ys)) → Same H H' → Q (.ref p) H'
theorem catB {X : Cx} : OpR X (binaryOp .Add) rCatB := by
  intro pins s σ H x y v u Q I rx ry h
  obtain ⟨a, b, xs, ys, e1, e2, ha, hb, hz, q⟩ := h
  refine op_catA pins s σ H x y v u Q I rx ry ⟨a, b, xs, ys, e1, e2, SqT.of ha, SqT.of hb, len1 hz, fun e => q b H ?_ (Same.refl H), fun _ e => q a H ?_ (Same.refl H), fun _ _ p hp => q p _ upd_same (Com.Same.upd hp)⟩
  · rw [e, List.nil_append]; exact hb
  · rw [e, List.append_nil]; exact ha
end Com
namespace Com
open PySem PySem.Spec PyProof.Rows L2
theorem kit_self {K : PySem.W.Frag} {t : Value} : PySem.W.kitOne K t t = some true := by
  unfold PySem.W.kitOne
  rw [if_pos (by simp)]
theorem kit_own {K : PySem.W.Frag} {t : Value} {C : Addr} {b : Bool} (ic : PySem.W.isClsIn K C = true) (ty : PySem.W.typeIn K (.ref C) = some (.type "type")) (s : PySem.W.subIn K t (.ref C) = some b) (ne : (t == Value.ref C) = false) : PySem.W.kitOne K t (.ref C) = some b := by
  unfold PySem.W.kitOne
  rw [ne, if_neg Bool.false_ne_true]
  show (if ((PySem.W.clsIn K C).isSome && PySem.W.typeIn K (.ref C) == some (.type "type")) = true then PySem.W.subIn K t (.ref C) else none) = some b
  have h1 : (PySem.W.clsIn K C).isSome = true := ic
  rw [h1, ty, if_pos (by rfl)]
  exact s
theorem kit_type {K : PySem.W.Frag} {t : Value} {n : String} {b : Bool} (hm : PySem.W.kitMeta n = true) (s : PySem.W.subIn K t (.type n) = some b) (ne : (t == Value.type n) = false) : PySem.W.kitOne K t (.type n) = some b := by
  unfold PySem.W.kitOne
  rw [ne, if_neg Bool.false_ne_true]
  show (if PySem.W.kitMeta n = true then PySem.W.subIn K t (.type n) else none) = some b
  rw [if_pos hm]
  exact s
end Com
set_option Elab.async false
set_option linter.all false
set_option maxRecDepth 100000
set_option maxHeartbeats 4000000
namespace Num
def gc (t b : Int) : Int := ((Nat.gcd t.natAbs b.natAbs : Nat) : Int)
def cm (t b : Int) : Int := if b < 0 then -gc t b else gc t b
end Num
set_option Elab.async false
set_option linter.all false
set_option maxRecDepth 100000
set_option maxHeartbeats 4000000
namespace Com
open PySem PySem.Spec PyProof.Rows L2 PySem.W
end Com
namespace Com
open PySem PySem.Spec PyProof.Rows L2 PySem.W
end Com
namespace Com
open PySem PySem.Spec PyProof.Rows L2
end Com
namespace Com
open PySem PySem.Spec PyProof.Rows L2
theorem pgT {X : Cx} (K : PySem.W.Frag) {es : List Expr} {k : Nat} {t : TGs} {n : Nat} {pos : Pos} (h : PGs X es t) (hc : X.calm = true := by rfl)
    (hn : (assignEach es X.env).length = n := by rfl) (hst : (assignEach es X.env).findIdx? (·.1) = none := by rfl) (hK : X.K = K := by rfl) : PG X (.Tuple es k pos) (gTup K n t) := by subst hK; exact pg_tup hc h hn hst
end Com
namespace Com
open PySem PySem.Spec PyProof.Rows L2
def B (x : Int) (n : Nat) : Prop := x.natAbs < 2 ^ n
theorem B.mono {x : Int} {m n : Nat} (h : B x m) (hm : m ≤ n) : B x n := Nat.lt_of_lt_of_le h (Nat.pow_le_pow_right (by decide) hm)
theorem B.add {x y : Int} {n : Nat} (hx : B x n) (hy : B y n) : B (x + y) (n + 1) := by
  unfold B at *
  have : (x + y).natAbs ≤ x.natAbs + y.natAbs := Int.natAbs_add_le x y
  rw [Nat.pow_succ]
  omega
theorem B.neg {x : Int} {n : Nat} (h : B x n) : B (-x) n := by
  unfold B at *
  rwa [Int.natAbs_neg]
theorem B.sub {x y : Int} {n : Nat} (hx : B x n) (hy : B y n) : B (x - y) (n + 1) := by
  have := hx.add hy.neg
  rwa [← Int.sub_eq_add_neg] at this
theorem B.abs {x : Int} {n : Nat} (h : B x n) : B (if x < 0 then -x else x) n := by
  split
  · exact h.neg
  · exact h
theorem B.le {x : Int} {y : Int} {n : Nat} (h : B y n) (hl : x.natAbs ≤ y.natAbs) : B x n := Nat.lt_of_le_of_lt hl h
theorem B.of {x : Int} {n : Nat} {k : Nat} (h : x.natAbs ≤ k) (hk : k < 2 ^ n) : B x n := Nat.lt_of_le_of_lt h hk
end Com
set_option linter.all false
namespace Sd
abbrev PP := Int × Int
def leP (p q : PP) : Bool := decide (p.1 < q.1) || (decide (p.1 = q.1) && decide (p.2 ≤ q.2))
theorem leP_iff {p q : PP} : leP p q = true ↔ p.1 < q.1 ∨ (p.1 = q.1 ∧ p.2 ≤ q.2) := by simp [leP]
theorem leP_trans (a b c : PP) (h : leP a b = true) (g : leP b c = true) : leP a c = true := by
  rw [leP_iff] at *
  omega
theorem leP_total (a b : PP) : (leP a b || leP b a) = true := by
  rw [Bool.or_eq_true, leP_iff, leP_iff]
  omega
theorem leP_anti {a b : PP} (h : leP a b = true) (g : leP b a = true) : a = b := by
  rw [leP_iff] at *
  exact Prod.ext (by omega) (by omega)
def srt (ps : List PP) : List PP := ps.mergeSort leP
theorem srt_perm (ps : List PP) : (srt ps).Perm ps := List.mergeSort_perm ps leP
theorem srt_le (ps : List PP) : (srt ps).Pairwise (fun a b => leP a b = true) := List.pairwise_mergeSort leP_trans leP_total ps
theorem srt_uniq {ps qs : List PP} (h : qs.Perm ps) (g : qs.Pairwise (fun a b => leP a b = true)) : qs = srt ps :=
  List.Perm.eq_of_pairwise (fun a b _ _ x y => leP_anti x y) g (srt_le ps) (h.trans (srt_perm ps).symm)
/-- the pair's switches are free -/
def freeB (L : List PP) (p : PP) : Bool := L.all fun c => !decide (c.1 = p.1) && !decide (c.2 = p.2)
theorem freeB_iff {L : List PP} {p : PP} : freeB L p = true ↔ ∀ c ∈ L, c.1 ≠ p.1 ∧ c.2 ≠ p.2 := by
  simp [freeB, List.all_eq_true]
def InP (n m : Nat) (p : PP) : Prop := 0 ≤ p.1 ∧ p.1 < n ∧ 0 ≤ p.2 ∧ p.2 < m
instance {n m : Nat} {p : PP} : Decidable (InP n m p) := inferInstanceAs (Decidable (_ ∧ _ ∧ _ ∧ _))
structure LoadOk (n m : Nat) (L : List PP) : Prop where
  rng : ∀ p ∈ L, InP n m p
  asc : (L.map (·.1)).Pairwise (· < ·)
  nd : (L.map (·.2)).Nodup
theorem LoadOk.nil {n m : Nat} : LoadOk n m [] := ⟨(fun _ h => nomatch h), List.Pairwise.nil, List.nodup_nil⟩
theorem asc_nodup {L : List Int} (h : L.Pairwise (· < ·)) : L.Nodup := h.imp fun {a b} x => by omega
theorem asc_len : ∀ {L : List Int} {n : Nat} {k : Int}, 0 ≤ k → L.Pairwise (· < ·) → (∀ i ∈ L, k ≤ i ∧ i < n) → (L.length : Int) ≤ n - k ∨ L = []
  | [], _, _, _, _, _ => .inr rfl
  | i :: L, n, k, hk, h, g => by
    have gi := g i (List.mem_cons_self ..)
    rw [List.pairwise_cons] at h
    have := asc_len (L := L) (n := n) (k := i + 1) (by omega) h.2 fun j hj => ⟨by have := h.1 j hj; omega, (g j (List.mem_cons_of_mem _ hj)).2⟩
    left
    rcases this with e | e
    · rw [List.length_cons]; omega
    · rw [e]; simp; omega
theorem LoadOk.len {n m : Nat} {L : List PP} (h : LoadOk n m L) : L.length ≤ n := by
  have := asc_len (L := L.map (·.1)) (n := n) (k := 0) (by omega) h.asc fun i hi => by
    obtain ⟨p, hp, e⟩ := List.mem_map.mp hi
    have := h.rng p hp
    unfold InP at this
    omega
  rw [List.length_map] at this
  rcases this with e | e
  · omega
  · have : L = [] := List.map_eq_nil_iff.mp e
    rw [this]; simp
theorem LoadOk.srt_add {n m : Nat} {L : List PP} {p : PP} (h : LoadOk n m L) (hp : InP n m p) (hf : freeB L p = true) : LoadOk n m (srt (L ++ [p])) := by
  have pm : (srt (L ++ [p])).Perm (L ++ [p]) := srt_perm _
  rw [freeB_iff] at hf
  have nd1 : ((L ++ [p]).map (·.1)).Nodup := by
    rw [List.map_append, List.map_singleton, List.nodup_append]
    refine ⟨asc_nodup h.asc, by simp, fun a ha b hb => ?_⟩
    obtain ⟨c, hc, e⟩ := List.mem_map.mp ha
    have := hf c hc
    rw [List.mem_singleton.mp hb, ← e]
    exact this.1
  have nd2 : ((L ++ [p]).map (·.2)).Nodup := by
    rw [List.map_append, List.map_singleton, List.nodup_append]
    refine ⟨h.nd, by simp, fun a ha b hb => ?_⟩
    obtain ⟨c, hc, e⟩ := List.mem_map.mp ha
    have := hf c hc
    rw [List.mem_singleton.mp hb, ← e]
    exact this.2
  refine ⟨fun q hq => ?_, ?_, ((pm.map (·.2)).nodup_iff).mpr nd2⟩
  · rcases List.mem_append.mp (pm.mem_iff.mp hq) with e | e
    · exact h.rng q e
    · rw [List.mem_singleton.mp e]; exact hp
  · have n1 : ((srt (L ++ [p])).map (·.1)).Nodup := ((pm.map (·.1)).nodup_iff).mpr nd1
    have s1 := srt_le (L ++ [p])
    rw [List.Nodup, List.pairwise_map] at n1
    rw [List.pairwise_map]
    refine (s1.and n1).imp fun {a b} hh => ?_
    obtain ⟨x, y⟩ := hh
    rw [leP_iff] at x
    omega
/-- doors less calls -/
def left (ds : List Int) (is : List Int) : List Int := ds.mapIdx fun j d => d - ((is.count (j : Int) : Nat) : Int)
theorem left_len (ds is : List Int) : (left ds is).length = ds.length := by simp [left]
theorem left_get (ds is : List Int) (j : Nat) : (left ds is)[j]? = (ds[j]?).map fun d => d - ((is.count (j : Int) : Nat) : Int) := by
  unfold left
  rw [List.getElem?_mapIdx]
theorem left_nil (ds : List Int) : left ds [] = ds := by
  apply List.ext_getElem?
  intro j
  rw [left_get]
  simp
theorem left_perm {ds is js : List Int} (h : is.Perm js) : left ds is = left ds js := by
  apply List.ext_getElem?
  intro j
  rw [left_get, left_get, h.count_eq]
theorem left_snoc {ds is : List Int} {i : Nat} {x : Int} (h : (left ds is)[i]? = some x) : (left ds is).set i (x - 1) = left ds (is ++ [(i : Int)]) := by
  apply List.ext_getElem?
  intro j
  rw [List.getElem?_set, left_get ds (is ++ [(i : Int)]) j]
  by_cases e : i = j
  · subst e
    have hl : i < (left ds is).length := (List.getElem?_eq_some_iff.mp h).1
    rw [if_pos rfl, if_pos hl]
    rw [left_get] at h
    cases d : ds[i]? with
    | none => rw [d] at h; cases h
    | some d0 =>
      rw [d] at h
      simp only [Option.map_some, Option.some.injEq] at h
      simp only [Option.map_some, Option.some.injEq, List.count_append, List.count_singleton_self]
      omega
  · rw [if_neg e, left_get]
    have : (is ++ [(i : Int)]).count (j : Int) = is.count (j : Int) := by
      rw [List.count_append, List.count_singleton]
      have : ((i : Int) == (j : Int)) = false := by
        simp
        omega
      rw [this]
      simp
    rw [this]
def fs (S : List (List PP)) : List Int := S.flatten.map (·.1)
def sn (S : List (List PP)) : List Int := S.flatten.map (·.2)
structure StdOk (ds es : List Int) (m : Int) (S : List (List PP)) : Prop where
  len : (S.length : Int) = m
  ld : ∀ L ∈ S, LoadOk ds.length es.length L
  ci : ∀ d ∈ left ds (fs S), 0 ≤ d
  co : ∀ d ∈ left es (sn S), 0 ≤ d
theorem StdOk.set {ds es : List Int} {m : Int} {S : List (List PP)} {k : Nat} {L : List PP} {p : PP} {x y : Int} (h : StdOk ds es m S) (hk : S[k]? = some L) (hp : InP ds.length es.length p) (hf : freeB L p = true)
    (hx : (left ds (fs S))[p.1.toNat]? = some x) (x0 : 0 < x) (hy : (left es (sn S))[p.2.toNat]? = some y) (y0 : 0 < y) :
    StdOk ds es m (S.set k (srt (L ++ [p]))) ∧ (left ds (fs S)).set p.1.toNat (x - 1) = left ds (fs (S.set k (srt (L ++ [p])))) ∧ (left es (sn S)).set p.2.toNat (y - 1) = left es (sn (S.set k (srt (L ++ [p])))) := by
  have hkl : k < S.length := (List.getElem?_eq_some_iff.mp hk).1
  have pm : (S.set k (srt (L ++ [p]))).flatten.Perm (S.flatten ++ [p]) := by
    have e1 : S = S.take k ++ L :: S.drop (k + 1) := by
      have := List.getElem?_eq_some_iff.mp hk
      obtain ⟨_, e⟩ := this
      rw [← e]
      simp
    have e2 : S.set k (srt (L ++ [p])) = S.take k ++ srt (L ++ [p]) :: S.drop (k + 1) := by
      rw [List.set_eq_take_append_cons_drop, if_pos hkl]
    rw [e2]
    conv => rhs; rw [e1]
    rw [List.flatten_append, List.flatten_cons, List.flatten_append, List.flatten_cons, List.append_assoc, List.append_assoc]
    refine List.Perm.append_left _ ?_
    refine (List.Perm.append_right _ (srt_perm _)).trans ?_
    rw [List.append_assoc]
    refine List.Perm.append_left _ ?_
    exact List.perm_append_comm
  have p1 : (fs (S.set k (srt (L ++ [p])))).Perm (fs S ++ [p.1]) := by
    unfold fs
    have := pm.map (·.1)
    rwa [List.map_append] at this
  have p2 : (sn (S.set k (srt (L ++ [p])))).Perm (sn S ++ [p.2]) := by
    unfold sn
    have := pm.map (·.2)
    rwa [List.map_append] at this
  have c1 : ((p.1.toNat : Nat) : Int) = p.1 := by have := hp.1; omega
  have c2 : ((p.2.toNat : Nat) : Int) = p.2 := by have := hp.2.2.1; omega
  have e1 := left_snoc hx
  have e2 := left_snoc hy
  rw [c1, ← left_perm p1] at e1
  rw [c2, ← left_perm p2] at e2
  refine ⟨⟨by rw [List.length_set]; exact h.len, fun M hM => ?_, fun d hd => ?_, fun d hd => ?_⟩, e1, e2⟩
  · rcases List.mem_or_eq_of_mem_set hM with e | e
    · exact h.ld M e
    · rw [e]
      exact (h.ld L (List.mem_of_getElem? hk)).srt_add hp hf
  · rw [← e1] at hd
    rcases List.mem_or_eq_of_mem_set hd with e | e
    · exact h.ci d e
    · omega
  · rw [← e2] at hd
    rcases List.mem_or_eq_of_mem_set hd with e | e
    · exact h.co d e
    · omega
theorem StdOk.empty {ds es : List Int} {n : Nat} (hd : ∀ d ∈ ds, 1 ≤ d) (he : ∀ d ∈ es, 1 ≤ d) : StdOk ds es (n : Nat) (List.replicate n []) := by
  have f0 : fs (List.replicate n []) = [] := by simp [fs]
  have s0 : sn (List.replicate n []) = [] := by simp [sn]
  refine ⟨by simp, fun L hL => ?_, fun d h => ?_, fun d h => ?_⟩
  · rw [(List.mem_replicate.mp hL).2]; exact .nil
  · rw [f0, left_nil] at h
    have := hd d h; omega
  · rw [s0, left_nil] at h
    have := he d h; omega
/-- free middles -/
def frees (S : List (List PP)) (p : PP) : List Int := ((List.range S.length).filter fun k => freeB (S.getD k []) p).map Int.ofNat
end Sd
set_option Elab.async false
set_option linter.all false
set_option maxRecDepth 100000
set_option maxHeartbeats 4000000
namespace Ext
open PySem PySem.Spec PyProof.Rows L2 Com
end Ext
set_option Elab.async false
set_option linter.all false
set_option maxRecDepth 100000
set_option maxHeartbeats 4000000
namespace Ext
open PySem PySem.Spec PyProof.Rows L2 Com
set_option maxHeartbeats 4000000 in
theorem meets_enumerate_new1B {v : Value} {o : Obj} {H : Heap → Prop} (B : Begins v o H) :
    Meets (Builtin.«enumerate.__new__» ⟨[.type "enumerate", v], []⟩) (fun _ R s => H s.heap ∧
      R (.ok (.ret (.ref (s.heap.push o).objs.size))) { s with heap := (s.heap.push o).push { cls := .type "enumerate", data := .fields #[.none, .bool false, .ref s.heap.objs.size, rawInt 0, .none, .none] } }) :=
  .of_wp fun prog w A R s h => by
    obtain ⟨hp, g, d, tk, os⟩ := s; obtain ⟨h1, h⟩ := h
    have hsub := sub_enumerate
    have q1 : ∀ {A' : Around} {E : Value → Shared → Prop} {Q : Value → Shared → Prop}, Q (.ref hp.objs.size) ⟨hp.push o, g, d, tk, os⟩ → wpAny (model prog w) A' (pyIter v) Q E ⟨hp, g, d, tk, os⟩ :=
      fun q => B.iter prog w _ _ ⟨hp, g, d, tk, os⟩ _ h1 q
    wp_walk using q1
    refine wpAny_stack_any fun st => wpAny_pure ?_
    split
    · rename_i c _ _ _ _ _
      cases (c == Value.type "enumerate")
      · wp_walk using q1
        exact ⟨_, rfl, h⟩
      · wp_walk using q1
        exact ⟨_, rfl, h⟩
    · wp_walk using q1
      exact ⟨_, rfl, h⟩
section
variable {prog : Program} {w : World} {A : Around} {E : Value → Shared → Prop} {s : Shared}
theorem call_enumerate_tuple {l : Addr} {items : Array Value} {Q : Value → Shared → Prop} (hL : s.heap.IsTuple l items)
    (h : ∀ h', IsEnum h' (s.heap.objs.size + 1) s.heap.objs.size 0 .none → h'.IsTupleIter s.heap.objs.size l 0 → h'.objs.size = s.heap.objs.size + 2 →
      (∀ b o, s.heap.get? b = some o → h'.get? b = some o) → Q (.ref (s.heap.objs.size + 1)) { s with heap := h' }) :
    wpAny (model prog w) A (call (.type "enumerate") [.ref l]) Q E s := by
  refine callType_new F.called_enumerate (by decide) (F.typeCall_enumerate_1 _) (F.newCall_enumerate_1 _) (fun obj => F.args_object_init_2 obj _) F.entry_enumerate_new
    (meets_enumerate_new1B (begins_tuple l items)) ⟨hL, ?_⟩
  have hz : (s.heap.push { cls := .type "tuple_iterator", data := .fields #[.ref l, .int 0 0] }).objs.size = s.heap.objs.size + 1 := Heap.size_push ..
  show _ ∧ _
  rw [hz]
  have he : IsEnum ((s.heap.push { cls := .type "tuple_iterator", data := .fields #[.ref l, .int 0 0] }).push
      { cls := .type "enumerate", data := .fields #[.none, .bool false, .ref s.heap.objs.size, rawInt 0, .none, .none] }) (s.heap.objs.size + 1) s.heap.objs.size 0 .none := by
    have := Heap.get?_push_size (s.heap.push { cls := .type "tuple_iterator", data := .fields #[.ref l, .int 0 0] })
      (o := { cls := .type "enumerate", data := .fields #[.none, .bool false, .ref s.heap.objs.size, rawInt 0, .none, .none] }) rfl
    rw [hz] at this; exact this
  refine ⟨⟨_, he, rfl⟩, h _ he ⟨_, Heap.get?_push_of_some _ (Heap.get?_push_size _ rfl), rfl, rfl⟩ (by rw [Heap.size_push, hz]) fun b o x => Heap.get?_push_of_some _ (Heap.get?_push_of_some _ x)⟩
end
/-- the tuple at a, each item in a new pair -/
def Iet (K : PySem.W.Frag) (a : Addr) : It :=
  ⟨fun i H => ∃ (xs : List V) (x : V), SqT K H a xs ∧ xs[i]? = some x, fun i H v H' => ∃ T x, v = .ref T ∧ H T = none ∧ H' = upd H T (.tup [.int (i : Nat), x]) ∧ ∀ xs, SqT K H a xs → xs[i]? = some x, fun i H => ∃ xs : List V, SqT K H a xs ∧ xs.length ≤ i⟩
theorem turn_enumT {P : Program} {w : World} {K : PySem.W.Frag} {elts : List Expr} {kk : Nat} {tpos : Pos} (a e it : Addr) :
    Turn P w K (.Tuple elts kk tpos) (Iet K a) [e, it] e (fun i h => (∃ old, IsEnum h e it ((i : Nat) : Int) old) ∧ h.IsTupleIter it a i ∧ e ≠ it) where
  mem := by simp
  obj := fun i h st b hb => by
    obtain ⟨⟨old, he⟩, ⟨o, ho, hc, hd⟩, _⟩ := st
    have e' : b = e ∨ b = it := by simpa using hb
    rcases e' with z | z
    · rw [z]; exact ⟨_, he, fun v q => nomatch q⟩
    · rw [z]; exact ⟨o, ho, fun v q => by rw [hd] at q; cases q⟩
  keep := fun i h h' st k => let ⟨⟨old, he⟩, hi, hne⟩ := st; ⟨⟨old, k e (by simp) _ he⟩, hi.at fun o q => k it (by simp) o q, hne⟩
  item := by
    intro X hP hw hK hc i pins s σ H E I hf st hg
    subst hP hw hK
    obtain ⟨⟨old, he⟩, hit, hne⟩ := st
    obtain ⟨xs, x, hq, hx⟩ := hg
    obtain ⟨its, rv, p, hz⟩ := I.tuple hq
    obtain ⟨u, hu, ru⟩ := rv.get hx
    have hel : e < s.heap.objs.size := Heap.lt_size he
    have hil : it < s.heap.objs.size := by obtain ⟨_, q, _⟩ := hit; exact Heap.lt_size q
    have hat : s.heap.IsTuple a its.toArray := p
    have hae : a ≠ e := fun z => by
      obtain ⟨o, ho, hcl, n, hd⟩ := hat
      have he2 : s.heap.get? e = some _ := he
      rw [z, he2] at ho
      cases ho
      cases hd
    have hai : a ≠ it := fun z => by
      obtain ⟨o, ho, hcl, n, hd⟩ := hat
      obtain ⟨o2, q, _, hd2⟩ := hit
      rw [z, q] at ho
      cases ho
      rw [hd2] at hd
      cases hd
    have hlt : i < its.toArray.size := by
      have := (List.getElem?_eq_some_iff.mp hu).1
      simpa using this
    have hef : e ∉ [it, a] := by
      simp only [List.mem_cons, List.not_mem_nil, or_false, not_or]
      exact ⟨hne, hae.symm⟩
    refine wpAny_pyNext_enum_itemD (Draws.tuple (by have := I.ok.hd hc; simpa using this) it a hai its.toArray) he ⟨hit, hat⟩ hlt hne hef fun x2 h' tk hP ho hst hT hsz hk => ?_
    obtain rfl : u = x2 := by
      have : its.toArray[i]? = some u := by simpa using hu
      rw [this] at hP
      exact Option.some.inj hP
    refine ⟨_, rfl, wpAny_letOwnedTupleGo_enum (s := { s with heap := h', toks := tk + 1 }) ho fun h'' he' sb => ?_⟩
    have hT2 : h''.get? s.heap.objs.size = some { cls := .type "tuple", data := .seq #[.int i tk, u] } := (sb.2 _ (Nat.ne_of_gt hel)).trans hT
    have new : ObjOk X.prog X.w (upd H s.heap.objs.size (.tup [.int (i : Nat), x])) h'' s.heap.objs.size (.tup [.int (i : Nat), x]) :=
      ⟨by show 2 ≤ sizeLine; decide, [.int i tk, u], .cons ⟨_, rfl⟩ (.cons ru .nil), ⟨_, hT2, rfl, _, rfl⟩⟩
    have I1 : Inv X pins σ (upd H s.heap.objs.size (.tup [.int (i : Nat), x])) { s with heap := h'', toks := tk + 1 } :=
      I.turnedNew (ch := [e, it]) (fun b ob hb q => (sb.2 b (fun z => hb (by simp [z]))).trans (hk b ob (fun z => hb (by simp [z])) (fun z => hb (by simp [z])) q)) hf (Nat.le_refl _) new
    refine ⟨.ref s.heap.objs.size, _, I1, rfl, ⟨_, x, rfl, I.hok.fresh (Nat.le_refl _), rfl, fun ys hy => by rw [I.tuple_inj hy hq]; exact hx⟩, ⟨⟨u, ?_⟩, hst.1.at fun o q => (sb.2 it (Ne.symm hne)).trans q, hne⟩, fun b hb => ?_⟩
    · have e1 : ((i + 1 : Nat) : Int) = (i : Int) + 1 := by omega
      rw [e1]; exact he'
    · have hb' : b < s.heap.objs.size := by
        have e' : b = e ∨ b = it := by simpa using hb
        rcases e' with z | z
        · rw [z]; exact hel
        · rw [z]; exact hil
      rw [upd_ne (Nat.ne_of_lt hb')]
      exact (hf b hb).1
  done := by
    intro X hP hw hK hc i pins s σ H E I hf st hg
    subst hP hw hK
    obtain ⟨⟨old, he⟩, hit, hne⟩ := st
    obtain ⟨xs, hq, hx⟩ := hg
    obtain ⟨its, rv, p, hz⟩ := I.tuple hq
    obtain ⟨f0, f1, f2, f3, f4, f5⟩ := hf it (by simp)
    have hl := rv.length
    have hat : s.heap.IsTuple a its.toArray := p
    have hai : a ≠ it := fun z => by
      obtain ⟨o, ho, hcl, n, hd⟩ := hat
      obtain ⟨o2, q, _, hd2⟩ := hit
      rw [z, q] at ho
      cases ho
      rw [hd2] at hd
      cases hd
    unfold pyNext
    have hT : s.TypeIs (.ref e) "enumerate" := ⟨_, he, rfl⟩
    refine wpAny_bind (wpAny_attempt (wpAny_callSpecial?_slot (name := Str.ofString "__next__") hT F.slot_enumerate_next
      (wpAny_call_entry F.slot_enumerate_next hT F.entry_enumerate_next ?_ (F.args_enumerate_next_1 _))))
    show wpAny _ _ (field (.ref e) 2 >>= _) _ _ _
    refine wpAny_bind (wpAny_field he rfl (x := .ref it) rfl ?_)
    refine wpAny_bind (wpAny_nextOf_tuple_end (I.ok.hd hc) hit hat (by simp; omega) fun h' x he' hx' => ?_)
    obtain ⟨o, ho, hcc⟩ := hx'
    refine wpAny_bind (wpAny_isInstance (T := "StopIteration") (b := true) ⟨o, ho, hcc⟩ isSubtype_stop ?_)
    exact wpAny_pure ⟨rfl, I.turned (t' := s.toks) (fun b o hb q => he' b o hb q) f0 f1 f3 f4 f5⟩
  self := fun A i s Q E st h => let ⟨⟨_, he⟩, _⟩ := st; wpAny_pyIter_enum he h
end Ext
set_option Elab.async false
set_option linter.all false
set_option maxRecDepth 100000
set_option maxHeartbeats 4000000
namespace StV
open PySem PySem.Spec PyProof.Rows L2 Com Sd
def kOf (H : Hp) (v : V) : Int × Int := match v with
  | .ref a => match H a with
    | some (.tup [.int i, .int j]) => (i, j)
    | _ => (0, 0)
  | _ => (0, 0)
def PairV (H : Hp) (v : V) (p : Int × Int) : Prop := ∃ a, v = .ref a ∧ H a = some (.tup [.int p.1, .int p.2])
theorem PairV.k {H : Hp} {v : V} {p : Int × Int} (h : PairV H v p) : kOf H v = p := by
  obtain ⟨a, rfl, e⟩ := h
  show (match H a with | some (.tup [.int i, .int j]) => (i, j) | _ => (0, 0)) = p
  rw [e]
theorem pairsV_map {H : Hp} : ∀ {vs : List V} {ps : List PP}, PairsV H vs ps → ps = vs.map (kOf H)
  | _, _, .nil => rfl
  | _, _, .cons h t => by rw [List.map_cons, ← pairsV_map t, PairV.k h]
theorem pairsV_mem {H : Hp} : ∀ {vs : List V} {ps : List PP}, PairsV H vs ps → ∀ v ∈ vs, PairV H v (kOf H v)
  | _, _, .nil, v, hv => nomatch hv
  | _, _, .cons h t, v, hv => by
    rcases List.mem_cons.mp hv with e | e
    · subst e
      have := PairV.k h
      rw [this]
      exact h
    · exact pairsV_mem t v e
theorem pairsV_of {H : Hp} : ∀ {vs : List V}, (∀ v ∈ vs, PairV H v (kOf H v)) → PairsV H vs (vs.map (kOf H))
  | [], _ => .nil
  | v :: vs, h => .cons (h v (List.mem_cons_self ..)) (pairsV_of fun u hu => h u (List.mem_cons_of_mem _ hu))
theorem paired_get' {α β : Type} {F : α → β → Prop} : ∀ {xs : List α} {ys : List β}, Paired F xs ys → ∀ {i : Nat} {y : β}, ys[i]? = some y → ∃ x, xs[i]? = some x ∧ F x y
  | _, _, .nil, i, x, h => by simp at h
  | _, _, .cons r t, 0, x, h => by
    cases h
    exact ⟨_, rfl, r⟩
  | _, _, .cons r t, i + 1, x, h => by
    obtain ⟨y, hy, f⟩ := paired_get' t (i := i) (y := x) h
    exact ⟨y, hy, f⟩
theorem paired_set {α β : Type} {F : α → β → Prop} {x : α} {y : β} (f : F x y) : ∀ {xs : List α} {ys : List β} {i : Nat}, Paired F xs ys → Paired F (xs.set i x) (ys.set i y)
  | _, _, _, .nil => .nil
  | _, _, 0, .cons r t => .cons f t
  | _, _, i + 1, .cons r t => .cons r (paired_set f t)
theorem paired_imp {α β : Type} {F G : α → β → Prop} (h : ∀ x y, F x y → G x y) : ∀ {xs : List α} {ys : List β}, Paired F xs ys → Paired G xs ys
  | _, _, .nil => .nil
  | _, _, .cons r t => .cons (h _ _ r) (paired_imp h t)
def LoadV (H : Hp) (v : V) (L : List PP) : Prop := ∃ b us, v = .ref b ∧ H b = some (.tup us) ∧ PairsV H us L
def LoadsV (H : Hp) : List V → List (List PP) → Prop := Paired (LoadV H)
def StaV (H : Hp) (v : V) (S : List (List PP)) : Prop := ∃ a us, v = .ref a ∧ H a = some (.tup us) ∧ LoadsV H us S
theorem PairV.same {H H' : Hp} (s : Same H H') {v : V} {p : PP} (h : PairV H v p) : PairV H' v p := let ⟨a, e, x⟩ := h; ⟨a, e, s _ _ x⟩
theorem LoadV.same {H H' : Hp} (s : Same H H') {v : V} {L : List PP} (h : LoadV H v L) : LoadV H' v L := let ⟨b, us, e, x, p⟩ := h; ⟨b, us, e, s _ _ x, PairsV.same s p⟩
theorem LoadsV.same {H H' : Hp} (s : Same H H') {vs : List V} {S : List (List PP)} (h : LoadsV H vs S) : LoadsV H' vs S := paired_imp (fun _ _ x => LoadV.same s x) h
theorem StaV.same {H H' : Hp} (s : Same H H') {v : V} {S : List (List PP)} (h : StaV H v S) : StaV H' v S := let ⟨a, us, e, x, p⟩ := h; ⟨a, us, e, s _ _ x, LoadsV.same s p⟩
/-- tuples stay -/
def TupS (H H' : Hp) : Prop := ∀ b xs, H b = some (.tup xs) → H' b = some (.tup xs)
theorem TupS.of {H H' : Hp} (s : Same H H') : TupS H H' := fun b xs e => s b _ e
theorem TupS.trans {H H1 H2 : Hp} (s : TupS H H1) (t : TupS H1 H2) : TupS H H2 := fun b xs e => t b xs (s b xs e)
theorem TupS.new {H : Hp} {p : Addr} {o : HO} (n : H p = none) : TupS H (upd H p o) := fun b xs e => by rw [upd_ne (ne_of_none e n)]; exact e
def rSrtP (K : PySem.W.Frag) : List V → Hp → VK → Prop := fun xs H Q => ∃ (a : Addr) (vs : List V) (ps : List PP), xs = [V.ref a] ∧ SqL K H a vs ∧ PairsV H vs ps ∧
  ∀ us p, PairsV H us (srt ps) → H p = none → Q (.ref p) (upd H p (.lst us))
theorem cr_srtP {X : Cx} (K : PySem.W.Frag) (hK : X.K = K := by rfl) : CallR X (.builtin "sorted") (rSrtP K) := by
  subst hK
  intro pins s σ H vs us Q I r h
  obtain ⟨a, xs, ps, e, hs, hp, q⟩ := h
  refine cr_sortedPO pins s σ H vs us Q I r ⟨a, xs, kOf H, e, hs, fun x hx => pairsV_mem hp x hx, fun ys p h1 h2 hn => ?_⟩
  refine q ys p ?_ hn
  have pm := h2.perm
  have e1 : srt ps = ys.map (kOf H) := by
    refine (srt_uniq ?_ ?_).symm
    · rw [pairsV_map hp]
      exact pm.map _
    · rw [List.pairwise_map]
      refine h1.imp fun {a b} z => ?_
      have := SrtO.lexB_no.mp z
      rw [leP_iff]
      omega
  rw [e1]
  exact pairsV_of fun v hv => pairsV_mem hp v (pm.mem_iff.mp hv)
end StV
set_option Elab.async false
set_option linter.all false
set_option maxRecDepth 100000
set_option maxHeartbeats 4000000
namespace PySem
namespace Exo
open PySem.W PySem.Calls PyProof.Rows PySem.HandSPX
def iA (p1 p2 : Pos) : Arguments := { posonlyargs := [], args := [{ arg := "self", annotation := none, pos := p1 }, { arg := "field", annotation := none, pos := p2 }], vararg := none, kwonlyargs := [], kw_defaults := [], kwarg := none, defaults := [] }
abbrev sCall (msg : Str) (q1 q2 q3 q4 q5 : Pos) : Expr := .Call (.Attribute (.Call (.Name "super" q1) [] [] q2) "__init__" q3) [.Constant (.str msg) 0 q4] [] q5
def iB (msg : Str) (q1 q2 q3 q4 q5 q6 q7 q8 q9 q10 : Pos) : List Stmt :=
  [.Expr (sCall msg q1 q2 q3 q4 q5) q6, .Assign [.Attribute (.Name "self" q7) "field" q8] (.Name "field" q9) q10]
def iS : Scope := { kind := .function, names := [(PySem.Str.ofString "self", .local), (PySem.Str.ofString "field", .local), (PySem.Str.ofString "__class__", .free), (PySem.Str.ofString "super", .globalImplicit)], isGenerator := false, isCoroutine := false, more := [] }
/-- how the call of the bound __init__ is read -/
def Reads (msg : Str) (q1 q2 q3 q4 q5 : Pos) (env : Env) : Prop := ∃ pl : Sem Bool, eval (sCall msg q1 q2 q3 q4 q5) env = (do
  let ov ← attributeBase (.Call (.Name "super" q1) [] [] q2) "__init__" env (eval (.Call (.Name "super" q1) [] [] q2) env)
  standAt q3.atName
  let (f, first) ← holding [ov] (getMethod ov "__init__" pl)
  callWith q5 f first (backTo q5 (starEach [.Constant (.str msg) 0 q4] env)) [])
/-- what the written part says of the class x, at C, and of its __init__, at fI -/
structure Txt (prog : Program) (K : Frag) (mg : Str → Option Value) (x : Str) (C fI : Addr) : Prop where
  gC : mg x = some (.ref C)
  gS : mg "super" = none
  cls : ∃ nm q N bs bm sn sub ab col dd k0 k1 k2 k3 k5, K.lookup C = some (excClassObj nm q C N bs bm true sn sub ab col dd k0 k1 k2 k3 k5 "ValueError.__new__") ∧ refsVE bm = true
  sup : ks_superIn K C C "__init__" = some (some (.builtin "ValueError.__init__"))
  sVE : subIn K (.ref C) (.type "ValueError") = some true
  own : mroIn K C (.ref C) = some true
  op : nsIn K cStatics "thirdparty.any" = some none
  sa : findIn K (.ref C) "__setattr__" = some (some (.builtin "object.__setattr__"))
  ga : findIn K (.ref C) "__getattribute__" = some (some (.builtin "BaseException.__getattribute__"))
  gg : findIn K (.ref C) "__getattr__" = some none
  noN : findIn K (.ref C) "field" = some none
  iC : findIn K (.ref C) "__init__" = some (some (.ref fI))
  tC : typeIn K (.ref fI) = some (.type "function")
  kC : keepIn K (.ref C) = true
  exC : subIn K (.ref C) (.type "BaseException") = some true
  tyC : typeIn K (.ref C) = some (.type "type")
  hdC : hasDictIn K C = true
  te : exmOne K (.ref C) (.ref C) = some true
  top : (prog.main.scope.names.lookup ("super" : Str)).isSome = false
  fn : ∃ (oc : Value) (od : Option Addr) (doc pm : Value) (an : Option Addr) (ct : Value) (osl : Array (Option Value)) (cda cc : Addr) (qual : Str) (p1 p2 : Pos) (msg : Str) (q1 q2 q3 q4 q5 q6 q7 q8 q9 q10 : Pos)
      (cl : Value) (cld : Option Addr) (csl : Array (Option Value)) (ccl : Value) (cdd : Option Addr) (vs : Array Value) (ccs : Array (Option Value)) (file : Str) (tf : Tok),
    K.lookup fI = some ⟨oc, od, .func (ksFn "__init__" qual (iA p1 p2) (iB msg q1 q2 q3 q4 q5 q6 q7 q8 q9 q10) iS .none .none doc pm an (.ref cda) ct cc), osl⟩ ∧ codeIn K (.ref cda) qual = true ∧
    K.lookup cc = some ⟨cl, cld, .cell (some (.ref C)), csl⟩ ∧ K.lookup cda = some ⟨ccl, cdd, .fields vs, ccs⟩ ∧ vs[2]? = some (.str file tf) ∧ ((prog.main.file : Str) == file) = true ∧ (∀ L : Addr, Reads msg q1 q2 q3 q4 q5 (ksEnv qual iS L fI (.ref cda) cc))
theorem kept_but {K : Frag} {h h' : Heap} {x : Addr} (X : K.In h) (hx : K.lookup x = none) (k : ∀ b o, b ≠ x → h.get? b = some o → h'.get? b = some o) : K.In h' := fun a o e =>
  k a o (fun z => by rw [z, hx] at e; cases e) (X a o e)
theorem one_size (v : Value) : [v].length ≤ sizeLine := by
  rw [sizeLine_eq]
  exact (by decide : 1 ≤ 16777216)
/-- what __init__ leaves of a fresh exception at x -/
structure InitEnd (h h' : Heap) (x C dx t1 : Addr) (v : Value) : Prop where
  keep : ∀ b o, b ≠ x → h.get? b = some o → h'.get? b = some o
  obj : h'.get? x = some { cls := .ref C, dict := some dx, data := .fields #[.ref t1, .none, .none, .none, .bool false, .none] }
  dbig : h.objs.size ≤ dx
  dne : dx ≠ x
  ns : h'.Ns1 dx (fun y => if y = "field" then some v else none)
/-- a made one -/
structure OwnMade (h h' : Heap) (e C d : Addr) (v : Value) : Prop where
  keep : ∀ b o, h.get? b = some o → h'.get? b = some o
  new : h.objs.size ≤ e
  obj : ∃ oe vs, h'.get? e = some oe ∧ oe.cls = .ref C ∧ oe.dict = some d ∧ oe.data = .fields vs ∧ vs[1]? = some .none
  dbig : h.objs.size ≤ d
  dne : d ≠ e
  ns : h'.Ns1 d (fun y => if y = "field" then some v else none)
section
variable {M : Model} {prog : Program} {w : World} {A : Around} {E : Value → Shared → Prop} {h : Heap} {g : Array GenState} {d : Drawn} {t : Nat} {os : OsState}
variable {nm q : Str} {C N : Addr} {bs bm : List Value} {hdct : Bool} {sn : List Str} {sub : List Value} {ab : Bool} {col : Option Bool} {dd : Option Addr} {k0 k1 k2 k3 k5 : Option Value}
/-- the bound ValueError.__init__ is called -/
theorem call_mw {u e t0 : Addr} {rest : List Value} {Q : Value → Shared → Prop}
    (hC : h.get? C = some (excClassObj nm q C N bs bm hdct sn sub ab col dd k0 k1 k2 k3 k5 "ValueError.__new__")) (he : h.get? e = some (excO C t0)) (hu : h.get? u = some (kxs_mw "ValueError.__init__" e)) (hrest : rest.length ≤ sizeLine)
    (hq : ∀ h' t1, (∀ b o, b ≠ e → h.get? b = some o → h'.get? b = some o) → h'.get? e = some (excO C t1) → h.objs.size ≤ h'.objs.size → Q .none ⟨h', g, d, t, os⟩) :
    wpAny (model prog w) A (call (.ref u) rest) Q E ⟨h, g, d, t, os⟩ := by
  refine wpAny_call (codeAny_of_tree ?_)
  show wpAny _ A.in1 (callAny (.ref u) ⟨rest, []⟩) _ _ _
  simp only [callAny]
  refine wpAny_bind (wpAny_load hu ?_)
  simp only [kxs_mw, show (Value.type "method-wrapper" == Value.type "method" || Value.type "method-wrapper" == Value.type "builtin_function_or_method" || Value.type "method-wrapper" == Value.type "method-wrapper") = true by decide, if_true]
  refine KFB.if_so (by decide) ?_
  refine wpAny_bind (check_bound_init F.excBase_ValueError.toExcCallFacts hC he rfl ?_)
  refine wpAny_bind (wpAny_pure (wpAny_pure ?_))
  refine ⟨plainId_quiet F.excBase_ValueError.init.plain _, codeAny_builtin F.excBase_ValueError.initEntry ?_⟩
  refine exc_init_tree (cls := .ref C) (t0 := t0) (dv := none) (c2 := .none) (c3 := .none) (b4 := .bool false) he hrest fun h' k hx ht => hq h' h.objs.size k hx (Nat.le_of_lt (Heap.lt_size ht))
end
section
variable {prog : Program} {w : World} {A : Around} {E : Value → Shared → Prop} {R : Result → Shared → Prop} {s : Shared} {K : Frag} {mg : Str → Option Value} {C fI : Addr} {nm : Str}
theorem ldC {M : Model} {s : Shared} {env : Env} {m : Str → Option Value} {x : Str} {pos : Pos} {v : Value} {Q : Value → Shared → Prop} {A : Around} {E : Value → Shared → Prop} (hn : s.heap.Ns env.locals m) (hv : m x = some v) (h : Q v s)
    (hk : env.scope.kind = .function := by rfl) (hl : env.kindOf x = some .local := by rfl) (hd : (x == ("__debug__" : Str)) = false := by decide) : wpAny M A (eval (.Name x pos) env) Q E s := wpAny_Name (wpAny_loadName_local hk hl hn hv h) hd
theorem init (T : Txt prog K mg nm C fI) {x t0 : Addr} {v : Value} {mb : Str → Option Value} (X : K.In s.heap) (hg : s.heap.Ns mainGlobals mg) (hb : s.heap.Ns builtinsNs mb) (hbv : ∀ y : Str, y ≠ "__name__" → mb y = bootBuiltins y)
    (hlim : s.heap.NoLimit) (hx : s.heap.get? x = some (excO C t0)) (hnx : K.lookup x = none) (hroom : A.depth < recursionLimit)
    (hq : ∀ h' tk dx t1, InitEnd s.heap h' x C dx t1 v → R (.ok (.ret .none)) { s with heap := h', toks := tk }) :
    codeAny (model prog w) A (.call (.ref fI) ⟨[.ref x, v], []⟩) R s := by
  obtain ⟨oc, od, doc, pm, an, ct, osl, cda, cc, qual, p1, p2, msg, q1, q2, q3, q4, q5, q6, q7, q8, q9, q10, cl, cld, csl, ccl, cdd, vs, ccs, file, tf, lk, hcd, hcell, hcode, hvs, hfile, hrd⟩ := T.fn
  obtain ⟨pl, hpl⟩ := hrd s.heap.objs.size
  obtain ⟨cn, q, N, bs, bm, sn, sub, ab, col, dd, k0, k1, k2, k3, k5, hC, hbm⟩ := T.cls
  have hcl : clsIn K C = some { name := cn, bases := bs, mro := .ref C :: bm, ns := N, qualname := q, hasDict := true, slotNames := sn, subclasses := sub, abstract := ab, collection := col, hasDel := false } := by unfold clsIn; rw [hC] <;> rfl
  refine ks_codeAny_call_defAt (fd := ksFn "__init__" qual (iA p1 p2) (iB msg q1 q2 q3 q4 q5 q6 q7 q8 q9 q10) iS .none .none doc pm an (.ref cda) ct cc) (body := iB msg q1 q2 q3 q4 q5 q6 q7 q8 q9 q10) (binds := [("self", .ref x), ("field", v)]) hroom (X _ _ lk) rfl hlim (codeRec_of X hcd) rfl
    (BindsTo.of_eq (by first | rfl | with_unfolding_all rfl)) (show ∀ y ∈ iS.names, y.2 ≠ .cell by decide) (by intro y hy; rcases List.mem_cons.mp hy with rfl | hy <;> first | rfl | (rcases List.mem_cons.mp hy with rfl | hy <;> first | rfl | cases hy)) (fun h₁ hns k => ?_) rfl rfl rfl
  have X₁ : K.In h₁ := X.keeps k
  have hx₁ := k _ _ hx
  have hxL : s.heap.objs.size ≠ x := Nat.ne_of_gt (Heap.lt_size hx)
  have hxC : x ≠ C := fun z => by
    have y := X _ _ hC
    rw [← z, hx] at y
    cases y
  show PySem.wpAt (model prog w) _ _ (execs (iB msg q1 q2 q3 q4 q5 q6 q7 q8 q9 q10) (ksEnv qual iS s.heap.objs.size fI (.ref cda) cc)) _ _ _
  refine ks_wpAt_execs_cons (ks_wpAt_Expr_any (ks_wpAt_MethodCall (pl := pl) ?_ hpl))
  refine ks_wpAt_super_base (env := ksEnv qual iS s.heap.objs.size fI (.ref cda) cc) rfl rfl rfl rfl (X₁ _ _ lk) rfl rfl rfl (X₁ _ _ hcode) rfl hvs hfile T.top ?_
  refine ks_loadName_global rfl rfl (loadGlobal_builtin (env := ksEnv qual iS s.heap.objs.size fI (.ref cda) cc) (hg.keeps k) T.gS (hb.keeps k) ((hbv _ (by decide)).trans PyProof.Rows.Boot.«super») ⟨rfl, ?_⟩)
  refine wpAny_loadName_free (env := ksEnv qual iS s.heap.objs.size fI (.ref cda) cc) rfl rfl rfl ⟨_, X₁ _ _ hcell, rfl⟩ ?_
  refine wpAny_loadName_local (env := ksEnv qual iS s.heap.objs.size fI (.ref cda) cc) (v := .ref x) rfl rfl hns (by first | rfl | with_unfolding_all rfl | kernel_rfl) ?_
  refine ks_wpAny_isType_cls (X₁ _ _ hC) rfl ⟨rfl, ?_⟩
  refine ks_wpAny_call_super (X₁ _ _ hC) rfl hx₁ rfl (fun c e => nomatch e) (looks_mroIn X₁ T.own) (fun h₂ hso k₂ => ?_)
  have X₂ : K.In h₂ := X₁.keeps k₂
  have hx₂ := k₂ _ _ hx₁
  have I₂ : InstAt h₂ x (excO C t0) C none := ⟨hx₂, rfl, rfl, trivial⟩
  have hm := T.sup
  unfold ks_superIn at hm
  rw [hcl] at hm
  refine kxs_getMethod kxs_ValueError hso (looks_opaque X₂ T.op) (l₀ := .ref C :: bm) ((looks_clsIn X₂ hcl).andThen .now) rfl X₂ hm (I₂.type.andThen (looks_subIn X₂ T.sVE)) hxC rfl ?_
  have k₁₂ : ∀ b o, h₁.get? b = some o → (h₂.push (kxs_mw "ValueError.__init__" x)).get? b = some o := fun b o e => Heap.get?_push_of_some _ (k₂ b o e)
  have hu : (h₂.push (kxs_mw "ValueError.__init__" x)).get? h₂.objs.size = some (kxs_mw "ValueError.__init__" x) := Heap.get?_push_at rfl rfl
  have sz₂ : s.heap.objs.size ≤ (h₂.push (kxs_mw "ValueError.__init__" x)).objs.size := by
    have a : h₂.objs.size < (h₂.push (kxs_mw "ValueError.__init__" x)).objs.size := Heap.lt_size hu
    have b : h₁.objs.size < h₂.objs.size := Heap.lt_size hso
    have c : s.heap.objs.size < h₁.objs.size := hns.lt
    omega
  generalize h₂.push (kxs_mw "ValueError.__init__" x) = h₂' at k₁₂ hu sz₂ ⊢
  have X₂' : K.In h₂' := X₁.keeps k₁₂
  show wpAny _ _ (callWith q5 (.ref h₂.objs.size) [] (backTo q5 (starEach (.Constant (.str msg) 0 q4 :: []) (ksEnv qual iS s.heap.objs.size fI (.ref cda) cc))) []) _ _ _
  rw [show starEach (.Constant (.str msg) 0 q4 :: []) (ksEnv qual iS s.heap.objs.size fI (.ref cda) cc) = (false, eval (.Constant (.str msg) 0 q4) (ksEnv qual iS s.heap.objs.size fI (.ref cda) cc)) :: starEach [] (ksEnv qual iS s.heap.objs.size fI (.ref cda) cc) from rfl]
  refine kxs_callWith (i := "ValueError.__init__") (x := x) rfl (evalArgs_plain (Calls.spliced_cons (wpAny_Constant_str (env := ksEnv qual iS s.heap.objs.size fI (.ref cda) cc) (x := msg) (k := 0) (pos := q4) (Calls.spliced_nil ⟨hu, ?_⟩))))
  refine call_mw (X₂' _ _ hC) (k₁₂ _ _ hx₁) hu (one_size _) fun h₃ t1 k₃ hx₃ sz₃ => ?_
  have X₃ : K.In h₃ := kept_but X₂' hnx k₃
  have hns₃ : h₃.Ns s.heap.objs.size (fun y => List.lookup y [(PySem.Str.ofString "self", Value.ref x), (PySem.Str.ofString "field", v)].reverse) := by
    obtain ⟨oL, es, ep, hL, r⟩ := hns
    exact ⟨oL, es, ep, k₃ _ _ hxL (k₁₂ _ _ hL), r⟩
  -- self.field = field
  show PySem.wpAt _ _ _ (execs [.Assign [.Attribute (.Name "self" q7) "field" q8] (.Name "field" q9) q10] (ksEnv qual iS s.heap.objs.size fI (.ref cda) cc)) _ _ _
  refine ks_wpAt_execs_cons (wpAt_of_wpAny (plainObj_wpAny_Assign_Attribute ?_))
  refine ldC (env := ksEnv qual iS s.heap.objs.size fI (.ref cda) cc) (v := v) hns₃ (by first | rfl | with_unfolding_all rfl | kernel_rfl) (ldC (env := ksEnv qual iS s.heap.objs.size fI (.ref cda) cc) (v := .ref x) hns₃ (by first | rfl | with_unfolding_all rfl | kernel_rfl) ?_)
  refine set_plain X₃ (ox := excO C t1) (od := none) ⟨hx₃, rfl, rfl, trivial⟩ T.sa ?_
  refine exc_osa X₃ hx₃ hcl (show refsVE (.ref C :: bm) = true from hbm) rfl T.noN (fun h₄ tk₄ dx k₄ dn dne hx₄ hn₄ => ?_)
  refine wpAt_of_wpAny (wpAny_execs_nil (hq h₄ tk₄ dx t1 ⟨fun b o hb e => k₄ b o hb (k₃ b o hb (k₁₂ b o (k b o e))), hx₄, Nat.le_trans sz₂ (Nat.le_trans sz₃ dn), dne, hn₄⟩))
theorem made (T : Txt prog K mg nm C fI) {v : Value} {mb : Str → Option Value} (X : K.In s.heap) (hg : s.heap.Ns mainGlobals mg) (hb : s.heap.Ns builtinsNs mb) (hbv : ∀ y : Str, y ≠ "__name__" → mb y = bootBuiltins y) (hlim : s.heap.NoLimit)
    (hroom : A.depth + 1 < recursionLimit) (hq : ∀ h' tk e d, OwnMade s.heap h' e C d v → R (.ok (.ret (.ref e))) { s with heap := h', toks := tk }) :
    codeAny (model prog w) A (.call (.ref C) ⟨[v], []⟩) R s := by
  obtain ⟨cn, q, N, bs, bm, sn, sub, ab, col, dd, k0, k1, k2, k3, k5, hC, hbm⟩ := T.cls
  obtain ⟨hp, g, dr, tk, os⟩ := s
  have k : ∀ b o, hp.get? b = some o → ((hp.push (kdv_tup [v])).push (excO C hp.objs.size)).get? b = some o := fun b o e => Heap.get?_push_of_some _ (Heap.get?_push_of_some _ e)
  have hget : ((hp.push (kdv_tup [v])).push (excO C hp.objs.size)).get? (hp.objs.size + 1) = some (excO C hp.objs.size) := by heap_get
  have hnx : K.lookup (hp.objs.size + 1) = none := by
    cases e : K.lookup (hp.objs.size + 1) with
    | none => rfl
    | some o =>
      have z : hp.get? (hp.objs.size + 1) = some o := X _ _ e
      exact absurd (Nat.lt_of_succ_lt (Heap.lt_size z)) (Nat.lt_irrefl _)
  refine call_own F.excBase_ValueError (fun X => refsVE_contains X bm hbm) (X _ _ hC) (looks_findIn X T.iC) (fun self => bind_fn X self T.tC) (one_size v) ?_
  refine init (s := ⟨(hp.push (kdv_tup [v])).push (excO C hp.objs.size), g, dr, tk, os⟩) T (X.keeps k) (hg.keeps k) (hb.keeps k) hbv (hlim.keeps k) hget hnx ?_ fun h' tk' dx t1 ⟨k', hx, dn, dne, hns⟩ => ?_
  · show A.depth + 1 < recursionLimit
    exact hroom
  · have old : ∀ b o, hp.get? b = some o → h'.get? b = some o := fun b o e => k' b o (Nat.ne_of_lt (Nat.lt_succ_of_lt (Heap.lt_size e))) (k b o e)
    have z : hp.objs.size + 1 + 1 ≤ dx := by
      first
        | (simpa only [Heap.size_push] using dn)
        | exact dn
        | (have q := dn; rw [Heap.size_push, Heap.size_push] at q; exact q)
    exact ⟨rfl, hq h' tk' (hp.objs.size + 1) dx ⟨old, Nat.le_succ _, ⟨_, _, hx, rfl, rfl, rfl, rfl⟩, Nat.le_trans (Nat.le_trans (Nat.le_succ _) (Nat.le_succ _)) z, dne, hns⟩⟩
end
end Exo
end PySem
namespace Com
open PySem PySem.Spec PyProof.Rows L2
end Com
set_option Elab.async false
set_option linter.all false
set_option maxRecDepth 100000
set_option maxHeartbeats 4000000
namespace Com
open PySem PySem.Spec PyProof.Rows L2
/-- within a def that lets out what E allows: a callee of the same wish -/
theorem passE {P : Program} {w : World} {K : PySem.W.Frag} {mg : Str → Option Value} {base : Heap} {N : List Str} {qual : Str} {scope : Scope} {f : Addr} {cd : Value} {A : Around} {outer : List Env} {s : Shared} {H : Hp} {E : XK} :
    Passes (L2.CX P w) (cxOf (L2.CX P w) P w K mg base N qual scope f cd A outer s H E) E :=
  passes_call (X := cxOf (L2.CX P w) P w K mg base N qual scope f cd A outer s H E) (takes_of rfl rfl rfl rfl) fun _ _ _ _ h => h
section
variable {P : Program} {w : World} {K : PySem.W.Frag} {mg : Str → Option Value} {base : Heap} {x qual : Str} {C : Addr} {st : Stmt} {ps N : List Str} {k : Nat} {sp : Sp}
theorem DefAt.okX (D : DefAt K mg x st ps) (S : FnScope N ps (defScope st)) (len : ∀ vs H Q E, sp vs H Q E → vs.length = ps.length)
    (hbody : ∀ (f : Addr) (cdv : Value) (A : Around) (outer : List Env) (s : Shared) (H : Hp) (vs : List V) (Q : VK) (E : XK), Room k (A.deeper (envOfC x (defScope st) s.heap.objs.size f cdv)) → sp vs H Q E →
      ∃ t, PSs (cxOf (L2.CX P w) P w K mg base N x (defScope st) f cdv A outer s H E) (defBody st) t ∧ t { nx := fun _ H' => Q .non H', rt := Q } (start N vs) H) : DefOk P w K mg base (L2.CX P w) (k + 1) x sp := by
  obtain ⟨f, fd, F, m, b⟩ := D.ex
  exact ⟨f, raw0 (F.okX S len (fun cdv A outer s H vs Q E hr h => hbody f cdv A outer s H vs Q E hr h)) b, m, F.kp⟩
theorem MethAt.fnX (D : MethAt K C x qual st ps) (S : FnScope N ps (defScope st)) (len : ∀ vs H Q E, sp vs H Q E → vs.length = ps.length)
    (hbody : ∀ (f : Addr) (cdv : Value) (A : Around) (outer : List Env) (s : Shared) (H : Hp) (vs : List V) (Q : VK) (E : XK), Room k (A.deeper (envOfC qual (defScope st) s.heap.objs.size f cdv)) → sp vs H Q E →
      ∃ t, PSs (cxOf (L2.CX P w) P w K mg base N qual (defScope st) f cdv A outer s H E) (defBody st) t ∧ t { nx := fun _ H' => Q .non H', rt := Q } (start N vs) H) : MethOk P w K mg base (L2.CX P w) (k + 1) C x sp := by
  obtain ⟨f, fd, F, m, b⟩ := D.ex
  exact ⟨f, raw0 (F.okX S len (fun cdv A outer s H vs Q E hr h => hbody f cdv A outer s H vs Q E hr h)) b, m⟩
end
end Com
set_option Elab.async false
set_option linter.all false
set_option maxRecDepth 100000
set_option maxHeartbeats 4000000
namespace Com
open PySem PySem.Spec PyProof.Rows L2 PySem.W
end Com
namespace Com
open PySem PySem.Spec PyProof.Rows L2 PySem.W
end Com
namespace Com
open PySem PySem.Spec PyProof.Rows L2
end Com
set_option Elab.async false
set_option linter.all false
set_option maxRecDepth 100000
set_option maxHeartbeats 4000000
namespace Gn
open PySem PySem.Spec PyProof.Rows L2 Com
def spFlow (K : PySem.W.Frag) : Sp := fun vs H Q _ => ∃ (a : Addr) (ns : List Int) (k : Nat), vs = [.ref a, .int (k : Int)] ∧ SqL K H a (ns.map V.int) ∧ ns.length ≤ 63 ∧ k ≤ 1000 ∧
  ∀ p H', H p = none → FlowAt H' p → But p H H' → Q (.ref p) H'
def spPick : Sp := fun vs H Q _ => ∃ (a : Addr) (size : Int), vs = [.ref a, .int size] ∧ FlowAt H a ∧ 1 ≤ size ∧ size < 2 ^ 200 ∧
  ∀ d H', 0 ≤ d → d < size → FlowAt H' a → But a H H' → Q (.int d) H'
def spPlain (K : PySem.W.Frag) : Sp := fun vs H Q _ => ∃ x b, vs = [x] ∧ PlainI K H x b ∧ Q (.bl b) H
def spWithin (K : PySem.W.Frag) : Sp := fun vs H Q _ => ∃ x lo hi b, vs = [x, .int lo, .int hi] ∧ InR K H x lo hi b ∧ Q (.bl b) H
/-- a side: a tuple of 1 to 4 integers from 1 to 4; the answer for any value -/
def SideV (K : PySem.W.Frag) (H : Hp) (x : V) (b : Bool) : Prop :=
  (∃ (a : Addr) (xs : List V) (bs : List Bool), x = .ref a ∧ H a = some (.tup xs) ∧ bs.length = xs.length ∧ (∀ (i : Nat) v c, xs[i]? = some v → bs[i]? = some c → InR K H v 1 4 c) ∧ b = (decide (1 ≤ xs.length) && decide (xs.length ≤ 4) && bs.all id)) ∨
  (∃ t, TyX K H x t ∧ PySem.W.kitOne K t (.type "tuple") = some false ∧ b = false)
def spSide (K : PySem.W.Frag) : Sp := fun vs H Q _ => ∃ x b, vs = [x] ∧ SideV K H x b ∧ ∀ H', Same H H' → Q (.bl b) H'
def exF (i o : Addr) (m : Int) : List (Str × V) := [("ins", .ref i), ("outs", .ref o), ("middles", .int m)]
/-- an exchange at p: its sides at i, o -/
def ExO (C : Addr) (H : Hp) (p i o : Addr) (m : Int) : Prop := ∃ dx, H p = some (.ins C dx (exF i o m))
def Good (ds : List Int) : Prop := 1 ≤ ds.length ∧ ds.length ≤ 4 ∧ ∀ d ∈ ds, 1 ≤ d ∧ d ≤ 4
def Tup (H : Hp) (i : Addr) (ds : List Int) : Prop := H i = some (.tup (ds.map V.int))
theorem Good.side {K : PySem.W.Frag} {H : Hp} {i : Addr} {ds : List Int} (g : Good ds) (h : Tup H i ds) : SideV K H (.ref i) true := by
  obtain ⟨g1, g2, g3⟩ := g
  refine .inl ⟨i, _, List.replicate ds.length true, rfl, h, by simp, fun j v c h1 h2 => ?_, ?_⟩
  · rw [List.getElem?_map] at h1
    cases e : ds[j]? with
    | none =>
      rw [e] at h1
      cases h1
    | some z =>
      rw [e] at h1
      cases h1
      have hc : c = true := by
        have := List.mem_of_getElem? h2
        exact (List.mem_replicate.mp this).2
      subst hc
      have hz := g3 z (List.mem_of_getElem? e)
      exact InR.good hz.1 hz.2
  · rw [List.length_map, decide_eq_true g1, decide_eq_true g2]
    simp
/-- what the top has made of the class -/
structure ExT (K : PySem.W.Frag) (mg : Str → Option Value) (C : Addr) : Prop where
  cl : Cls K C
  nI : NoAttr K C "ins"
  nO : NoAttr K C "outs"
  nM : NoAttr K C "middles"
  ca : PySem.W.findIn K (.ref C) "__class__" = some (some (.builtin "object.__class__"))
  cn : PySem.W.specialIn K (.builtin "object.__class__") "__get__" = some (some (.builtin "getset_descriptor.__get__"))
  ct : PySem.W.takesIn K (.builtin "object.__class__") = some true
  cm : PySem.W.mroIn K C (.type "object") = some true
  kS : PySem.W.kitOne K (.ref C) (.ref C) = some true
  kT : PySem.W.kitOne K (.type "tuple") (.ref C) = some false
  kI : PySem.W.kitOne K (.type "int") (.ref C) = some false
  fS : PySem.W.notFirst K C (.ref C) = true
  fT : PySem.W.notFirst K C (.type "tuple") = true
  fI : PySem.W.notFirst K C (.type "int") = true
  g_Exchange : mg "Exchange" = some (.ref C)
def Old (p : Addr) (H H' : Hp) : Prop := ∀ b o, H b = some o → b ≠ p → H' b = some o
def spInit (C : Addr) : Sp := fun vs H Q _ => ∃ (p dx i o : Addr) (ds es : List Int) (m : Int), vs = [.ref p, .ref i, .ref o, .int m] ∧ H p = some (.ins C dx []) ∧ Tup H i ds ∧ Good ds ∧ Tup H o es ∧ Good es ∧ 1 ≤ m ∧ m ≤ 7 ∧
  ∀ H', ExO C H' p i o m → Old p H H' → Q .non H'
theorem no1 : ¬ (("ins" : Str) = "outs") := by decide +kernel
theorem no2 : ¬ (("ins" : Str) = "middles") := by decide +kernel
theorem no3 : ¬ (("outs" : Str) = "middles") := by decide +kernel
theorem exF_put (i o : Addr) (m : Int) : putF "middles" (.int m) (putF "outs" (.ref o) (putF "ins" (.ref i) [])) = exF i o m := by
  rw [putF_nil, putF_ne no1, putF_nil, putF_ne no2, putF_ne no3, putF_nil]
  rfl
theorem Same.tup {H H' : Hp} (s : Same H H') {i : Addr} {ds : List Int} (h : Tup H i ds) : Tup H' i ds := s _ _ h
theorem Same.exO {C : Addr} {H H' : Hp} (s : Same H H') {p i o : Addr} {m : Int} (h : ExO C H p i o m) : ExO C H' p i o m := let ⟨dx, e⟩ := h; ⟨dx, s _ _ e⟩
theorem new_ex {C : Addr} {H : Hp} {Q : VK} {E : XK} {i o : Addr} {ds es : List Int} {m : Int} (hi : Tup H i ds) (gi : Good ds) (ho : Tup H o es) (go : Good es) (m1 : 1 ≤ m) (m2 : m ≤ 7)
    (q : ∀ x H', H x = none → ExO C H' x i o m → Same H H' → Q (.ref x) H') : ∀ x dx, H x = none → H dx = none → dx ≠ x →
    spInit C (.ref x :: [.ref i, .ref o, .int m]) (upd (upd H dx (.own x)) x (.ins C dx [])) (fun v H2 => v = .non ∧ Q (.ref x) H2) E := by
  intro x dx hx hdx ne
  refine ⟨x, dx, i, o, ds, es, m, rfl, upd_same, ?_, gi, ?_, go, m1, m2, fun H' ex old => ⟨rfl, q x H' hx ex (Same.made hx hdx old)⟩⟩
  · show upd _ _ _ i = _
    rw [upd_ne (ne_of_none hi hx), upd_ne (ne_of_none hi hdx)]
    exact hi
  · show upd _ _ _ o = _
    rw [upd_ne (ne_of_none ho hx), upd_ne (ne_of_none ho hdx)]
    exact ho
/-- p an exchange whose sides at i, o are ds, es -/
structure ExAt (C : Addr) (H : Hp) (p i o : Addr) (ds es : List Int) (m : Int) : Prop where
  ob : ExO C H p i o m
  ti : Tup H i ds
  gi : Good ds
  to : Tup H o es
  go : Good es
  m1 : 1 ≤ m
  m2 : m ≤ 7
theorem ExAt.same {C : Addr} {H H' : Hp} {p i o : Addr} {ds es : List Int} {m : Int} (s : Same H H') (h : ExAt C H p i o ds es m) : ExAt C H' p i o ds es m := ⟨Same.exO s h.ob, Same.tup s h.ti, h.gi, Same.tup s h.to, h.go, h.m1, h.m2⟩
theorem But.old {a : Addr} {H H' : Hp} (h : But a H H') : Old a H H' := fun b o e ne => by rw [h b ne]; exact e
theorem Old.trans {a : Addr} {H H1 H2 : Hp} (h : Old a H H1) (g : Old a H1 H2) : Old a H H2 := fun b o e ne => g b o (h b o e ne) ne
def Kept (H H' : Hp) : Prop := (∀ b o, H b = some o → (∀ xs, o ≠ .lst xs) → H' b = some o) ∧ ∀ b xs, H b = some (.lst xs) → ∃ ys, H' b = some (.lst ys)
theorem Kept.trans {H H1 H2 : Hp} (a : Kept H H1) (b : Kept H1 H2) : Kept H H2 := ⟨fun c o e n => b.1 c o (a.1 c o e n) n, fun c xs e => let ⟨ys, e1⟩ := a.2 c xs e; b.2 c ys e1⟩
theorem Kept.of {H H' : Hp} (s : Same H H') : Kept H H' := ⟨fun b o e _ => s b o e, fun b xs e => ⟨xs, s b _ e⟩⟩
theorem TyX.kept {K : PySem.W.Frag} {H H' : Hp} (s : Kept H H') {x : V} {t : Value} (h : TyX K H x t) : TyX K H' x t := by
  cases h with
  | base h =>
    refine .base ?_
    cases h with
    | non => exact .non
    | bl x => exact .bl x
    | int i => exact .int i
    | str x => exact .str x
    | flt x => exact .flt x
    | lst e => obtain ⟨ys, e1⟩ := s.2 _ _ e; exact .lst e1
    | frz e => exact .frz (s.1 _ _ e fun _ z => by cases z)
    | tup e => exact .tup (s.1 _ _ e fun _ z => by cases z)
    | dK e => exact .dK (s.1 _ _ e fun _ z => by cases z)
    | dT e => exact .dT (s.1 _ _ e fun _ z => by cases z)
    | ins e cl ha hn htk hm => exact .ins (s.1 _ _ e fun _ z => by cases z) cl ha hn htk hm
  | byt b => exact .byt b
  | set e => exact .set (s.1 _ _ e fun _ z => by cases z)
  | kList e c => exact .kList e c
  | kTuple e c => exact .kTuple e c
  | kDict e c => exact .kDict e c
  | fTuple e => exact .fTuple (s.1 _ _ e fun _ z => by cases z)
  | fDict e => exact .fDict (s.1 _ _ e fun _ z => by cases z)
theorem PlainI.kept {K : PySem.W.Frag} {H H' : Hp} (s : Kept H H') {x : V} {b : Bool} (h : PlainI K H x b) : PlainI K H' x b := let ⟨t, b1, ty, r⟩ := h; ⟨t, b1, TyX.kept s ty, r⟩
theorem InR.kept {K : PySem.W.Frag} {H H' : Hp} (s : Kept H H') {x : V} {lo hi : Int} {b : Bool} (h : InR K H x lo hi b) : InR K H' x lo hi b := h.elim .inl fun ⟨p, e⟩ => .inr ⟨PlainI.kept s p, e⟩
theorem SideV.kept {K : PySem.W.Frag} {H H' : Hp} (s : Kept H H') {x : V} {b : Bool} (h : SideV K H x b) : SideV K H' x b := by
  rcases h with ⟨a, xs, bs, e, hx, hl, hin, hb⟩ | ⟨t, ty, k, hb⟩
  · exact .inl ⟨a, xs, bs, e, s.1 _ _ hx (fun _ z => by cases z), hl, fun i v c h1 h2 => InR.kept s (hin i v c h1 h2), hb⟩
  · exact .inr ⟨t, TyX.kept s ty, k, hb⟩
theorem Kept.old {a : Addr} {H H' : Hp} (h : Old a H H') (f : FlowAt H a) (f' : FlowAt H' a) : Kept H H' := by
  obtain ⟨n, c, r, e0⟩ := f
  obtain ⟨n', c', r', e1⟩ := f'
  refine ⟨fun b o e ne => h b o e (fun z => by rw [z, e0] at e; cases e; exact ne _ rfl), fun b xs e => ?_⟩
  by_cases z : b = a
  · rw [z]
    exact ⟨_, e1⟩
  · exact ⟨xs, h b _ e z⟩
def Ins (K : PySem.W.Frag) (H : Hp) (xs : List V) (bs : List Bool) : Prop := bs.length = xs.length ∧ ∀ (i : Nat) v c, xs[i]? = some v → bs[i]? = some c → InR K H v 1 4 c
section
variable {K : PySem.W.Frag} {H : Hp}
theorem Ins.app {xs ys : List V} {bs cs : List Bool} (h : Ins K H xs bs) (g : Ins K H ys cs) : Ins K H (xs ++ ys) (bs ++ cs) := by
  refine ⟨by rw [List.length_append, List.length_append, h.1, g.1], fun i v c e1 e2 => ?_⟩
  by_cases lt : i < xs.length
  · rw [List.getElem?_append_left lt] at e1
    rw [List.getElem?_append_left (by rw [h.1]; exact lt)] at e2
    exact h.2 i v c e1 e2
  · rw [List.getElem?_append_right (by omega)] at e1
    rw [List.getElem?_append_right (by rw [h.1]; omega), h.1] at e2
    exact g.2 _ v c e1 e2
theorem Ins.one {v : V} {c : Bool} (h : InR K H v 1 4 c) : Ins K H [v] [c] := by
  refine ⟨rfl, fun i x d e1 e2 => ?_⟩
  cases i with
  | zero =>
    cases e1
    cases e2
    exact h
  | succ n => simp at e1
end
theorem FlowAt.same {a : Addr} {H H' : Hp} (f : FlowAt H a) (s : Same H H') : FlowAt H' a := let ⟨x, y, z, e⟩ := f; ⟨x, y, z, s _ _ e⟩
theorem same_old {a : Addr} {H H' : Hp} (s : Same H H') : Old a H H' := fun b o e _ => s b o e
def spLaw (K : PySem.W.Frag) : Sp := fun vs H Q _ => ∃ (a : Addr) (ns : List Int), vs = [.ref a] ∧ SqL K H a (ns.map V.int) ∧ ns.length ≤ 63 ∧ ∀ H', Q (.bl true) H'
theorem sqlS {K : PySem.W.Frag} {H H' : Hp} {a : Addr} {xs : List V} (h : SqL K H a xs) (e : Same H H') : SqL K H' a xs :=
  h.elim (fun h => .inl (h.elim (fun h => .inl (e _ _ h)) fun ⟨o, h⟩ => .inr ⟨o, e _ _ h⟩)) fun h => .inr h
end Gn
set_option Elab.async false
set_option linter.all false
set_option maxRecDepth 100000
set_option maxHeartbeats 4000000
namespace Gn
open PySem PySem.Spec PyProof.Rows L2 Com Sd StV
abbrev Frg := PySem.W.Frag
def NoTup (K : Frg) (H : Hp) (v : V) : Prop := ∃ t, TyX K H v t ∧ PySem.W.kitOne K t (.type "tuple") = some false
theorem NoTup.same {K : Frg} {H H' : Hp} (s : Same H H') {v : V} (h : NoTup K H v) : NoTup K H' v := let ⟨t, a, b⟩ := h; ⟨t, TyX.same s a, b⟩
/-- is_pair's answer for any value -/
def PairJ (K : Frg) (H : Hp) (n m : Nat) (v : V) (b : Bool) : Prop :=
  (∃ a x y b1 b2, v = .ref a ∧ H a = some (.tup [x, y]) ∧ InR K H x 0 ((n : Nat) - 1) b1 ∧ InR K H y 0 ((m : Nat) - 1) b2 ∧ b = (b1 && b2)) ∨
  (∃ a xs, v = .ref a ∧ H a = some (.tup xs) ∧ xs.length ≠ 2 ∧ b = false) ∨
  (NoTup K H v ∧ b = false)
theorem PairJ.same {K : Frg} {H H' : Hp} (s : Same H H') {n m : Nat} {v : V} {b : Bool} (h : PairJ K H n m v b) : PairJ K H' n m v b := by
  rcases h with ⟨a, x, y, b1, b2, e, h, i, j, z⟩ | ⟨a, xs, e, h, l, z⟩ | ⟨h, z⟩
  · exact .inl ⟨a, x, y, b1, b2, e, s _ _ h, i.same s, j.same s, z⟩
  · exact .inr (.inl ⟨a, xs, e, s _ _ h, l, z⟩)
  · exact .inr (.inr ⟨h.same s, z⟩)
def ascB (L : List PP) : Bool := decide ((L.map (·.1)).Pairwise (· < ·)) && decide (L.map (·.2)).Nodup
/-- is_load's answer for any value -/
def LoadJ (K : Frg) (H : Hp) (n m : Nat) (v : V) (b : Bool) : Prop :=
  (∃ a xs, v = .ref a ∧ H a = some (.tup xs) ∧ n < xs.length ∧ b = false) ∨
  (∃ (a : Addr) (xs : List V) (bs : List Bool), v = .ref a ∧ H a = some (.tup xs) ∧ xs.length ≤ n ∧ bs.length = xs.length ∧ (∀ (i : Nat) v c, xs[i]? = some v → bs[i]? = some c → PairJ K H n m v c) ∧ bs.all id = false ∧ b = false) ∨
  (∃ L, LoadV H v L ∧ L.length ≤ n ∧ (∀ p ∈ L, InP n m p) ∧ b = ascB L) ∨
  (NoTup K H v ∧ b = false)
theorem LoadJ.same {K : Frg} {H H' : Hp} (s : Same H H') {n m : Nat} {v : V} {b : Bool} (h : LoadJ K H n m v b) : LoadJ K H' n m v b := by
  rcases h with ⟨a, xs, e, h, l, z⟩ | ⟨a, xs, bs, e, h, l, l2, j, z⟩ | ⟨L, h, l, g, z⟩ | ⟨h, z⟩
  · exact .inl ⟨a, xs, e, s _ _ h, l, z⟩
  · exact .inr (.inl ⟨a, xs, bs, e, s _ _ h, l, l2, fun i v c a b => (j i v c a b).same s, z⟩)
  · exact .inr (.inr (.inl ⟨L, h.same s, l, g, z⟩))
  · exact .inr (.inr (.inr ⟨h.same s, z⟩))
def doorB (ds es : List Int) (S : List (List PP)) : Bool := decide (∀ d ∈ left ds (fs S), 0 ≤ d) && decide (∀ d ∈ left es (sn S), 0 ≤ d)
/-- is_standing's answer for any value -/
def StaJ (K : Frg) (H : Hp) (ds es : List Int) (mid : Int) (v : V) (b : Bool) : Prop :=
  (∃ a xs, v = .ref a ∧ H a = some (.tup xs) ∧ ((xs.length : Nat) : Int) ≠ mid ∧ b = false) ∨
  (∃ (a : Addr) (xs : List V) (bs : List Bool), v = .ref a ∧ H a = some (.tup xs) ∧ ((xs.length : Nat) : Int) = mid ∧ bs.length = xs.length ∧ (∀ (i : Nat) v c, xs[i]? = some v → bs[i]? = some c → LoadJ K H ds.length es.length v c) ∧ bs.all id = false ∧ b = false) ∨
  (∃ S, StaV H v S ∧ ((S.length : Nat) : Int) = mid ∧ (∀ L ∈ S, LoadOk ds.length es.length L) ∧ b = doorB ds es S) ∨
  (NoTup K H v ∧ b = false)
theorem StaJ.same {K : Frg} {H H' : Hp} (s : Same H H') {ds es : List Int} {mid : Int} {v : V} {b : Bool} (h : StaJ K H ds es mid v b) : StaJ K H' ds es mid v b := by
  rcases h with ⟨a, xs, e, h, l, z⟩ | ⟨a, xs, bs, e, h, l, l2, j, z⟩ | ⟨L, h, l, g, z⟩ | ⟨h, z⟩
  · exact .inl ⟨a, xs, e, s _ _ h, l, z⟩
  · exact .inr (.inl ⟨a, xs, bs, e, s _ _ h, l, l2, fun i v c a b => (j i v c a b).same s, z⟩)
  · exact .inr (.inr (.inl ⟨L, h.same s, l, g, z⟩))
  · exact .inr (.inr (.inr ⟨h.same s, z⟩))
def Rng (n m : Nat) (S : List (List PP)) : Prop := ∀ L ∈ S, ∀ p ∈ L, InP n m p
theorem Rng.of {ds es : List Int} {mid : Int} {S : List (List PP)} (g : StdOk ds es mid S) : Rng ds.length es.length S := fun L hL => (g.ld L hL).rng
def LisI (H : Hp) (a : Addr) (ds : List Int) : Prop := H a = some (.lst (ds.map V.int))
def openB (ds es : List Int) (S : List (List PP)) (p : PP) : Bool := decide (0 < (left ds (fs S)).getD p.1.toNat 0) && decide (0 < (left es (sn S)).getD p.2.toNat 0)
/-- a load, as a list or as a tuple -/
def LoadX (H : Hp) (v : V) (L : List PP) : Prop := ∃ b us, v = .ref b ∧ (H b = some (.lst us) ∨ H b = some (.tup us)) ∧ PairsV H us L
theorem LoadV.x {H : Hp} {v : V} {L : List PP} (h : LoadV H v L) : LoadX H v L := let ⟨b, us, e, x, p⟩ := h; ⟨b, us, e, .inr x, p⟩
def iSeq (K : Frg) (tl : TE) : TI := fun σ H R => tl σ H fun x H1 => ∃ a, x = .ref a ∧ ((∃ xs, SqL K H1 a xs ∧ R (Itl K a) H1) ∨ (∃ xs, SqT K H1 a xs ∧ R (Itt K a) H1))
theorem pi_seq {X : Cx} (K : Frg) {tg l : Expr} {tl : TE} (hl : PE X l tl) (hK : X.K = K := by rfl) : PI X tg l (iSeq K tl) := by
  subst hK
  refine ⟨fun pins s σ H R I h => ?_⟩
  refine thn (hl.run pins s σ H _ I h) fun v s1 ⟨x, H1, I1, r1, q1⟩ => ?_
  obtain ⟨a, e, q1⟩ := q1
  subst e
  cases r1
  rcases q1 with ⟨xs, hq, q⟩ | ⟨xs, hq, q⟩
  · obtain ⟨its, rv, p, hz⟩ := I1.list hq
    refine wpAny_pyIter_list p.isList ?_
    refine ⟨s1.heap.objs.size, [s1.heap.objs.size], _, _, H1, rfl, I1.kept (t' := s1.toks) fun b o e => Heap.get?_push_of_some _ e, turn_list a _, ⟨_, Heap.get?_push_size _ rfl, rfl, rfl⟩, fun b hb => ?_, q⟩
    have e : b = s1.heap.objs.size := by simpa using hb
    subst e
    exact I1.fpOk (Nat.le_refl _) (I1.hok.fresh (Nat.le_refl _))
  · obtain ⟨its, rv, p, hz⟩ := I1.tuple hq
    refine wpAny_pyIter_tuple (show s1.heap.IsTuple a its.toArray from p) ?_
    refine ⟨s1.heap.objs.size, [s1.heap.objs.size], _, _, H1, rfl, I1.kept (t' := s1.toks) fun b o e => Heap.get?_push_of_some _ e, turn_tuple a _, ⟨_, Heap.get?_push_size _ rfl, rfl, rfl⟩, fun b hb => ?_, q⟩
    have e : b = s1.heap.objs.size := by simpa using hb
    subst e
    exact I1.fpOk (Nat.le_refl _) (I1.hok.fresh (Nat.le_refl _))
end Gn
namespace Gn
open PySem PySem.Spec PyProof.Rows L2 Com Sd StV
theorem pairsL_iff {n m : Nat} {p : PP} : p ∈ pairsL n m ↔ InP n m p := by
  unfold pairsL rowL InP
  rw [List.mem_flatMap]
  constructor
  · rintro ⟨i, hi, hp⟩
    obtain ⟨j, hj, rfl⟩ := List.mem_map.mp hp
    rw [List.mem_range] at hi hj
    refine ⟨?_, ?_, ?_, ?_⟩ <;> simp <;> omega
  · rintro ⟨h1, h2, h3, h4⟩
    refine ⟨p.1.toNat, List.mem_range.mpr (by omega), List.mem_map.mpr ⟨p.2.toNat, List.mem_range.mpr (by omega), ?_⟩⟩
    exact Prod.ext (by show ((p.1.toNat : Nat) : Int) = p.1; omega) (by show ((p.2.toNat : Nat) : Int) = p.2; omega)
theorem pairsL_in {n m : Nat} {p : PP} (h : p ∈ pairsL n m) : InP n m p := pairsL_iff.mp h
theorem pairsL_mem {n m : Nat} {p : PP} (h : InP n m p) : p ∈ pairsL n m := pairsL_iff.mpr h
end Gn
set_option Elab.async false
set_option linter.all false
set_option maxRecDepth 100000
set_option maxHeartbeats 4000000
namespace Gn
open PySem PySem.Spec PyProof.Rows L2 Com Sd StV
/-- lists of loads, each of its own, none of them one of the five -/
def LoadsL (a A L0 I0 I1 : Addr) (H : Hp) : List V → List (List PP) → Prop := Paired fun v L => ∃ b us, v = .ref b ∧ H b = some (.lst us) ∧ PairsV H us L ∧ b ≠ a ∧ b ≠ A ∧ b ≠ L0 ∧ b ≠ I0 ∧ b ≠ I1
theorem LoadsL.fr {a A L0 I0 I1 : Addr} {H H' : Hp} (s : ∀ b u, H b = some u → b ≠ a → b ≠ A → b ≠ L0 → b ≠ I0 → b ≠ I1 → H' b = some u) (t : TupS H H') {vs : List V} {S : List (List PP)} (h : LoadsL a A L0 I0 I1 H vs S) : LoadsL a A L0 I0 I1 H' vs S :=
  paired_imp (fun _ _ ⟨b, us, e, hb, hp, n1, n2, n3, n4, n5⟩ => ⟨b, us, e, s b _ hb n1 n2 n3 n4 n5, PairsV.mono t hp, n1, n2, n3, n4, n5⟩) h
/-- the five apart, and new -/
structure Apart (H : Hp) (a A L0 I0 I1 : Addr) : Prop where
  nA : H A = none
  nL : H L0 = none
  n0 : H I0 = none
  n1 : H I1 = none
  aA : a ≠ A
  aL : a ≠ L0
  a0 : a ≠ I0
  a1 : a ≠ I1
  AL : A ≠ L0
  A0 : A ≠ I0
  A1 : A ≠ I1
  L0' : L0 ≠ I0
  L1 : L0 ≠ I1
  I01 : I0 ≠ I1
structure LdI (a A L0 I0 I1 : Addr) (ds es : List Int) (m : Int) (H H' : Hp) (S : List (List PP)) (vs : List V) : Prop where
  fl : FlowAt H' a
  hA : H' A = some (.lst vs)
  hS : LoadsL a A L0 I0 I1 H' vs S
  hL : H' L0 = some (.lst [.ref I0, .ref I1])
  h0 : LisI H' I0 (left ds (fs S))
  h1 : LisI H' I1 (left es (sn S))
  ok : StdOk ds es m S
  old : Old a H H'
section
variable {a A L0 I0 I1 : Addr} {ds es : List Int} {m : Int} {H H' H2 : Hp} {S : List (List PP)} {vs : List V}
theorem LdI.same (I : LdI a A L0 I0 I1 ds es m H H' S vs) (s : Same H' H2) : LdI a A L0 I0 I1 ds es m H H2 S vs :=
  ⟨FlowAt.same I.fl s, s _ _ I.hA, LoadsL.fr (fun c u e _ _ _ _ _ => s c u e) (TupS.of s) I.hS, s _ _ I.hL, s _ _ I.h0, s _ _ I.h1, I.ok, Old.trans I.old (same_old s)⟩
/-- the load k gets the pair: a new list q stands there, both counts go down -/
theorem LdI.put (Z : Apart H a A L0 I0 I1) (I : LdI a A L0 I0 I1 ds es m H H' S vs) {k : Nat} {L : List PP} {p : PP} {x y : Int} {q : Addr} {us : List V} (hk : S[k]? = some L) (hp : InP ds.length es.length p) (hf : freeB L p = true)
    (hx : (left ds (fs S))[p.1.toNat]? = some x) (x0 : 0 < x) (hy : (left es (sn S))[p.2.toNat]? = some y) (y0 : 0 < y) (hq : H' q = some (.lst us)) (hu : PairsV H' us (srt (L ++ [p]))) (nq : q ≠ a ∧ q ≠ A ∧ q ≠ L0 ∧ q ≠ I0 ∧ q ≠ I1) :
    LdI a A L0 I0 I1 ds es m H (upd (upd (upd H' A (.lst (vs.set k (.ref q)))) I0 (.lst (((left ds (fs S)).set p.1.toNat (x - 1)).map V.int))) I1 (.lst (((left es (sn S)).set p.2.toNat (y - 1)).map V.int))) (S.set k (srt (L ++ [p]))) (vs.set k (.ref q)) := by
  obtain ⟨o1, o2, o3⟩ := I.ok.set hk hp hf hx x0 hy y0
  have off : ∀ b, b ≠ A → b ≠ I0 → b ≠ I1 → upd (upd (upd H' A (.lst (vs.set k (.ref q)))) I0 (.lst (((left ds (fs S)).set p.1.toNat (x - 1)).map V.int))) I1 (.lst (((left es (sn S)).set p.2.toNat (y - 1)).map V.int)) b = H' b := fun b e1 e2 e3 => by
    rw [upd_ne e3, upd_ne e2, upd_ne e1]
  have ts : TupS H' (upd (upd (upd H' A (.lst (vs.set k (.ref q)))) I0 (.lst (((left ds (fs S)).set p.1.toNat (x - 1)).map V.int))) I1 (.lst (((left es (sn S)).set p.2.toNat (y - 1)).map V.int))) := fun b xs e => by
    rw [off b (fun z => by rw [z, I.hA] at e; cases e) (fun z => by rw [z, I.h0] at e; cases e) (fun z => by rw [z, I.h1] at e; cases e)]
    exact e
  refine ⟨?_, ?_, ?_, ?_, ?_, ?_, o1, ?_⟩
  · obtain ⟨u, v, w, e⟩ := I.fl
    exact ⟨u, v, w, by rw [off a Z.aA Z.a0 Z.a1]; exact e⟩
  · rw [upd_ne Z.A1, upd_ne Z.A0, upd_same]
  · refine paired_set ⟨q, us, rfl, ?_, PairsV.mono ts hu, nq⟩ (LoadsL.fr (fun b u e n1 n2 n3 n4 n5 => by rw [off b n2 n4 n5]; exact e) ts I.hS)
    rw [off q nq.2.1 nq.2.2.2.1 nq.2.2.2.2]
    exact hq
  · rw [off L0 Z.AL.symm Z.L0' Z.L1]
    exact I.hL
  · show upd _ _ _ _ = _
    rw [upd_ne Z.I01, upd_same, o2]
  · show upd _ _ _ _ = _
    rw [upd_same, o3]
  · intro b u e ne
    rw [off b (ne_of_none e Z.nA) (ne_of_none e Z.n0) (ne_of_none e Z.n1)]
    exact I.old b u e ne
end
end Gn
namespace Gn
open PySem PySem.Spec PyProof.Rows L2 Com Sd StV
def app {α : Type} (us ws : List α) : List α := us ++ ws
theorem flat_len {n : Nat} : ∀ {S : List (List PP)}, (∀ L ∈ S, L.length ≤ n) → S.flatten.length ≤ S.length * n
  | [], _ => by simp
  | L :: S, h => by
    have h1 := h L (List.mem_cons_self ..)
    have h2 := flat_len (S := S) fun M hM => h M (List.mem_cons_of_mem _ hM)
    rw [List.flatten_cons, List.length_append, List.length_cons, Nat.succ_mul]
    omega
end Gn
set_option Elab.async false
set_option linter.all false
set_option maxRecDepth 100000
set_option maxHeartbeats 4000000
namespace Ext
open PySem PySem.Spec PyProof.Rows L2 Com
/-- each item a scalar or an object: two tuples of these very items are equal -/
def sameOk (x : V) : Bool := match x with
  | .ref _ => true
  | x => flatB x
end Ext
set_option linter.all false
namespace Sd
/-- doors da at the pair's input switch, db at its output switch; so, si: the doors of all other switches of the other side -/
def bzI (da db so si : Int) : Int := min (da - 1) so + min (db - 1) si + min (da - 1 - min (da - 1) so) (db - 1 - min (db - 1) si)
def bz (ds es : List Int) (p : PP) : Int := bzI (ds.getD p.1.toNat 0) (es.getD p.2.toNat 0) (es.sum - es.getD p.2.toNat 0) (ds.sum - ds.getD p.1.toNat 0)
theorem bzI_nn {a b c d : Int} (h1 : 1 ≤ a) (h2 : 1 ≤ b) (h3 : 0 ≤ c) (h4 : 0 ≤ d) : 0 ≤ bzI a b c d := by unfold bzI; omega
def mx (l : List Int) : Int := l.foldl max 0
theorem fold_ge : ∀ (l : List Int) (a : Int), a ≤ l.foldl max a ∧ ∀ x ∈ l, x ≤ l.foldl max a
  | [], a => ⟨Int.le_refl a, fun x h => nomatch h⟩
  | y :: l, a => by
    have h := fold_ge l (max a y)
    refine ⟨by show a ≤ l.foldl max (max a y); omega, fun x hx => ?_⟩
    show x ≤ l.foldl max (max a y)
    rcases List.mem_cons.mp hx with e | e
    · subst e; omega
    · exact h.2 x e
theorem fold_in : ∀ (l : List Int) (a : Int), l.foldl max a = a ∨ l.foldl max a ∈ l
  | [], a => .inl rfl
  | y :: l, a => by
    show l.foldl max (max a y) = a ∨ l.foldl max (max a y) ∈ y :: l
    rcases fold_in l (max a y) with e | e
    · rw [e]
      rcases Int.le_total a y with h | h
      · right; rw [Int.max_eq_right h]; exact List.mem_cons_self ..
      · left; exact Int.max_eq_left h
    · exact .inr (List.mem_cons_of_mem _ e)
theorem mx_ge {l : List Int} {x : Int} (h : x ∈ l) : x ≤ mx l := (fold_ge l 0).2 x h
theorem mx_nn (l : List Int) : 0 ≤ mx l := (fold_ge l 0).1
theorem mx_le {l : List Int} {b : Int} (h0 : 0 ≤ b) (h : ∀ x ∈ l, x ≤ b) : mx l ≤ b := by
  rcases fold_in l 0 with e | e
  · unfold mx; omega
  · exact h _ e
theorem mx_uniq {l : List Int} {m : Int} (h : m ∈ l) (g : ∀ x ∈ l, x ≤ m) (h0 : 0 ≤ m) : m = mx l := by
  have := mx_ge h
  have := mx_le h0 g
  omega
theorem sum_ge : ∀ {ds : List Int} (_ : ∀ d ∈ ds, 1 ≤ d) {n : Nat}, n < ds.length → ds.getD n 0 ≤ ds.sum ∧ 1 ≤ ds.getD n 0
  | [], _, n, h => absurd h (Nat.not_lt_zero n)
  | d :: ds, hd, n, h => by
    have h1 := hd d (List.mem_cons_self ..)
    have hs : 0 ≤ ds.sum := by
      have : ∀ (l : List Int), (∀ x ∈ l, 1 ≤ x) → 0 ≤ l.sum := fun l => by
        induction l with
        | nil => intro _; simp
        | cons x l ih =>
          intro hx
          have := hx x (List.mem_cons_self ..)
          have := ih fun y hy => hx y (List.mem_cons_of_mem _ hy)
          rw [List.sum_cons]; omega
      exact this ds fun x hx => hd x (List.mem_cons_of_mem _ hx)
    rw [List.sum_cons]
    cases n with
    | zero => refine ⟨?_, ?_⟩ <;> simp <;> omega
    | succ n =>
      have := sum_ge (ds := ds) (fun x hx => hd x (List.mem_cons_of_mem _ hx)) (n := n) (by simpa using h)
      rw [List.getD_cons_succ]
      omega
theorem sum_take {ds : List Int} {k : Nat} {x : Int} (h : ds[k]? = some x) : (ds.take (k + 1)).sum = (ds.take k).sum + x := by
  rw [List.take_add_one, h]
  simp
end Sd
namespace Sd
theorem sum_le4 : ∀ {l : List Int}, (∀ d ∈ l, 1 ≤ d ∧ d ≤ 4) → l.sum ≤ 4 * l.length ∧ 0 ≤ l.sum
  | [], _ => by simp
  | d :: l, h => by
    have h1 := h d (List.mem_cons_self ..)
    have h2 := sum_le4 (l := l) fun x hx => h x (List.mem_cons_of_mem _ hx)
    rw [List.sum_cons, List.length_cons]
    omega
end Sd
set_option Elab.async false
set_option linter.all false
set_option maxRecDepth 100000
set_option maxHeartbeats 4000000
namespace PySem
namespace Exo_thing
open PySem.W PySem.Calls PyProof.Rows PySem.HandSPX
def iA (p1 p2 : Pos) : Arguments := { posonlyargs := [], args := [{ arg := "self", annotation := none, pos := p1 }, { arg := "thing", annotation := none, pos := p2 }], vararg := none, kwonlyargs := [], kw_defaults := [], kwarg := none, defaults := [] }
abbrev sCall (msg : Str) (q1 q2 q3 q4 q5 : Pos) : Expr := .Call (.Attribute (.Call (.Name "super" q1) [] [] q2) "__init__" q3) [.Constant (.str msg) 0 q4] [] q5
def iB (msg : Str) (q1 q2 q3 q4 q5 q6 q7 q8 q9 q10 : Pos) : List Stmt :=
  [.Expr (sCall msg q1 q2 q3 q4 q5) q6, .Assign [.Attribute (.Name "self" q7) "thing" q8] (.Name "thing" q9) q10]
def iS : Scope := { kind := .function, names := [(PySem.Str.ofString "self", .local), (PySem.Str.ofString "thing", .local), (PySem.Str.ofString "__class__", .free), (PySem.Str.ofString "super", .globalImplicit)], isGenerator := false, isCoroutine := false, more := [] }
/-- how the call of the bound __init__ is read -/
def Reads (msg : Str) (q1 q2 q3 q4 q5 : Pos) (env : Env) : Prop := ∃ pl : Sem Bool, eval (sCall msg q1 q2 q3 q4 q5) env = (do
  let ov ← attributeBase (.Call (.Name "super" q1) [] [] q2) "__init__" env (eval (.Call (.Name "super" q1) [] [] q2) env)
  standAt q3.atName
  let (f, first) ← holding [ov] (getMethod ov "__init__" pl)
  callWith q5 f first (backTo q5 (starEach [.Constant (.str msg) 0 q4] env)) [])
/-- what the written part says of the class x, at C, and of its __init__, at fI -/
structure Txt (prog : Program) (K : Frag) (mg : Str → Option Value) (x : Str) (C fI : Addr) : Prop where
  gC : mg x = some (.ref C)
  gS : mg "super" = none
  cls : ∃ nm q N bs bm sn sub ab col dd k0 k1 k2 k3 k5, K.lookup C = some (excClassObj nm q C N bs bm true sn sub ab col dd k0 k1 k2 k3 k5 "ValueError.__new__") ∧ refsVE bm = true
  sup : ks_superIn K C C "__init__" = some (some (.builtin "ValueError.__init__"))
  sVE : subIn K (.ref C) (.type "ValueError") = some true
  own : mroIn K C (.ref C) = some true
  op : nsIn K cStatics "thirdparty.any" = some none
  sa : findIn K (.ref C) "__setattr__" = some (some (.builtin "object.__setattr__"))
  ga : findIn K (.ref C) "__getattribute__" = some (some (.builtin "BaseException.__getattribute__"))
  gg : findIn K (.ref C) "__getattr__" = some none
  noN : findIn K (.ref C) "thing" = some none
  iC : findIn K (.ref C) "__init__" = some (some (.ref fI))
  tC : typeIn K (.ref fI) = some (.type "function")
  kC : keepIn K (.ref C) = true
  exC : subIn K (.ref C) (.type "BaseException") = some true
  tyC : typeIn K (.ref C) = some (.type "type")
  hdC : hasDictIn K C = true
  te : exmOne K (.ref C) (.ref C) = some true
  top : (prog.main.scope.names.lookup ("super" : Str)).isSome = false
  fn : ∃ (oc : Value) (od : Option Addr) (doc pm : Value) (an : Option Addr) (ct : Value) (osl : Array (Option Value)) (cda cc : Addr) (qual : Str) (p1 p2 : Pos) (msg : Str) (q1 q2 q3 q4 q5 q6 q7 q8 q9 q10 : Pos)
      (cl : Value) (cld : Option Addr) (csl : Array (Option Value)) (ccl : Value) (cdd : Option Addr) (vs : Array Value) (ccs : Array (Option Value)) (file : Str) (tf : Tok),
    K.lookup fI = some ⟨oc, od, .func (ksFn "__init__" qual (iA p1 p2) (iB msg q1 q2 q3 q4 q5 q6 q7 q8 q9 q10) iS .none .none doc pm an (.ref cda) ct cc), osl⟩ ∧ codeIn K (.ref cda) qual = true ∧
    K.lookup cc = some ⟨cl, cld, .cell (some (.ref C)), csl⟩ ∧ K.lookup cda = some ⟨ccl, cdd, .fields vs, ccs⟩ ∧ vs[2]? = some (.str file tf) ∧ ((prog.main.file : Str) == file) = true ∧ (∀ L : Addr, Reads msg q1 q2 q3 q4 q5 (ksEnv qual iS L fI (.ref cda) cc))
theorem kept_but {K : Frag} {h h' : Heap} {x : Addr} (X : K.In h) (hx : K.lookup x = none) (k : ∀ b o, b ≠ x → h.get? b = some o → h'.get? b = some o) : K.In h' := fun a o e =>
  k a o (fun z => by rw [z, hx] at e; cases e) (X a o e)
theorem one_size (v : Value) : [v].length ≤ sizeLine := by
  rw [sizeLine_eq]
  exact (by decide : 1 ≤ 16777216)
/-- what __init__ leaves of a fresh exception at x -/
structure InitEnd (h h' : Heap) (x C dx t1 : Addr) (v : Value) : Prop where
  keep : ∀ b o, b ≠ x → h.get? b = some o → h'.get? b = some o
  obj : h'.get? x = some { cls := .ref C, dict := some dx, data := .fields #[.ref t1, .none, .none, .none, .bool false, .none] }
  dbig : h.objs.size ≤ dx
  dne : dx ≠ x
  ns : h'.Ns1 dx (fun y => if y = "thing" then some v else none)
/-- a made one -/
structure OwnMade (h h' : Heap) (e C d : Addr) (v : Value) : Prop where
  keep : ∀ b o, h.get? b = some o → h'.get? b = some o
  new : h.objs.size ≤ e
  obj : ∃ oe vs, h'.get? e = some oe ∧ oe.cls = .ref C ∧ oe.dict = some d ∧ oe.data = .fields vs ∧ vs[1]? = some .none
  dbig : h.objs.size ≤ d
  dne : d ≠ e
  ns : h'.Ns1 d (fun y => if y = "thing" then some v else none)
section
variable {M : Model} {prog : Program} {w : World} {A : Around} {E : Value → Shared → Prop} {h : Heap} {g : Array GenState} {d : Drawn} {t : Nat} {os : OsState}
variable {nm q : Str} {C N : Addr} {bs bm : List Value} {hdct : Bool} {sn : List Str} {sub : List Value} {ab : Bool} {col : Option Bool} {dd : Option Addr} {k0 k1 k2 k3 k5 : Option Value}
/-- the bound ValueError.__init__ is called -/
theorem call_mw {u e t0 : Addr} {rest : List Value} {Q : Value → Shared → Prop}
    (hC : h.get? C = some (excClassObj nm q C N bs bm hdct sn sub ab col dd k0 k1 k2 k3 k5 "ValueError.__new__")) (he : h.get? e = some (excO C t0)) (hu : h.get? u = some (kxs_mw "ValueError.__init__" e)) (hrest : rest.length ≤ sizeLine)
    (hq : ∀ h' t1, (∀ b o, b ≠ e → h.get? b = some o → h'.get? b = some o) → h'.get? e = some (excO C t1) → h.objs.size ≤ h'.objs.size → Q .none ⟨h', g, d, t, os⟩) :
    wpAny (model prog w) A (call (.ref u) rest) Q E ⟨h, g, d, t, os⟩ := by
  refine wpAny_call (codeAny_of_tree ?_)
  show wpAny _ A.in1 (callAny (.ref u) ⟨rest, []⟩) _ _ _
  simp only [callAny]
  refine wpAny_bind (wpAny_load hu ?_)
  simp only [kxs_mw, show (Value.type "method-wrapper" == Value.type "method" || Value.type "method-wrapper" == Value.type "builtin_function_or_method" || Value.type "method-wrapper" == Value.type "method-wrapper") = true by decide, if_true]
  refine KFB.if_so (by decide) ?_
  refine wpAny_bind (check_bound_init F.excBase_ValueError.toExcCallFacts hC he rfl ?_)
  refine wpAny_bind (wpAny_pure (wpAny_pure ?_))
  refine ⟨plainId_quiet F.excBase_ValueError.init.plain _, codeAny_builtin F.excBase_ValueError.initEntry ?_⟩
  refine exc_init_tree (cls := .ref C) (t0 := t0) (dv := none) (c2 := .none) (c3 := .none) (b4 := .bool false) he hrest fun h' k hx ht => hq h' h.objs.size k hx (Nat.le_of_lt (Heap.lt_size ht))
end
section
variable {prog : Program} {w : World} {A : Around} {E : Value → Shared → Prop} {R : Result → Shared → Prop} {s : Shared} {K : Frag} {mg : Str → Option Value} {C fI : Addr} {nm : Str}
theorem ldC {M : Model} {s : Shared} {env : Env} {m : Str → Option Value} {x : Str} {pos : Pos} {v : Value} {Q : Value → Shared → Prop} {A : Around} {E : Value → Shared → Prop} (hn : s.heap.Ns env.locals m) (hv : m x = some v) (h : Q v s)
    (hk : env.scope.kind = .function := by rfl) (hl : env.kindOf x = some .local := by rfl) (hd : (x == ("__debug__" : Str)) = false := by decide) : wpAny M A (eval (.Name x pos) env) Q E s := wpAny_Name (wpAny_loadName_local hk hl hn hv h) hd
theorem init (T : Txt prog K mg nm C fI) {x t0 : Addr} {v : Value} {mb : Str → Option Value} (X : K.In s.heap) (hg : s.heap.Ns mainGlobals mg) (hb : s.heap.Ns builtinsNs mb) (hbv : ∀ y : Str, y ≠ "__name__" → mb y = bootBuiltins y)
    (hlim : s.heap.NoLimit) (hx : s.heap.get? x = some (excO C t0)) (hnx : K.lookup x = none) (hroom : A.depth < recursionLimit)
    (hq : ∀ h' tk dx t1, InitEnd s.heap h' x C dx t1 v → R (.ok (.ret .none)) { s with heap := h', toks := tk }) :
    codeAny (model prog w) A (.call (.ref fI) ⟨[.ref x, v], []⟩) R s := by
  obtain ⟨oc, od, doc, pm, an, ct, osl, cda, cc, qual, p1, p2, msg, q1, q2, q3, q4, q5, q6, q7, q8, q9, q10, cl, cld, csl, ccl, cdd, vs, ccs, file, tf, lk, hcd, hcell, hcode, hvs, hfile, hrd⟩ := T.fn
  obtain ⟨pl, hpl⟩ := hrd s.heap.objs.size
  obtain ⟨cn, q, N, bs, bm, sn, sub, ab, col, dd, k0, k1, k2, k3, k5, hC, hbm⟩ := T.cls
  have hcl : clsIn K C = some { name := cn, bases := bs, mro := .ref C :: bm, ns := N, qualname := q, hasDict := true, slotNames := sn, subclasses := sub, abstract := ab, collection := col, hasDel := false } := by unfold clsIn; rw [hC] <;> rfl
  refine ks_codeAny_call_defAt (fd := ksFn "__init__" qual (iA p1 p2) (iB msg q1 q2 q3 q4 q5 q6 q7 q8 q9 q10) iS .none .none doc pm an (.ref cda) ct cc) (body := iB msg q1 q2 q3 q4 q5 q6 q7 q8 q9 q10) (binds := [("self", .ref x), ("thing", v)]) hroom (X _ _ lk) rfl hlim (codeRec_of X hcd) rfl
    (BindsTo.of_eq (by first | rfl | with_unfolding_all rfl)) (show ∀ y ∈ iS.names, y.2 ≠ .cell by decide) (by intro y hy; rcases List.mem_cons.mp hy with rfl | hy <;> first | rfl | (rcases List.mem_cons.mp hy with rfl | hy <;> first | rfl | cases hy)) (fun h₁ hns k => ?_) rfl rfl rfl
  have X₁ : K.In h₁ := X.keeps k
  have hx₁ := k _ _ hx
  have hxL : s.heap.objs.size ≠ x := Nat.ne_of_gt (Heap.lt_size hx)
  have hxC : x ≠ C := fun z => by
    have y := X _ _ hC
    rw [← z, hx] at y
    cases y
  show PySem.wpAt (model prog w) _ _ (execs (iB msg q1 q2 q3 q4 q5 q6 q7 q8 q9 q10) (ksEnv qual iS s.heap.objs.size fI (.ref cda) cc)) _ _ _
  refine ks_wpAt_execs_cons (ks_wpAt_Expr_any (ks_wpAt_MethodCall (pl := pl) ?_ hpl))
  refine ks_wpAt_super_base (env := ksEnv qual iS s.heap.objs.size fI (.ref cda) cc) rfl rfl rfl rfl (X₁ _ _ lk) rfl rfl rfl (X₁ _ _ hcode) rfl hvs hfile T.top ?_
  refine ks_loadName_global rfl rfl (loadGlobal_builtin (env := ksEnv qual iS s.heap.objs.size fI (.ref cda) cc) (hg.keeps k) T.gS (hb.keeps k) ((hbv _ (by decide)).trans PyProof.Rows.Boot.«super») ⟨rfl, ?_⟩)
  refine wpAny_loadName_free (env := ksEnv qual iS s.heap.objs.size fI (.ref cda) cc) rfl rfl rfl ⟨_, X₁ _ _ hcell, rfl⟩ ?_
  refine wpAny_loadName_local (env := ksEnv qual iS s.heap.objs.size fI (.ref cda) cc) (v := .ref x) rfl rfl hns (by first | rfl | with_unfolding_all rfl | kernel_rfl) ?_
  refine ks_wpAny_isType_cls (X₁ _ _ hC) rfl ⟨rfl, ?_⟩
  refine ks_wpAny_call_super (X₁ _ _ hC) rfl hx₁ rfl (fun c e => nomatch e) (looks_mroIn X₁ T.own) (fun h₂ hso k₂ => ?_)
  have X₂ : K.In h₂ := X₁.keeps k₂
  have hx₂ := k₂ _ _ hx₁
  have I₂ : InstAt h₂ x (excO C t0) C none := ⟨hx₂, rfl, rfl, trivial⟩
  have hm := T.sup
  unfold ks_superIn at hm
  rw [hcl] at hm
  refine kxs_getMethod kxs_ValueError hso (looks_opaque X₂ T.op) (l₀ := .ref C :: bm) ((looks_clsIn X₂ hcl).andThen .now) rfl X₂ hm (I₂.type.andThen (looks_subIn X₂ T.sVE)) hxC rfl ?_
  have k₁₂ : ∀ b o, h₁.get? b = some o → (h₂.push (kxs_mw "ValueError.__init__" x)).get? b = some o := fun b o e => Heap.get?_push_of_some _ (k₂ b o e)
  have hu : (h₂.push (kxs_mw "ValueError.__init__" x)).get? h₂.objs.size = some (kxs_mw "ValueError.__init__" x) := Heap.get?_push_at rfl rfl
  have sz₂ : s.heap.objs.size ≤ (h₂.push (kxs_mw "ValueError.__init__" x)).objs.size := by
    have a : h₂.objs.size < (h₂.push (kxs_mw "ValueError.__init__" x)).objs.size := Heap.lt_size hu
    have b : h₁.objs.size < h₂.objs.size := Heap.lt_size hso
    have c : s.heap.objs.size < h₁.objs.size := hns.lt
    omega
  generalize h₂.push (kxs_mw "ValueError.__init__" x) = h₂' at k₁₂ hu sz₂ ⊢
  have X₂' : K.In h₂' := X₁.keeps k₁₂
  show wpAny _ _ (callWith q5 (.ref h₂.objs.size) [] (backTo q5 (starEach (.Constant (.str msg) 0 q4 :: []) (ksEnv qual iS s.heap.objs.size fI (.ref cda) cc))) []) _ _ _
  rw [show starEach (.Constant (.str msg) 0 q4 :: []) (ksEnv qual iS s.heap.objs.size fI (.ref cda) cc) = (false, eval (.Constant (.str msg) 0 q4) (ksEnv qual iS s.heap.objs.size fI (.ref cda) cc)) :: starEach [] (ksEnv qual iS s.heap.objs.size fI (.ref cda) cc) from rfl]
  refine kxs_callWith (i := "ValueError.__init__") (x := x) rfl (evalArgs_plain (Calls.spliced_cons (wpAny_Constant_str (env := ksEnv qual iS s.heap.objs.size fI (.ref cda) cc) (x := msg) (k := 0) (pos := q4) (Calls.spliced_nil ⟨hu, ?_⟩))))
  refine call_mw (X₂' _ _ hC) (k₁₂ _ _ hx₁) hu (one_size _) fun h₃ t1 k₃ hx₃ sz₃ => ?_
  have X₃ : K.In h₃ := kept_but X₂' hnx k₃
  have hns₃ : h₃.Ns s.heap.objs.size (fun y => List.lookup y [(PySem.Str.ofString "self", Value.ref x), (PySem.Str.ofString "thing", v)].reverse) := by
    obtain ⟨oL, es, ep, hL, r⟩ := hns
    exact ⟨oL, es, ep, k₃ _ _ hxL (k₁₂ _ _ hL), r⟩
  -- self.field = field
  show PySem.wpAt _ _ _ (execs [.Assign [.Attribute (.Name "self" q7) "thing" q8] (.Name "thing" q9) q10] (ksEnv qual iS s.heap.objs.size fI (.ref cda) cc)) _ _ _
  refine ks_wpAt_execs_cons (wpAt_of_wpAny (plainObj_wpAny_Assign_Attribute ?_))
  refine ldC (env := ksEnv qual iS s.heap.objs.size fI (.ref cda) cc) (v := v) hns₃ (by first | rfl | with_unfolding_all rfl | kernel_rfl) (ldC (env := ksEnv qual iS s.heap.objs.size fI (.ref cda) cc) (v := .ref x) hns₃ (by first | rfl | with_unfolding_all rfl | kernel_rfl) ?_)
  refine set_plain X₃ (ox := excO C t1) (od := none) ⟨hx₃, rfl, rfl, trivial⟩ T.sa ?_
  refine exc_osa X₃ hx₃ hcl (show refsVE (.ref C :: bm) = true from hbm) rfl T.noN (fun h₄ tk₄ dx k₄ dn dne hx₄ hn₄ => ?_)
  refine wpAt_of_wpAny (wpAny_execs_nil (hq h₄ tk₄ dx t1 ⟨fun b o hb e => k₄ b o hb (k₃ b o hb (k₁₂ b o (k b o e))), hx₄, Nat.le_trans sz₂ (Nat.le_trans sz₃ dn), dne, hn₄⟩))
theorem made (T : Txt prog K mg nm C fI) {v : Value} {mb : Str → Option Value} (X : K.In s.heap) (hg : s.heap.Ns mainGlobals mg) (hb : s.heap.Ns builtinsNs mb) (hbv : ∀ y : Str, y ≠ "__name__" → mb y = bootBuiltins y) (hlim : s.heap.NoLimit)
    (hroom : A.depth + 1 < recursionLimit) (hq : ∀ h' tk e d, OwnMade s.heap h' e C d v → R (.ok (.ret (.ref e))) { s with heap := h', toks := tk }) :
    codeAny (model prog w) A (.call (.ref C) ⟨[v], []⟩) R s := by
  obtain ⟨cn, q, N, bs, bm, sn, sub, ab, col, dd, k0, k1, k2, k3, k5, hC, hbm⟩ := T.cls
  obtain ⟨hp, g, dr, tk, os⟩ := s
  have k : ∀ b o, hp.get? b = some o → ((hp.push (kdv_tup [v])).push (excO C hp.objs.size)).get? b = some o := fun b o e => Heap.get?_push_of_some _ (Heap.get?_push_of_some _ e)
  have hget : ((hp.push (kdv_tup [v])).push (excO C hp.objs.size)).get? (hp.objs.size + 1) = some (excO C hp.objs.size) := by heap_get
  have hnx : K.lookup (hp.objs.size + 1) = none := by
    cases e : K.lookup (hp.objs.size + 1) with
    | none => rfl
    | some o =>
      have z : hp.get? (hp.objs.size + 1) = some o := X _ _ e
      exact absurd (Nat.lt_of_succ_lt (Heap.lt_size z)) (Nat.lt_irrefl _)
  refine call_own F.excBase_ValueError (fun X => refsVE_contains X bm hbm) (X _ _ hC) (looks_findIn X T.iC) (fun self => bind_fn X self T.tC) (one_size v) ?_
  refine init (s := ⟨(hp.push (kdv_tup [v])).push (excO C hp.objs.size), g, dr, tk, os⟩) T (X.keeps k) (hg.keeps k) (hb.keeps k) hbv (hlim.keeps k) hget hnx ?_ fun h' tk' dx t1 ⟨k', hx, dn, dne, hns⟩ => ?_
  · show A.depth + 1 < recursionLimit
    exact hroom
  · have old : ∀ b o, hp.get? b = some o → h'.get? b = some o := fun b o e => k' b o (Nat.ne_of_lt (Nat.lt_succ_of_lt (Heap.lt_size e))) (k b o e)
    have z : hp.objs.size + 1 + 1 ≤ dx := by
      first
        | (simpa only [Heap.size_push] using dn)
        | exact dn
        | (have q := dn; rw [Heap.size_push, Heap.size_push] at q; exact q)
    exact ⟨rfl, hq h' tk' (hp.objs.size + 1) dx ⟨old, Nat.le_succ _, ⟨_, _, hx, rfl, rfl, rfl, rfl⟩, Nat.le_trans (Nat.le_trans (Nat.le_succ _) (Nat.le_succ _)) z, dne, hns⟩⟩
end
end Exo_thing
end PySem
set_option Elab.async false
set_option linter.all false
set_option maxRecDepth 100000
set_option maxHeartbeats 4000000
namespace Gn
open PySem PySem.Spec PyProof.Rows L2 Com Sd StV
/-- the numbers of one pair -/
theorem Good.side_of {ds es : List Int} (g : Good ds) (h : Good es) {pr : PP} (hi : InP ds.length es.length pr) : 1 ≤ ds.getD pr.1.toNat 0 ∧ 1 ≤ es.getD pr.2.toNat 0 ∧ 0 ≤ es.sum - es.getD pr.2.toNat 0 ∧ 0 ≤ ds.sum - ds.getD pr.1.toNat 0 := by
  obtain ⟨h1, h2, h3, h4⟩ := hi
  have a := sum_ge (fun d hd => (g.2.2 d hd).1) (n := pr.1.toNat) (by omega)
  have b := sum_ge (fun d hd => (h.2.2 d hd).1) (n := pr.2.toNat) (by omega)
  omega
theorem bz_nn {ds es : List Int} (g : Good ds) (h : Good es) {pr : PP} (hi : InP ds.length es.length pr) : 0 ≤ bz ds es pr := by
  obtain ⟨a, b, c, d⟩ := Good.side_of g h hi
  exact bzI_nn a b c d
theorem dV (a b : Int) : decide (V.int a = V.int b) = decide (a = b) := by
  refine decide_eq_decide.mpr ⟨fun h => ?_, fun h => by rw [h]⟩
  injection h
end Gn
namespace Gn
open PySem PySem.Spec PyProof.Rows L2
end Gn
set_option Elab.async false
set_option linter.all false
set_option maxRecDepth 100000
set_option maxHeartbeats 4000000
namespace RT
open PySem PySem.Spec PyProof.Rows
end RT
namespace Com
open PySem PySem.Spec PyProof.Rows L2 RT
end Com
set_option Elab.async false
set_option linter.all false
set_option maxRecDepth 100000
set_option maxHeartbeats 4000000
namespace Nd
open PySem PySem.Spec PyProof.Rows L2 Com
abbrev NX := NestedKey × Addr × V
abbrev NY := NestedKey × Addr × Value
def EN (w : World) (x : NY) : DictEntry := ⟨x.1.hash w, .ref x.2.1, x.2.2⟩
abbrev NXY : List NX → List NY → Prop := Paired fun p q => p.1 = q.1 ∧ p.2.1 = q.2.1 ∧ RelV p.2.2 q.2.2
def RawN (w : World) (h : Heap) (a : Addr) (xs : List NX) : Prop :=
  ((a == sysModules) = false ∧ ∀ x ∈ xs, x.1.depth ≤ 8) ∧ xs.length ≤ sizeLine ∧ ∃ us : List NY, NXY xs us ∧ (∃ o es ep, h.get? a = some o ∧ o.ExactDict ∧ o.data = .dict es ep ∧ es.toList = us.map (EN w)) ∧ (us.map (·.1)).Nodup
def DN (w : World) (a : Addr) (xs : List NX) : HO := .ext fun h => RawN w h a xs
mutual
inductive NIs (H : Hp) : NestedKey → V → Prop
  | none : NIs H .none .non
  | num (i : Int) : NIs H (.num i) (.int i)
  | text (x : Str) : NIs H (.text x) (.str x)
  | tup {a : Addr} {ks : List NestedKey} {vs : List V} : H a = some (.tup vs) → NIsA H ks vs → NIs H (.tup ks) (.ref a)
inductive NIsA (H : Hp) : List NestedKey → List V → Prop
  | nil : NIsA H [] []
  | cons {k : NestedKey} {v : V} {ks : List NestedKey} {vs : List V} : NIs H k v → NIsA H ks vs → NIsA H (k :: ks) (v :: vs)
end
section
variable {X : Cx} {pins : List (Addr × Obj)} {σ : L2.St} {H : Hp} {s : Shared}
mutual
theorem NIs.at (I : Inv X pins σ H s) : ∀ {k : NestedKey} {v : V} {u : Value}, NIs H k v → RelV v u → NestedIs s.heap k u
  | _, _, _, .none, r => by cases (show _ = Value.none from r); exact .none
  | _, _, _, .num i, r => by obtain ⟨t, rfl⟩ := r; exact .int i t
  | _, _, _, .text x, r => by obtain ⟨t, rfl⟩ := r; exact .text x t
  | _, _, _, .tup h t, r => by
    cases (show _ = Value.ref _ from r)
    obtain ⟨its, q, ⟨o, e, c, n, d⟩, _⟩ := I.tuple (.inl (.inl h))
    exact .tup e c d (NIsA.at I t q)
theorem NIsA.at (I : Inv X pins σ H s) : ∀ {ks : List NestedKey} {vs : List V} {us : List Value}, NIsA H ks vs → Vals vs us → NestedAll s.heap ks us
  | _, _, _, .nil, r => by cases r; exact .nil
  | _, _, _, .cons h t, r => by cases r with | cons a b => exact .cons (NIs.at I h a) (NIsA.at I t b)
end
def KOk (H : Hp) (k : NestedKey) (a : Addr) : Prop := NIs H k (.ref a) ∧ k.depth ≤ 8
theorem KOk.is (I : Inv X pins σ H s) {k : NestedKey} {a : Addr} (h : KOk H k a) : (nestedKind X.prog X.w).is s.heap k a := ⟨NIs.at I h.1 rfl, h.2⟩
/-- the keys stand -/
def AllK (H : Hp) (xs : List NX) : Prop := ∀ x ∈ xs, NIs H x.1 (.ref x.2.1)
def lkN (xs : List NX) (k : NestedKey) : Option V := (xs.find? fun x => decide (x.1 = k)).map (·.2.2)
def putN (xs : List NX) (k : NestedKey) (a : Addr) (v : V) : List NX := if (lkN xs k).isSome then xs.map (fun x => if x.1 = k then (x.1, x.2.1, v) else x) else xs ++ [(k, a, v)]
theorem putN_len (xs : List NX) (k : NestedKey) (a : Addr) (v : V) : (putN xs k a v).length ≤ xs.length + 1 := by
  unfold putN
  split
  · rw [List.length_map]; omega
  · rw [List.length_append]; exact Nat.le_refl _
theorem putN_all {xs : List NX} {k : NestedKey} {a : Addr} {v : V} (h : ∀ x ∈ xs, x.1.depth ≤ 8) (hk : k.depth ≤ 8) : ∀ x ∈ putN xs k a v, x.1.depth ≤ 8 := fun x hx => by
  unfold putN at hx
  split at hx
  · obtain ⟨y, hy, rfl⟩ := List.mem_map.mp hx
    split
    · exact h y hy
    · exact h y hy
  · rcases List.mem_append.mp hx with hx | hx
    · exact h x hx
    · rw [List.mem_singleton.mp hx]; exact hk
theorem lk_rel {k : NestedKey} : ∀ {xs : List NX} {us : List NY}, NXY xs us → RelO (lkN xs k) ((atKey us k).map (·.2))
  | _, _, .nil => trivial
  | x :: xs, u :: us, .cons h t => by
    unfold lkN atKey
    rw [List.find?_cons, List.find?_cons, h.1]
    by_cases c : u.1 = k
    · rw [decide_eq_true c]; exact h.2.2
    · rw [decide_eq_false c]
      exact lk_rel t
theorem put_rel {k : NestedKey} {a : Addr} {v : V} {u : Value} (r : RelV v u) {xs : List NX} {us : List NY} (h : NXY xs us) : NXY (putN xs k a v) (storedH us k a u) := by
  have e : (lkN xs k).isSome = (atKey us k).isSome := by
    have := lk_rel (k := k) h
    cases e1 : lkN xs k <;> cases e2 : atKey us k <;> rw [e1, e2] at this <;> first | rfl | exact this.elim
  unfold putN storedH
  rw [e]
  cases (atKey us k).isSome with
  | true =>
    rw [if_pos rfl, if_pos rfl]
    clear e
    induction h with
    | nil => exact .nil
    | @cons p q ps qs h t ih =>
      refine .cons ?_ ih
      unfold putAt
      dsimp only
      by_cases c : p.1 = k
      · rw [if_pos c, if_pos (by rw [← h.1]; exact c)]; exact ⟨h.1, h.2.1, r⟩
      · rw [if_neg c, if_neg (by rw [← h.1]; exact c)]; exact h
  | false =>
    rw [if_neg (by decide), if_neg (by decide)]
    clear e
    induction h with
    | nil => exact .cons ⟨rfl, rfl, r⟩ .nil
    | cons h t ih => exact .cons h ih
theorem dn_get {a : Addr} {xs : List NX} (I : Inv X pins σ H s) (ha : H a = some (DN X.w a xs)) (hk : AllK H xs) : (a == sysModules) = false ∧ (∀ x ∈ xs, x.1.depth ≤ 8) ∧ xs.length ≤ sizeLine ∧ ∃ us, NXY xs us ∧ s.heap.DictOfH (nestedKind X.prog X.w) a us := by
  obtain ⟨⟨h1, h3⟩, h2, us, r, ⟨o, es, ep, e1, e2, e3, e4⟩, nd⟩ := (I.hok a _ ha).1
  refine ⟨h1, h3, h2, us, r, o, es, ep, e1, e2, e3, e4, fun x hx => ?_, nd⟩
  obtain ⟨i, hi⟩ := List.mem_iff_getElem?.mp hx
  have : ∃ p, xs[i]? = some p ∧ p.1 = x.1 ∧ p.2.1 = x.2.1 := by
    clear e4 nd hx
    induction r generalizing i with
    | nil => simp at hi
    | @cons p q ps qs h t ih =>
      cases i with
      | zero =>
        rw [List.getElem?_cons_zero] at hi
        cases hi
        exact ⟨p, rfl, h.1, h.2.1⟩
      | succ i =>
        rw [List.getElem?_cons_succ] at hi ⊢
        have hl : ps.length ≤ sizeLine := by rw [List.length_cons] at h2; omega
        cases hg : ps[i]? with
        | none =>
          have l1 := Paired.length t
          have := List.getElem?_eq_none_iff.mp hg
          have := (List.getElem?_eq_some_iff.mp hi).1
          omega
        | some p' =>
          have : ∀ {ps : List NX} {qs : List NY} {i : Nat} {p' : NX} {x : NY}, NXY ps qs → ps[i]? = some p' → qs[i]? = some x → p'.1 = x.1 ∧ p'.2.1 = x.2.1 := by
            intro ps qs i p' x t
            induction t generalizing i with
            | nil => intro h; simp at h
            | cons h t ih =>
              cases i with
              | zero => intro h1 h2; cases h1; cases h2; exact ⟨h.1, h.2.1⟩
              | succ i => intro h1 h2; exact ih (by simpa using h1) (by simpa using h2)
          obtain ⟨a1, a2⟩ := this t hg hi
          exact ⟨p', rfl, a1, a2⟩
  obtain ⟨p, hp, e5, e6⟩ := this
  rw [← e5, ← e6]
  exact KOk.is I ⟨hk p (List.mem_of_getElem? hp), h3 p (List.mem_of_getElem? hp)⟩
theorem dn_ok {P : Program} {H' : Hp} {h' : Heap} {a : Addr} {xs : List NX} {us : List NY} (h1 : (a == sysModules) = false) (h3 : ∀ x ∈ xs, x.1.depth ≤ 8) (h2 : xs.length ≤ sizeLine) (r : NXY xs us) (d : h'.DictOfH (nestedKind P X.w) a us) : ObjOk P X.w H' h' a (DN X.w a xs) := by
  obtain ⟨o, es, ep, e1, e2, e3, e4, _, nd⟩ := d
  exact ⟨⟨⟨h1, h3⟩, h2, us, r, ⟨o, es, ep, e1, e2, e3, e4⟩, nd⟩, ⟨o, e1⟩, fun g1 g2 ⟨z1, z2, us, r, ⟨o, es, ep, q1, q⟩, nd⟩ k => ⟨z1, z2, us, r, ⟨o, es, ep, k _ q1, q⟩, nd⟩⟩
abbrev room (X : Cx) : Prop := X.A.units + 9 < cLine
theorem room_in (hu : room X) : (nestedKind X.prog X.w).room X.A.in1 := by
  show X.A.units + 1 + 8 < cLine
  exact hu
def rNIn (w : World) (neg : Bool) : R2 := fun x y H Q => ∃ a b xs k, x = .ref b ∧ y = .ref a ∧ H a = some (DN w a xs) ∧ AllK H xs ∧ KOk H k b ∧ Q (.bl (if neg then !(lkN xs k).isSome else (lkN xs k).isSome)) H
theorem op_nnotin (hu : room X) : OpR X (compareOp .NotIn) (rNIn X.w true) := by
  intro pins s σ H x y v u Q I rx ry h
  obtain ⟨a, b, xs, k, rfl, rfl, ha, hk, hb, q⟩ := h
  cases rx
  cases ry
  obtain ⟨h1, h3, h2, us, r, d⟩ := dn_get I ha hk
  refine wpAny_notIn_heap (room_in hu) (hb.is I) h1 d ?_
  have e := (lk_rel (k := k) r).isSome_eq
  rw [Option.isSome_map] at e
  rw [← e]
  exact ⟨.bl (!(lkN xs k).isSome), H, I.tok _, rfl, q⟩
def rNIx (w : World) : R2 := fun x y H Q => ∃ a b xs k v, x = .ref a ∧ y = .ref b ∧ H a = some (DN w a xs) ∧ AllK H xs ∧ NIs H k (.ref b) ∧ lkN xs k = some v ∧ Q v H
theorem get_n (hu : room X) : PGet X (rNIx X.w) := by
  intro pins s σ H x y v u Q I rx ry h
  obtain ⟨a, b, xs, k, z, rfl, rfl, ha, hk, hb, hv, q⟩ := h
  cases rx
  cases ry
  obtain ⟨h1, h3, h2, us, r, d⟩ := dn_get I ha hk
  obtain ⟨w', hw, rw'⟩ := RelO.some_of (v := z) (o := (atKey us k).map (·.2)) (by rw [← hv]; exact lk_rel r)
  obtain ⟨p, hp, hp2⟩ := Option.map_eq_some_iff.mp hw
  have hd8 : k.depth ≤ 8 := by
    unfold lkN at hv
    cases hf : xs.find? fun x => decide (x.1 = k) with
    | none => rw [hf] at hv; cases hv
    | some x =>
      have e1 := List.find?_some hf
      have e2 := h3 x (List.mem_of_find?_eq_some hf)
      rw [of_decide_eq_true e1] at e2
      exact e2
  refine wpAny_getItem_heap (room_in hu) (KOk.is I ⟨hb, hd8⟩) d hp ?_
  rw [hp2]
  exact ⟨z, H, I.tok _, rw', q⟩
theorem ix_n (hu : room X) : IxR X (rNIx X.w) := by
  intro value slice pins s σ H x y v u Q I rx ry h hs
  obtain ⟨a, b, xs, k, z, rfl, rfl, ha, hk, hb, hv, q⟩ := h
  obtain ⟨h1, h3, h2, us, r, d⟩ := dn_get I ha hk
  cases rx
  exact tail_any d.typeIs PySem.F.slot_dict_getitem.lookup (get_n hu pins s σ H (.ref a) (.ref b) (.ref a) u Q I rfl ry ⟨a, b, xs, k, z, rfl, rfl, ha, hk, hb, hv, q⟩) hs
/-- d[y], the keys ints or texts -/
def rKIx : R2 := fun x y H Q => ∃ a kvs k v, x = .ref a ∧ y = kV k ∧ H a = some (.dK kvs) ∧ valV kvs k = some v ∧ Q v H
theorem ix_k (hu : X.A.units + 1 < cLine) : IxR X rKIx := by
  intro value slice pins s σ H x y v u Q I rx ry h hs
  obtain ⟨a, kvs, k, z, rfl, rfl, ha, hv, q⟩ := h
  cases rx
  have g : DGet H a (kV k) (some z) := hv ▸ DGet.k ha
  exact tail_any (dict_typeIs I g) PySem.F.slot_dict_getitem.lookup (d_getItem hu I g ry fun w' s' I' r' => ⟨z, H, I', r', q⟩) hs
def rNSet (w : World) : V → V → V → Hp → (Hp → Prop) → Prop := fun o i v H Q => ∃ a b xs k, o = .ref a ∧ i = .ref b ∧ H a = some (DN w a xs) ∧ AllK H xs ∧ KOk H k b ∧ xs.length < sizeLine ∧ Q (upd H a (DN w a (putN xs k b v)))
theorem set_n (hu : room X) : PSet X (rNSet X.w) := by
  intro pins s σ H o i v ov iv u Q I ro ri rv h
  obtain ⟨a, b, xs, k, rfl, rfl, ha, hk, hb, hl, q⟩ := h
  cases ro
  cases ri
  obtain ⟨h1, h3, h2, us, r, d⟩ := dn_get I ha hk
  refine wpAny_setItem_heap (hsz := by rw [← Paired.length r]; exact h2) (room_in hu) (hb.is I) d fun h' d' hs => ?_
  have he : ∃ q, h'.get? a = some q := let ⟨q, _, _, hq, _⟩ := d'; ⟨q, hq⟩
  exact ⟨_, d_write I (by rw [ha]; exact True.intro) hs he (dn_ok h1 (putN_all h3 hb.2) (by have := putN_len xs k b v; omega) (put_rel rv r) d'), q⟩
/-- len(d) -/
def rLenN (w : World) : List V → Hp → VK → Prop := fun vs H Q => ∃ a xs, vs = [.ref a] ∧ H a = some (DN w a xs) ∧ AllK H xs ∧ Q (.int (xs.length : Nat)) H
theorem call_lenN : CallR X (.builtin "len") (rLenN X.w) := by
  intro pins s σ H vs us Q I r h
  obtain ⟨a, xs, rfl, ha, hk, q⟩ := h
  obtain ⟨u, rfl, ru⟩ := vals1 r
  cases ru
  obtain ⟨h1, h3, h2, us, r, d⟩ := dn_get I ha hk
  have hm : s.heap.DictKeyed (nestedKind X.prog X.w) a (pairsH us) := ⟨us, d, rfl⟩
  have hl : (pairsH us).length = xs.length := by rw [pairsH_length, Paired.length r]
  refine PyProof.Rows.call_len_slot (n := (pairsH us).length) hm.typeIs F.slot_dict_len (fun Q' hq => len_keyed h1 hm hq) (by omega) (by rw [sizeLine_eq] at h2; omega) ?_
  exact ⟨.int (xs.length : Nat), H, I.tok _, ⟨_, by rw [hl]⟩, q⟩
def rKIn (neg : Bool) : R2 := fun x y H Q => ∃ a kvs k, y = .ref a ∧ x = kV k ∧ H a = some (.dK kvs) ∧ Q (.bl (if neg then !(valV kvs k).isSome else (valV kvs k).isSome)) H
theorem op_knotin (hu : X.A.units + 1 < cLine) : OpR X (compareOp .NotIn) (rKIn true) := by
  intro pins s σ H x y v u Q I rx ry h
  obtain ⟨a, kvs, k, rfl, rfl, ha, q⟩ := h
  cases ry
  exact d_notIn hu I (DGet.k (k := k) ha) rx fun s' I' => ⟨.bl _, H, I', rfl, q⟩
end
end Nd
set_option Elab.async false
set_option linter.all false
set_option maxRecDepth 100000
set_option maxHeartbeats 4000000
namespace Dt
open PySem PySem.Spec PyProof.Rows L2 Com Nd
inductive D where
  | non | bl (b : Bool) | int (i : Int) | str (s : Str) | tup (ds : List D) | lst (ds : List D) | obj (C : Addr) (ks : List Str) (ds : List D) | flow (a : Addr) | scr (K : PySem.W.Frag) (ns : List Int) | dict0
  /-- a dict: its keys, its values -/
  | dct (w : World) (nk : Bool) (ks : List NestedKey) (ds : List D)
  /-- the very object v, whose data are d -/
  | vry (v : V) (d : D)
mutual
/-- a key as data -/
def dOf : NestedKey → D
  | .none => .non
  | .num i => .int i
  | .text x => .str x
  | .tup ks => .tup (dOfA ks)
def dOfA : List NestedKey → List D
  | [] => []
  | k :: ks => dOf k :: dOfA ks
end
def nkK : Key → NestedKey
  | .inl i => .num i
  | .inr x => .text x
/-- the tables of code objects that the law's text is told with -/
class Tb where
  T : List (Addr × Str)
instance (priority := low) noTb : Tb := ⟨[]⟩
variable [Tb]
/-- what stays as it is; what draws change -/
structure Wd where
  F : Hp
  G : Addr → Prop
  /-- tables of code objects, with the name that they tell -/
  T : List (Addr × Str)
mutual
inductive Vd (W : Wd) : V → D → Prop
  | non : Vd W .non .non
  | bl (b : Bool) : Vd W (.bl b) (.bl b)
  | int (i : Int) : Vd W (.int i) (.int i)
  | str (s : Str) : Vd W (.str s) (.str s)
  | tup {a : Addr} {vs : List V} {ds : List D} : W.F a = some (.tup vs) → VdA W vs ds → Vd W (.ref a) (.tup ds)
  | lst {a : Addr} {vs : List V} {ds : List D} : W.F a = some (.lst vs) → VdA W vs ds → Vd W (.ref a) (.lst ds)
  | obj {a C dx : Addr} {ks : List Str} {vs : List V} {ds : List D} : W.F a = some (.ins C dx (ks.zip vs)) → ks.length = vs.length → VdA W vs ds → Vd W (.ref a) (.obj C ks ds)
  | flow {a : Addr} : W.G a → (∀ q, (a, q) ∉ W.T) → Vd W (.ref a) (.flow a)
  | scr {a : Addr} {K : PySem.W.Frag} {ns : List Int} : (∀ H : Hp, (∀ b o, W.F b = some o → H b = some o) → SqL K H a (ns.map V.int)) → Vd W (.ref a) (.scr K ns)
  | dict0 {a : Addr} : W.F a = some (.dK []) → Vd W (.ref a) .dict0
  | dctN {a : Addr} {w : World} {xs : List NX} {ks : List NestedKey} {ds : List D} : W.F a = some (DN w a xs) → xs.map (·.1) = ks → VdA W (xs.map fun x => .ref x.2.1) (dOfA ks) → VdA W (xs.map (·.2.2)) ds → Vd W (.ref a) (.dct w true ks ds)
  | dctK {a : Addr} {w : World} {xs : List (Key × V)} {ks : List NestedKey} {ds : List D} : W.F a = some (.dK xs) → xs.map (fun x => nkK x.1) = ks → VdA W (xs.map (·.2)) ds → Vd W (.ref a) (.dct w false ks ds)
  | vry {v : V} {d : D} : Vd W v d → Vd W v (.vry v d)
inductive VdA (W : Wd) : List V → List D → Prop
  | nil : VdA W [] []
  | cons {v : V} {vs : List V} {d : D} {ds : List D} : Vd W v d → VdA W vs ds → VdA W (v :: vs) (d :: ds)
end
/-- the world grows -/
structure Le (W W' : Wd) : Prop where
  f : ∀ b o, W.F b = some o → W'.F b = some o
  g : ∀ a, W.G a → W'.G a
  t : W'.T = W.T
theorem Le.refl (W : Wd) : Le W W := ⟨fun _ _ h => h, fun _ h => h, rfl⟩
theorem Le.trans {W W1 W2 : Wd} (a : Le W W1) (b : Le W1 W2) : Le W W2 := ⟨fun x o h => b.f x o (a.f x o h), fun x h => b.g x (a.g x h), b.t.trans a.t⟩
mutual
theorem Vd.mono {W W' : Wd} (l : Le W W') : ∀ {v : V} {d : D}, Vd W v d → Vd W' v d
  | _, _, .non => .non
  | _, _, .bl b => .bl b
  | _, _, .int i => .int i
  | _, _, .str s => .str s
  | _, _, .tup h t => .tup (l.f _ _ h) (VdA.mono l t)
  | _, _, .lst h t => .lst (l.f _ _ h) (VdA.mono l t)
  | _, _, .obj h e t => .obj (l.f _ _ h) e (VdA.mono l t)
  | _, _, .flow h n => .flow (l.g _ h) (by rw [l.t]; exact n)
  | _, _, .scr h => .scr fun H e => h H fun b o e1 => e b o (l.f b o e1)
  | _, _, .dict0 h => .dict0 (l.f _ _ h)
  | _, _, .dctN h e t1 t2 => .dctN (l.f _ _ h) e (VdA.mono l t1) (VdA.mono l t2)
  | _, _, .dctK h e t => .dctK (l.f _ _ h) e (VdA.mono l t)
  | _, _, .vry h => .vry (Vd.mono l h)
theorem VdA.mono {W W' : Wd} (l : Le W W') : ∀ {vs : List V} {ds : List D}, VdA W vs ds → VdA W' vs ds
  | _, _, .nil => .nil
  | _, _, .cons h t => .cons (Vd.mono l h) (VdA.mono l t)
end
section
variable {W W1 W2 : Wd} {v : V} {vs us : List V} {d : D} {ds es : List D}
theorem VdA.length : ∀ {vs : List V} {ds : List D}, VdA W vs ds → vs.length = ds.length
  | _, _, .nil => rfl
  | _, _, .cons _ t => by rw [List.length_cons, List.length_cons, VdA.length t]
theorem VdA.append : ∀ {vs : List V} {ds : List D}, VdA W vs ds → VdA W us es → VdA W (vs ++ us) (ds ++ es)
  | _, _, .nil, h => h
  | _, _, .cons h t, g => .cons h (VdA.append t g)
theorem VdA.one (h : Vd W v d) : VdA W [v] [d] := .cons h .nil
theorem VdA.get : ∀ {vs : List V} {ds : List D} {i : Nat} {v : V}, VdA W vs ds → vs[i]? = some v → ∃ d, ds[i]? = some d ∧ Vd W v d
  | _, _, 0, _, .cons h t, e => by
    rw [List.getElem?_cons_zero] at e
    cases e
    exact ⟨_, rfl, h⟩
  | _, _, n + 1, _, .cons h t, e => by
    rw [List.getElem?_cons_succ] at e
    rw [List.getElem?_cons_succ]
    exact VdA.get t e
theorem VdA.get' : ∀ {vs : List V} {ds : List D} {i : Nat} {d : D}, VdA W vs ds → ds[i]? = some d → ∃ v, vs[i]? = some v ∧ Vd W v d
  | _, _, 0, _, .cons h t, e => by
    rw [List.getElem?_cons_zero] at e
    cases e
    exact ⟨_, rfl, h⟩
  | _, _, n + 1, _, .cons h t, e => by
    rw [List.getElem?_cons_succ] at e
    rw [List.getElem?_cons_succ]
    exact VdA.get' t e
theorem VdA.take : ∀ {vs : List V} {ds : List D} (n : Nat), VdA W vs ds → VdA W (vs.take n) (ds.take n)
  | _, _, 0, _ => by rw [List.take_zero, List.take_zero]; exact .nil
  | _, _, _ + 1, .nil => .nil
  | _, _, n + 1, .cons h t => .cons h (VdA.take n t)
theorem VdA.drop : ∀ {vs : List V} {ds : List D} (n : Nat), VdA W vs ds → VdA W (vs.drop n) (ds.drop n)
  | _, _, 0, h => h
  | _, _, _ + 1, .nil => .nil
  | _, _, n + 1, .cons h t => VdA.drop n t
theorem VdA.set : ∀ {vs : List V} {ds : List D} (n : Nat), Vd W v d → VdA W vs ds → VdA W (vs.set n v) (ds.set n d)
  | _, _, _, _, .nil => .nil
  | _, _, 0, h, .cons _ t => .cons h t
  | _, _, n + 1, h, .cons g t => .cons g (VdA.set n h t)
theorem VdA.of_ints : ∀ {vs : List V} {ns : List Int}, VdA W vs (ns.map D.int) → vs = ns.map V.int
  | _, [], h => by
    cases h
    rfl
  | _, n :: ns, h => by
    cases h with
    | cons h t =>
      cases h
      rw [VdA.of_ints t]
      rfl
theorem VdA.of_bls : ∀ {vs : List V} {ns : List Bool}, VdA W vs (ns.map D.bl) → vs = ns.map V.bl
  | _, [], h => by
    cases h
    rfl
  | _, n :: ns, h => by
    cases h with
    | cons h t =>
      cases h
      rw [VdA.of_bls t]
      rfl
end
/-- what never changes: tuples, code objects -/
def Still (a : Addr) (o : HO) : Prop := (∃ xs, o = .tup xs) ∨ ∃ q, o = LamX.CodeO a q
theorem big : ∀ n : Nat, ∃ h : Heap, h.objs.size = n
  | 0 => ⟨{}, rfl⟩
  | n + 1 => by
    obtain ⟨h, e⟩ := big n
    exact ⟨h.push { cls := .none, data := .fields #[] }, by rw [← e]; simp [Heap.push]⟩
theorem still_lst {a : Addr} {vs : List V} : ¬ Still a (.lst vs) := by
  rintro (⟨xs, z⟩ | ⟨q, z⟩)
  · cases z
  · unfold LamX.CodeO at z; cases z
theorem still_ins {a C dx : Addr} {fs : List (Str × V)} : ¬ Still a (.ins C dx fs) := by
  rintro (⟨xs, z⟩ | ⟨q, z⟩)
  · cases z
  · unfold LamX.CodeO at z; cases z
theorem still_dK {a : Addr} {xs : List (Key × V)} : ¬ Still a (.dK xs) := by
  rintro (⟨xs, z⟩ | ⟨q, z⟩)
  · cases z
  · unfold LamX.CodeO at z; cases z
theorem still_tbl {a : Addr} {ps : Array Value} : ¬ Still a (.tbl ps) := by
  rintro (⟨xs, z⟩ | ⟨q, z⟩)
  · cases z
  · unfold LamX.CodeO at z; cases z
theorem still_dn {a : Addr} {w : World} {xs : List NX} : ¬ Still a (DN w a xs) := by
  rintro (⟨ys, z⟩ | ⟨q, z⟩)
  · unfold DN at z; cases z
  · unfold DN LamX.CodeO at z
    injection z with z
    obtain ⟨h, e⟩ := big a
    subst e
    have g : (h.push { cls := .none, data := .fields #[.none, .str q 0] }).get? h.objs.size = some { cls := .none, data := .fields #[.none, .str q 0] } := Heap.get?_push_size _ rfl
    have z := congrFun z (h.push { cls := .none, data := .fields #[.none, .str q 0] })
    have y : RawN w (h.push { cls := .none, data := .fields #[.none, .str q 0] }) h.objs.size xs := by
      rw [z]
      exact ⟨_, _, 0, g, rfl, rfl⟩
    obtain ⟨_, _, us, _, ⟨o, es, ep, e1, _, e2, _⟩, _⟩ := y
    rw [g] at e1
    cases e1
    cases e2
/-- a table of code objects: each that it tells stands still -/
def TabW (F H : Hp) (P : Addr) (q : Str) : Prop := ∃ ps : Array Value, H P = some (.tbl ps) ∧ TriplesOk ps.toList ∧ ∀ (pos : Pos) (cv : Value), codeAmong pos ps.toList = some cv → ∃ c, cv = .ref c ∧ F c = some (LamX.CodeO c q)
/-- what changes: the list of a draw, a table -/
def MutAt (W : Wd) (H : Hp) (a : Addr) : Prop := (FlowAt H a ∧ ∀ q, (a, q) ∉ W.T) ∨ ∃ q, (a, q) ∈ W.T ∧ TabW W.F H a q
theorem MutAt.ex {W : Wd} {H : Hp} {a : Addr} (m : MutAt W H a) : ∃ o, H a = some o ∧ ¬ Still a o := by
  rcases m with ⟨⟨n, c, r, e⟩, _⟩ | ⟨q, _, ps, e, _⟩
  · exact ⟨_, e, still_lst⟩
  · exact ⟨_, e, still_tbl⟩
theorem MutAt.no {W : Wd} {H : Hp} {a : Addr} (m : MutAt W H a) (h : H a = none) : False := by
  obtain ⟨o, e, _⟩ := m.ex
  rw [h] at e
  cases e
theorem MutAt.st {W : Wd} {H : Hp} {a : Addr} {u : HO} (m : MutAt W H a) (h : H a = some u) (s : Still a u) : False := by
  obtain ⟨o, e, n⟩ := m.ex
  rw [h] at e
  cases e
  exact n s
theorem MutAt.mono {W W' : Wd} {H H' : Hp} {a : Addr} (m : MutAt W H a) (l : ∀ b o, W.F b = some o → W'.F b = some o) (t : W'.T = W.T) (e : ∀ o, H a = some o → H' a = some o) : MutAt W' H' a := by
  rcases m with ⟨⟨n, c, r, e1⟩, h⟩ | ⟨q, h, ps, e1, h2, h3⟩
  · exact .inl ⟨⟨n, c, r, e _ e1⟩, by rw [t]; exact h⟩
  · refine .inr ⟨q, by rw [t]; exact h, ps, e _ e1, h2, fun pos cv z => ?_⟩
    obtain ⟨c, e2, e3⟩ := h3 pos cv z
    exact ⟨c, e2, l _ _ e3⟩
theorem MutAt.flow {W : Wd} {H : Hp} {a : Addr} (m : MutAt W H a) (n : ∀ q, (a, q) ∉ W.T) : FlowAt H a := by
  rcases m with ⟨f, _⟩ | ⟨q, h, _⟩
  · exact f
  · exact absurd h (n q)
structure Ok (W : Wd) (H : Hp) : Prop where
  f : ∀ b o, W.F b = some o → H b = some o
  g : ∀ a, W.G a → W.F a = none ∧ MutAt W H a
  t : W.T = Tb.T ∧ ∀ p ∈ W.T, W.G p.1
structure Go (W : Wd) (H : Hp) (W' : Wd) (H' : Hp) : Prop where
  le : Le W W'
  gn : ∀ a, W'.G a → W.G a ∨ H a = none
  fn : ∀ a o, W'.F a = some o → W.F a = some o ∨ H a = none ∨ ∃ u, H a = some u ∧ Still a u
  p : ∀ b o, H b = some o → ¬ W.G b → H' b = some o
  ok : Ok W' H'
section
variable {W W1 W2 W' : Wd} {H H1 H2 H' : Hp} {a : Addr} {o : HO}
theorem Go.refl (k : Ok W H) : Go W H W H := ⟨.refl W, fun _ h => .inl h, fun _ _ h => .inl h, fun _ _ h _ => h, k⟩
theorem Go.gone (k : Ok W H) (g : Go W H W' H') (h : H' a = none) : H a = none := by
  cases e : H a with
  | none => rfl
  | some o =>
    by_cases hg : W.G a
    · exact ((g.ok.g a (g.le.g a hg)).2.no h).elim
    · rw [g.p a o e hg] at h
      cases h
theorem Go.trans (k : Ok W H) (g : Go W H W1 H1) (g2 : Go W1 H1 W2 H2) : Go W H W2 H2 where
  le := g.le.trans g2.le
  gn := fun a h => (g2.gn a h).elim (g.gn a) fun e => .inr (g.gone k e)
  fn := fun a o h => by
    rcases g2.fn a o h with h | h | ⟨u2, h, hs⟩
    · exact g.fn a o h
    · exact .inr (.inl (g.gone k h))
    · cases e : H a with
      | none => exact .inr (.inl rfl)
      | some u =>
        by_cases hg : W.G a
        · exact ((g.ok.g a (g.le.g a hg)).2.st h hs).elim
        · have := g.p a u e hg
          rw [h] at this
          cases this
          exact .inr (.inr ⟨_, rfl, hs⟩)
  p := fun b o e n => g2.p b o (g.p b o e n) fun h => by
    rcases g.gn b h with h | h
    · exact n h
    · rw [e] at h
      cases h
  ok := g2.ok
theorem Ok.fg (k : Ok W H) (h : W.F a = some o) : ¬ W.G a := fun g => by rw [(k.g a g).1] at h; cases h
/-- a new frozen object -/
def Wd.put (W : Wd) (a : Addr) (o : HO) : Wd := ⟨upd W.F a o, W.G, W.T⟩
theorem Ok.no (k : Ok W H) (h : H a = none) : W.F a = none ∧ ¬ W.G a := by
  refine ⟨?_, fun g => ?_⟩
  · cases e : W.F a with
    | none => rfl
    | some o =>
      rw [k.f a o e] at h
      cases h
  · exact (k.g a g).2.no h
theorem Go.putS (k : Ok W H) (sm : Same H H') (e : H' a = some o) (c : H a = none ∨ ∃ xs, o = .tup xs) : Go W H (W.put a o) H' := by
  have ng : ¬ W.G a := fun g => by
    rcases c with c | ⟨xs, c⟩
    · exact (k.g a g).2.no c
    · obtain ⟨u, e1, n⟩ := (k.g a g).2.ex
      rw [sm _ _ e1] at e
      cases e
      exact n (.inl ⟨xs, c⟩)
  have ha : ∀ u, H a = some u → u = o := fun u q => by
    have := sm _ _ q
    rw [e] at this
    exact (Option.some.inj this).symm
  have fa : ∀ u, W.F a = some u → u = o := fun u q => ha u (k.f a u q)
  refine ⟨⟨fun b u e1 => ?_, fun _ h => h, rfl⟩, fun _ h => .inl h, fun b u e1 => ?_, fun b u e1 _ => sm b u e1, ⟨fun b u e1 => ?_, fun b g => ?_, k.t⟩⟩
  · show upd W.F a o b = _
    by_cases z : b = a
    · subst z
      rw [upd_same, fa u e1]
    · rw [upd_ne z]
      exact e1
  · have e1 : upd W.F a o b = some u := e1
    by_cases z : b = a
    · subst z
      refine .inr ?_
      cases q : H b with
      | none => exact .inl rfl
      | some w =>
        have := ha w q
        subst this
        rcases c with c | ⟨xs, c⟩
        · rw [c] at q
          cases q
        · exact .inr ⟨_, rfl, .inl ⟨xs, c⟩⟩
    · rw [upd_ne z] at e1
      exact .inl e1
  · have e1 : upd W.F a o b = some u := e1
    by_cases z : b = a
    · subst z
      rw [upd_same] at e1
      rw [e, e1]
    · rw [upd_ne z] at e1
      exact sm _ _ (k.f b u e1)
  · have nb : b ≠ a := fun z => ng (z ▸ g)
    refine ⟨?_, ?_⟩
    · show upd W.F a o b = none
      rw [upd_ne nb]
      exact (k.g b g).1
    · refine (k.g b g).2.mono (fun c u e1 => ?_) rfl fun u e1 => sm _ _ e1
      show upd W.F a o c = _
      by_cases z : c = a
      · subst z
        rw [upd_same, fa u e1]
      · rw [upd_ne z]
        exact e1
theorem Go.put (k : Ok W H) (h : H a = none) : Go W H (W.put a o) (upd H a o) := Go.putS k (Com.Same.upd h) upd_same (.inl h)
/-- a new object of one's own: not in the world -/
theorem Go.own (k : Ok W H) (h : H a = none) : Go W H W (upd H a o) where
  le := .refl W
  gn := fun _ h => .inl h
  fn := fun _ _ h => .inl h
  p := fun b u e _ => by rw [upd_ne (ne_of_none e h)]; exact e
  ok := ⟨fun b u e => by rw [upd_ne (ne_of_none (k.f b u e) h)]; exact k.f b u e, fun b g => by
    have nb : b ≠ a := fun z => (k.no h).2 (z ▸ g)
    exact ⟨(k.g b g).1, (k.g b g).2.mono (fun _ _ e => e) rfl fun u e1 => by rw [upd_ne nb]; exact e1⟩, k.t⟩
/-- it changes: seen from a heap where it was not yet -/
theorem Go.mut (g : Go W H W1 H1) (h : H a = none) (f : W1.F a = none) (n : ¬ W1.G a) : Go W H W1 (upd H1 a o) where
  le := g.le
  gn := g.gn
  fn := g.fn
  p := fun b u e m => by rw [upd_ne (ne_of_none e h)]; exact g.p b u e m
  ok := ⟨fun b u e => by rw [upd_ne (ne_of_none e f)]; exact g.ok.f b u e, fun b gb => by
    have nb : b ≠ a := fun z => n (z ▸ gb)
    exact ⟨(g.ok.g b gb).1, (g.ok.g b gb).2.mono (fun _ _ e => e) rfl fun u e1 => by rw [upd_ne nb]; exact e1⟩, g.ok.t⟩
/-- it is frozen -/
theorem Go.freeze (g : Go W H W1 H1) (h : H a = none) (f : W1.F a = none) (n : ¬ W1.G a) (e : H1 a = some o) : Go W H (W1.put a o) H1 ∧ Le W1 (W1.put a o) := by
  have l : Le W1 (W1.put a o) := ⟨fun b u e => by
    show upd W1.F a o b = _
    rw [upd_ne (ne_of_none e f)]
    exact e, fun _ h => h, rfl⟩
  refine ⟨⟨g.le.trans l, g.gn, fun b u e2 => ?_, g.p, ⟨fun b u e2 => ?_, fun b gb => ⟨?_, (g.ok.g b gb).2.mono l.f rfl fun _ e => e⟩, g.ok.t⟩⟩, l⟩
  · by_cases z : b = a
    · rw [z]
      exact .inr (.inl h)
    · have e2 : upd W1.F a o b = some u := e2
      rw [upd_ne z] at e2
      exact g.fn b u e2
  · by_cases z : b = a
    · subst z
      have e2 : upd W1.F b o b = some u := e2
      rw [upd_same] at e2
      rw [e]
      exact e2
    · have e2 : upd W1.F a o b = some u := e2
      rw [upd_ne z] at e2
      exact g.ok.f b u e2
  · show upd W1.F a o b = none
    have gb : W1.G b := gb
    rw [upd_ne (fun z : b = a => n (by rw [← z]; exact gb))]
    exact (g.ok.g b gb).1
theorem Go.same (k : Ok W H) (s : Same H H1) : Go W H W H1 := ⟨.refl W, fun _ h => .inl h, fun _ _ h => .inl h, fun b o e _ => s b o e, ⟨fun b o e => s b o (k.f b o e), fun a g => ⟨(k.g a g).1, (k.g a g).2.mono (fun _ _ e => e) rfl fun u e => s _ _ e⟩, k.t⟩⟩
end
inductive En where
  | d (x : D)
  /-- a list of one's own: it may change -/
  | own (ds : List D)
abbrev Ev := List (Option En)
def SlotV (W : Wd) (H0 H : Hp) (v : V) : En → Prop
  | .d x => Vd W v x
  | .own ds => ∃ a vs, v = .ref a ∧ H a = some (.lst vs) ∧ VdA W vs ds ∧ W.F a = none ∧ ¬ W.G a ∧ H0 a = none
structure Rep (W : Wd) (H0 H : Hp) (σ : L2.St) (ρ : Ev) : Prop where
  ok : Ok W H
  len : σ.length = ρ.length
  at_ : ∀ (i : Nat) (e : En), ρ[i]? = some (some e) → ∃ v, σ[i]? = some (some v) ∧ SlotV W H0 H v e
  sep : ∀ (i j : Nat) (ds es : List D) (v : V), ρ[i]? = some (some (.own ds)) → ρ[j]? = some (some (.own es)) → σ[i]? = some (some v) → σ[j]? = some (some v) → i = j
section
variable {W W' W1 : Wd} {H H0 H' H1 : Hp} {σ σ' : L2.St} {ρ ρ' : Ev} {i : Nat} {v : V} {d : D} {ds : List D} {a : Addr}
theorem SlotV.go (k : Ok W H) (g : Go W H W' H') {e : En} (h : SlotV W H0 H v e) : SlotV W' H0 H' v e := by
  cases e with
  | d x => exact Vd.mono g.le h
  | own ds =>
    obtain ⟨a, vs, e, e1, t, f, n, z⟩ := h
    refine ⟨a, vs, e, g.p a _ e1 n, VdA.mono g.le t, ?_, fun q => ?_, z⟩
    · cases q : W'.F a with
      | none => rfl
      | some o =>
        rcases g.fn a o q with h | h | ⟨u, h, hs⟩
        · rw [f] at h; cases h
        · rw [e1] at h; cases h
        · rw [e1] at h; cases h; exact (still_lst hs).elim
    · rcases g.gn a q with h | h
      · exact n h
      · rw [e1] at h; cases h
theorem Rep.go (R : Rep W H0 H σ ρ) (g : Go W H W' H') : Rep W' H0 H' σ ρ := ⟨g.ok, R.len, fun i e h => let ⟨v, e1, s⟩ := R.at_ i e h; ⟨v, e1, s.go R.ok g⟩, R.sep⟩
theorem Rep.var (R : Rep W H0 H σ ρ) (h : ρ[i]? = some (some (.d d))) : ∃ v, σ[i]? = some (some v) ∧ Vd W v d := R.at_ i _ h
theorem getset {α : Type} {l : List α} {i j : Nat} {x y : α} (h : (l.set i x)[j]? = some y) : (j = i ∧ y = x ∧ i < l.length) ∨ (j ≠ i ∧ l[j]? = some y) := by
  by_cases e : i = j
  · subst e
    rw [List.getElem?_set_self'] at h
    cases q : l[i]? with
    | none => rw [q] at h; cases h
    | some z =>
      rw [q] at h
      cases h
      exact .inl ⟨rfl, rfl, (List.getElem?_eq_some_iff.mp q).1⟩
  · rw [List.getElem?_set_ne e] at h
    exact .inr ⟨fun z => e z.symm, h⟩
theorem Rep.set (R : Rep W H0 H σ ρ) (h : Vd W v d) : Rep W H0 H (σ.set i (some v)) (ρ.set i (some (.d d))) where
  ok := R.ok
  len := by rw [List.length_set, List.length_set, R.len]
  at_ := fun j e q => by
    rcases getset q with ⟨rfl, e1, l⟩ | ⟨n, q⟩
    · cases e1
      exact ⟨v, List.getElem?_set_self (by rw [R.len]; exact l), h⟩
    · obtain ⟨u, e1, s⟩ := R.at_ j e q
      exact ⟨u, by rw [List.getElem?_set_ne (fun z => n z.symm)]; exact e1, s⟩
  sep := fun j k xs ys u q1 q2 q3 q4 => by
    rcases getset q1 with ⟨_, e1, _⟩ | ⟨n1, q1⟩
    · cases e1
    rcases getset q2 with ⟨_, e1, _⟩ | ⟨n2, q2⟩
    · cases e1
    rw [List.getElem?_set_ne (fun z => n1 z.symm)] at q3
    rw [List.getElem?_set_ne (fun z => n2 z.symm)] at q4
    exact R.sep j k xs ys u q1 q2 q3 q4
theorem Rep.wipe1 (R : Rep W H0 H σ ρ) : Rep W H0 H (σ.set i none) (ρ.set i none) where
  ok := R.ok
  len := by rw [List.length_set, List.length_set, R.len]
  at_ := fun j e q => by
    rcases getset q with ⟨_, e1, _⟩ | ⟨n, q⟩
    · cases e1
    · obtain ⟨u, e1, s⟩ := R.at_ j e q
      exact ⟨u, by rw [List.getElem?_set_ne (fun z => n z.symm)]; exact e1, s⟩
  sep := fun j k xs ys u q1 q2 q3 q4 => by
    rcases getset q1 with ⟨_, e1, _⟩ | ⟨n1, q1⟩
    · cases e1
    rcases getset q2 with ⟨_, e1, _⟩ | ⟨n2, q2⟩
    · cases e1
    rw [List.getElem?_set_ne (fun z => n1 z.symm)] at q3
    rw [List.getElem?_set_ne (fun z => n2 z.symm)] at q4
    exact R.sep j k xs ys u q1 q2 q3 q4
def wipeD (ρ : Ev) : List Nat → Ev
  | [] => ρ
  | v :: vs => (wipeD ρ vs).set v none
theorem Rep.wipe (R : Rep W H0 H σ ρ) : ∀ vs : List Nat, Rep W H0 H (L2.wipe σ vs) (wipeD ρ vs)
  | [] => R
  | v :: vs => by
    unfold L2.wipe wipeD
    exact (Rep.wipe R vs).wipe1
/-- a list of one's own changes -/
theorem Rep.mutOwn {es : List D} {us : List V} (R : Rep W H0 H σ ρ) (q : ρ[i]? = some (some (.own ds))) (qs : σ[i]? = some (some (.ref a))) (t : VdA W us es) : Rep W H0 (upd H a (.lst us)) σ (ρ.set i (some (.own es))) ∧ W.F a = none ∧ ¬ W.G a ∧ H0 a = none := by
  obtain ⟨v, e1, b, vs, e2, e3, t0, f, n, z⟩ := R.at_ i _ q
  rw [qs] at e1
  cases e1
  cases e2
  refine ⟨⟨⟨fun b u e => ?_, fun b gb => ?_, R.ok.t⟩, by rw [List.length_set, R.len], fun j e h => ?_, fun j k xs ys u q1 q2 q3 q4 => ?_⟩, f, n, z⟩
  · rw [upd_ne (ne_of_none e f)]
    exact R.ok.f b u e
  · have nb : b ≠ a := fun z => n (z ▸ gb)
    exact ⟨(R.ok.g b gb).1, (R.ok.g b gb).2.mono (fun _ _ e => e) rfl fun u e1 => by rw [upd_ne nb]; exact e1⟩
  · rcases getset h with ⟨rfl, e1, l⟩ | ⟨nj, h⟩
    · cases e1
      exact ⟨_, qs, a, us, rfl, upd_same, t, f, n, z⟩
    · obtain ⟨u, e1, s⟩ := R.at_ j e h
      refine ⟨u, e1, ?_⟩
      cases e with
      | d x => exact s
      | own xs =>
        obtain ⟨b, ws, e2, e3, r1, r2, r3, r4⟩ := s
        refine ⟨b, ws, e2, ?_, r1, r2, r3, r4⟩
        rw [upd_ne (fun z => nj (R.sep j i xs ds u h q e1 (by rw [e2, z]; exact qs)))]
        exact e3
  · have f1 : ∀ (j : Nat) (xs : List D), (ρ.set i (some (.own es)))[j]? = some (some (.own xs)) → ∃ zs : List D, ρ[j]? = some (some (.own zs)) := fun j xs h => by
      rcases getset h with ⟨rfl, e1, l⟩ | ⟨nj, h⟩
      · exact ⟨_, q⟩
      · exact ⟨_, h⟩
    obtain ⟨zs, h1⟩ := f1 j xs q1
    obtain ⟨ws, h2⟩ := f1 k ys q2
    exact R.sep j k zs ws u h1 h2 q3 q4
end
/-- no list of one's own among the slots -/
def NoOwn (ρ : Ev) : Prop := ∀ (i : Nat) (ds : List D), ρ[i]? ≠ some (some (.own ds))
def plain1 : Option En → Option En
  | some (.own _) => none
  | x => x
def plain (ρ : Ev) : Ev := ρ.map plain1
theorem plain_at {ρ : Ev} {i : Nat} {e : En} (h : (plain ρ)[i]? = some (some e)) : ρ[i]? = some (some e) ∧ ∃ d, e = .d d := by
  unfold plain at h
  rw [List.getElem?_map] at h
  cases q : ρ[i]? with
  | none => rw [q] at h; cases h
  | some o =>
    rw [q] at h
    cases o with
    | none => cases h
    | some u =>
      cases u with
      | own ds => cases h
      | d x =>
        cases h
        exact ⟨rfl, x, rfl⟩
theorem plain_no (ρ : Ev) : NoOwn (plain ρ) := fun i ds h => by
  obtain ⟨_, d, e⟩ := plain_at h
  cases e
theorem NoOwn.set {ρ : Ev} {i : Nat} {d : D} (h : NoOwn ρ) : NoOwn (ρ.set i (some (.d d))) := fun j ds q => by
  rcases getset q with ⟨_, e, _⟩ | ⟨_, q⟩
  · cases e
  · exact h j ds q
theorem NoOwn.wipe {ρ : Ev} (h : NoOwn ρ) : ∀ vs : List Nat, NoOwn (wipeD ρ vs)
  | [] => h
  | v :: vs => fun j ds q => by
    unfold wipeD at q
    rcases getset q with ⟨_, e, _⟩ | ⟨_, q⟩
    · cases e
    · exact NoOwn.wipe h vs j ds q
theorem Rep.plain {W : Wd} {H0 H : Hp} {σ : L2.St} {ρ : Ev} (R : Rep W H0 H σ ρ) : Rep W H0 H σ (plain ρ) :=
  ⟨R.ok, by unfold Dt.plain; rw [List.length_map, R.len], fun i e h => R.at_ i e (plain_at h).1, fun i j ds es v h => absurd h (plain_no ρ i ds)⟩
theorem Rep.free {W W' : Wd} {H0 H H' : Hp} {σ : L2.St} {ρ : Ev} (R : Rep W H0 H σ ρ) (n : NoOwn ρ) (l : Le W W') (k : Ok W' H') : Rep W' H0 H' σ ρ :=
  ⟨k, R.len, fun i e h => by
    cases e with
    | own ds => exact absurd h (n i ds)
    | d x =>
      obtain ⟨v, e1, hv⟩ := R.at_ i _ h
      exact ⟨v, e1, Vd.mono l hv⟩, fun i j ds es v h => absurd h (n i ds)⟩
end Dt
set_option Elab.async false
set_option linter.all false
set_option maxRecDepth 100000
set_option maxHeartbeats 4000000
namespace Gn
open PySem PySem.Spec PyProof.Rows L2 Com Sd StV
/-- a clause: the class, the slot of its name, its suite -/
structure Cl where
  c : Value
  i : Nat
  ts : Addr → Value → Option Addr → TS
end Gn
set_option Elab.async false
set_option linter.all false
set_option maxRecDepth 100000
set_option maxHeartbeats 4000000
namespace PySem
namespace Exo_side
open PySem.W PySem.Calls PyProof.Rows PySem.HandSPX
def iA (p1 p2 : Pos) : Arguments := { posonlyargs := [], args := [{ arg := "self", annotation := none, pos := p1 }, { arg := "side", annotation := none, pos := p2 }], vararg := none, kwonlyargs := [], kw_defaults := [], kwarg := none, defaults := [] }
abbrev sCall (msg : Str) (q1 q2 q3 q4 q5 : Pos) : Expr := .Call (.Attribute (.Call (.Name "super" q1) [] [] q2) "__init__" q3) [.Constant (.str msg) 0 q4] [] q5
def iB (msg : Str) (q1 q2 q3 q4 q5 q6 q7 q8 q9 q10 : Pos) : List Stmt :=
  [.Expr (sCall msg q1 q2 q3 q4 q5) q6, .Assign [.Attribute (.Name "self" q7) "side" q8] (.Name "side" q9) q10]
def iS : Scope := { kind := .function, names := [(PySem.Str.ofString "self", .local), (PySem.Str.ofString "side", .local), (PySem.Str.ofString "__class__", .free), (PySem.Str.ofString "super", .globalImplicit)], isGenerator := false, isCoroutine := false, more := [] }
/-- how the call of the bound __init__ is read -/
def Reads (msg : Str) (q1 q2 q3 q4 q5 : Pos) (env : Env) : Prop := ∃ pl : Sem Bool, eval (sCall msg q1 q2 q3 q4 q5) env = (do
  let ov ← attributeBase (.Call (.Name "super" q1) [] [] q2) "__init__" env (eval (.Call (.Name "super" q1) [] [] q2) env)
  standAt q3.atName
  let (f, first) ← holding [ov] (getMethod ov "__init__" pl)
  callWith q5 f first (backTo q5 (starEach [.Constant (.str msg) 0 q4] env)) [])
/-- what the written part says of the class x, at C, and of its __init__, at fI -/
structure Txt (prog : Program) (K : Frag) (mg : Str → Option Value) (x : Str) (C fI : Addr) : Prop where
  gC : mg x = some (.ref C)
  gS : mg "super" = none
  cls : ∃ nm q N bs bm sn sub ab col dd k0 k1 k2 k3 k5, K.lookup C = some (excClassObj nm q C N bs bm true sn sub ab col dd k0 k1 k2 k3 k5 "ValueError.__new__") ∧ refsVE bm = true
  sup : ks_superIn K C C "__init__" = some (some (.builtin "ValueError.__init__"))
  sVE : subIn K (.ref C) (.type "ValueError") = some true
  own : mroIn K C (.ref C) = some true
  op : nsIn K cStatics "thirdparty.any" = some none
  sa : findIn K (.ref C) "__setattr__" = some (some (.builtin "object.__setattr__"))
  ga : findIn K (.ref C) "__getattribute__" = some (some (.builtin "BaseException.__getattribute__"))
  gg : findIn K (.ref C) "__getattr__" = some none
  noN : findIn K (.ref C) "side" = some none
  iC : findIn K (.ref C) "__init__" = some (some (.ref fI))
  tC : typeIn K (.ref fI) = some (.type "function")
  kC : keepIn K (.ref C) = true
  exC : subIn K (.ref C) (.type "BaseException") = some true
  tyC : typeIn K (.ref C) = some (.type "type")
  hdC : hasDictIn K C = true
  te : exmOne K (.ref C) (.ref C) = some true
  top : (prog.main.scope.names.lookup ("super" : Str)).isSome = false
  fn : ∃ (oc : Value) (od : Option Addr) (doc pm : Value) (an : Option Addr) (ct : Value) (osl : Array (Option Value)) (cda cc : Addr) (qual : Str) (p1 p2 : Pos) (msg : Str) (q1 q2 q3 q4 q5 q6 q7 q8 q9 q10 : Pos)
      (cl : Value) (cld : Option Addr) (csl : Array (Option Value)) (ccl : Value) (cdd : Option Addr) (vs : Array Value) (ccs : Array (Option Value)) (file : Str) (tf : Tok),
    K.lookup fI = some ⟨oc, od, .func (ksFn "__init__" qual (iA p1 p2) (iB msg q1 q2 q3 q4 q5 q6 q7 q8 q9 q10) iS .none .none doc pm an (.ref cda) ct cc), osl⟩ ∧ codeIn K (.ref cda) qual = true ∧
    K.lookup cc = some ⟨cl, cld, .cell (some (.ref C)), csl⟩ ∧ K.lookup cda = some ⟨ccl, cdd, .fields vs, ccs⟩ ∧ vs[2]? = some (.str file tf) ∧ ((prog.main.file : Str) == file) = true ∧ (∀ L : Addr, Reads msg q1 q2 q3 q4 q5 (ksEnv qual iS L fI (.ref cda) cc))
theorem kept_but {K : Frag} {h h' : Heap} {x : Addr} (X : K.In h) (hx : K.lookup x = none) (k : ∀ b o, b ≠ x → h.get? b = some o → h'.get? b = some o) : K.In h' := fun a o e =>
  k a o (fun z => by rw [z, hx] at e; cases e) (X a o e)
theorem one_size (v : Value) : [v].length ≤ sizeLine := by
  rw [sizeLine_eq]
  exact (by decide : 1 ≤ 16777216)
/-- what __init__ leaves of a fresh exception at x -/
structure InitEnd (h h' : Heap) (x C dx t1 : Addr) (v : Value) : Prop where
  keep : ∀ b o, b ≠ x → h.get? b = some o → h'.get? b = some o
  obj : h'.get? x = some { cls := .ref C, dict := some dx, data := .fields #[.ref t1, .none, .none, .none, .bool false, .none] }
  dbig : h.objs.size ≤ dx
  dne : dx ≠ x
  ns : h'.Ns1 dx (fun y => if y = "side" then some v else none)
/-- a made one -/
structure OwnMade (h h' : Heap) (e C d : Addr) (v : Value) : Prop where
  keep : ∀ b o, h.get? b = some o → h'.get? b = some o
  new : h.objs.size ≤ e
  obj : ∃ oe vs, h'.get? e = some oe ∧ oe.cls = .ref C ∧ oe.dict = some d ∧ oe.data = .fields vs ∧ vs[1]? = some .none
  dbig : h.objs.size ≤ d
  dne : d ≠ e
  ns : h'.Ns1 d (fun y => if y = "side" then some v else none)
section
variable {M : Model} {prog : Program} {w : World} {A : Around} {E : Value → Shared → Prop} {h : Heap} {g : Array GenState} {d : Drawn} {t : Nat} {os : OsState}
variable {nm q : Str} {C N : Addr} {bs bm : List Value} {hdct : Bool} {sn : List Str} {sub : List Value} {ab : Bool} {col : Option Bool} {dd : Option Addr} {k0 k1 k2 k3 k5 : Option Value}
/-- the bound ValueError.__init__ is called -/
theorem call_mw {u e t0 : Addr} {rest : List Value} {Q : Value → Shared → Prop}
    (hC : h.get? C = some (excClassObj nm q C N bs bm hdct sn sub ab col dd k0 k1 k2 k3 k5 "ValueError.__new__")) (he : h.get? e = some (excO C t0)) (hu : h.get? u = some (kxs_mw "ValueError.__init__" e)) (hrest : rest.length ≤ sizeLine)
    (hq : ∀ h' t1, (∀ b o, b ≠ e → h.get? b = some o → h'.get? b = some o) → h'.get? e = some (excO C t1) → h.objs.size ≤ h'.objs.size → Q .none ⟨h', g, d, t, os⟩) :
    wpAny (model prog w) A (call (.ref u) rest) Q E ⟨h, g, d, t, os⟩ := by
  refine wpAny_call (codeAny_of_tree ?_)
  show wpAny _ A.in1 (callAny (.ref u) ⟨rest, []⟩) _ _ _
  simp only [callAny]
  refine wpAny_bind (wpAny_load hu ?_)
  simp only [kxs_mw, show (Value.type "method-wrapper" == Value.type "method" || Value.type "method-wrapper" == Value.type "builtin_function_or_method" || Value.type "method-wrapper" == Value.type "method-wrapper") = true by decide, if_true]
  refine KFB.if_so (by decide) ?_
  refine wpAny_bind (check_bound_init F.excBase_ValueError.toExcCallFacts hC he rfl ?_)
  refine wpAny_bind (wpAny_pure (wpAny_pure ?_))
  refine ⟨plainId_quiet F.excBase_ValueError.init.plain _, codeAny_builtin F.excBase_ValueError.initEntry ?_⟩
  refine exc_init_tree (cls := .ref C) (t0 := t0) (dv := none) (c2 := .none) (c3 := .none) (b4 := .bool false) he hrest fun h' k hx ht => hq h' h.objs.size k hx (Nat.le_of_lt (Heap.lt_size ht))
end
section
variable {prog : Program} {w : World} {A : Around} {E : Value → Shared → Prop} {R : Result → Shared → Prop} {s : Shared} {K : Frag} {mg : Str → Option Value} {C fI : Addr} {nm : Str}
theorem ldC {M : Model} {s : Shared} {env : Env} {m : Str → Option Value} {x : Str} {pos : Pos} {v : Value} {Q : Value → Shared → Prop} {A : Around} {E : Value → Shared → Prop} (hn : s.heap.Ns env.locals m) (hv : m x = some v) (h : Q v s)
    (hk : env.scope.kind = .function := by rfl) (hl : env.kindOf x = some .local := by rfl) (hd : (x == ("__debug__" : Str)) = false := by decide) : wpAny M A (eval (.Name x pos) env) Q E s := wpAny_Name (wpAny_loadName_local hk hl hn hv h) hd
theorem init (T : Txt prog K mg nm C fI) {x t0 : Addr} {v : Value} {mb : Str → Option Value} (X : K.In s.heap) (hg : s.heap.Ns mainGlobals mg) (hb : s.heap.Ns builtinsNs mb) (hbv : ∀ y : Str, y ≠ "__name__" → mb y = bootBuiltins y)
    (hlim : s.heap.NoLimit) (hx : s.heap.get? x = some (excO C t0)) (hnx : K.lookup x = none) (hroom : A.depth < recursionLimit)
    (hq : ∀ h' tk dx t1, InitEnd s.heap h' x C dx t1 v → R (.ok (.ret .none)) { s with heap := h', toks := tk }) :
    codeAny (model prog w) A (.call (.ref fI) ⟨[.ref x, v], []⟩) R s := by
  obtain ⟨oc, od, doc, pm, an, ct, osl, cda, cc, qual, p1, p2, msg, q1, q2, q3, q4, q5, q6, q7, q8, q9, q10, cl, cld, csl, ccl, cdd, vs, ccs, file, tf, lk, hcd, hcell, hcode, hvs, hfile, hrd⟩ := T.fn
  obtain ⟨pl, hpl⟩ := hrd s.heap.objs.size
  obtain ⟨cn, q, N, bs, bm, sn, sub, ab, col, dd, k0, k1, k2, k3, k5, hC, hbm⟩ := T.cls
  have hcl : clsIn K C = some { name := cn, bases := bs, mro := .ref C :: bm, ns := N, qualname := q, hasDict := true, slotNames := sn, subclasses := sub, abstract := ab, collection := col, hasDel := false } := by unfold clsIn; rw [hC] <;> rfl
  refine ks_codeAny_call_defAt (fd := ksFn "__init__" qual (iA p1 p2) (iB msg q1 q2 q3 q4 q5 q6 q7 q8 q9 q10) iS .none .none doc pm an (.ref cda) ct cc) (body := iB msg q1 q2 q3 q4 q5 q6 q7 q8 q9 q10) (binds := [("self", .ref x), ("side", v)]) hroom (X _ _ lk) rfl hlim (codeRec_of X hcd) rfl
    (BindsTo.of_eq (by first | rfl | with_unfolding_all rfl)) (show ∀ y ∈ iS.names, y.2 ≠ .cell by decide) (by intro y hy; rcases List.mem_cons.mp hy with rfl | hy <;> first | rfl | (rcases List.mem_cons.mp hy with rfl | hy <;> first | rfl | cases hy)) (fun h₁ hns k => ?_) rfl rfl rfl
  have X₁ : K.In h₁ := X.keeps k
  have hx₁ := k _ _ hx
  have hxL : s.heap.objs.size ≠ x := Nat.ne_of_gt (Heap.lt_size hx)
  have hxC : x ≠ C := fun z => by
    have y := X _ _ hC
    rw [← z, hx] at y
    cases y
  show PySem.wpAt (model prog w) _ _ (execs (iB msg q1 q2 q3 q4 q5 q6 q7 q8 q9 q10) (ksEnv qual iS s.heap.objs.size fI (.ref cda) cc)) _ _ _
  refine ks_wpAt_execs_cons (ks_wpAt_Expr_any (ks_wpAt_MethodCall (pl := pl) ?_ hpl))
  refine ks_wpAt_super_base (env := ksEnv qual iS s.heap.objs.size fI (.ref cda) cc) rfl rfl rfl rfl (X₁ _ _ lk) rfl rfl rfl (X₁ _ _ hcode) rfl hvs hfile T.top ?_
  refine ks_loadName_global rfl rfl (loadGlobal_builtin (env := ksEnv qual iS s.heap.objs.size fI (.ref cda) cc) (hg.keeps k) T.gS (hb.keeps k) ((hbv _ (by decide)).trans PyProof.Rows.Boot.«super») ⟨rfl, ?_⟩)
  refine wpAny_loadName_free (env := ksEnv qual iS s.heap.objs.size fI (.ref cda) cc) rfl rfl rfl ⟨_, X₁ _ _ hcell, rfl⟩ ?_
  refine wpAny_loadName_local (env := ksEnv qual iS s.heap.objs.size fI (.ref cda) cc) (v := .ref x) rfl rfl hns (by first | rfl | with_unfolding_all rfl | kernel_rfl) ?_
  refine ks_wpAny_isType_cls (X₁ _ _ hC) rfl ⟨rfl, ?_⟩
  refine ks_wpAny_call_super (X₁ _ _ hC) rfl hx₁ rfl (fun c e => nomatch e) (looks_mroIn X₁ T.own) (fun h₂ hso k₂ => ?_)
  have X₂ : K.In h₂ := X₁.keeps k₂
  have hx₂ := k₂ _ _ hx₁
  have I₂ : InstAt h₂ x (excO C t0) C none := ⟨hx₂, rfl, rfl, trivial⟩
  have hm := T.sup
  unfold ks_superIn at hm
  rw [hcl] at hm
  refine kxs_getMethod kxs_ValueError hso (looks_opaque X₂ T.op) (l₀ := .ref C :: bm) ((looks_clsIn X₂ hcl).andThen .now) rfl X₂ hm (I₂.type.andThen (looks_subIn X₂ T.sVE)) hxC rfl ?_
  have k₁₂ : ∀ b o, h₁.get? b = some o → (h₂.push (kxs_mw "ValueError.__init__" x)).get? b = some o := fun b o e => Heap.get?_push_of_some _ (k₂ b o e)
  have hu : (h₂.push (kxs_mw "ValueError.__init__" x)).get? h₂.objs.size = some (kxs_mw "ValueError.__init__" x) := Heap.get?_push_at rfl rfl
  have sz₂ : s.heap.objs.size ≤ (h₂.push (kxs_mw "ValueError.__init__" x)).objs.size := by
    have a : h₂.objs.size < (h₂.push (kxs_mw "ValueError.__init__" x)).objs.size := Heap.lt_size hu
    have b : h₁.objs.size < h₂.objs.size := Heap.lt_size hso
    have c : s.heap.objs.size < h₁.objs.size := hns.lt
    omega
  generalize h₂.push (kxs_mw "ValueError.__init__" x) = h₂' at k₁₂ hu sz₂ ⊢
  have X₂' : K.In h₂' := X₁.keeps k₁₂
  show wpAny _ _ (callWith q5 (.ref h₂.objs.size) [] (backTo q5 (starEach (.Constant (.str msg) 0 q4 :: []) (ksEnv qual iS s.heap.objs.size fI (.ref cda) cc))) []) _ _ _
  rw [show starEach (.Constant (.str msg) 0 q4 :: []) (ksEnv qual iS s.heap.objs.size fI (.ref cda) cc) = (false, eval (.Constant (.str msg) 0 q4) (ksEnv qual iS s.heap.objs.size fI (.ref cda) cc)) :: starEach [] (ksEnv qual iS s.heap.objs.size fI (.ref cda) cc) from rfl]
  refine kxs_callWith (i := "ValueError.__init__") (x := x) rfl (evalArgs_plain (Calls.spliced_cons (wpAny_Constant_str (env := ksEnv qual iS s.heap.objs.size fI (.ref cda) cc) (x := msg) (k := 0) (pos := q4) (Calls.spliced_nil ⟨hu, ?_⟩))))
  refine call_mw (X₂' _ _ hC) (k₁₂ _ _ hx₁) hu (one_size _) fun h₃ t1 k₃ hx₃ sz₃ => ?_
  have X₃ : K.In h₃ := kept_but X₂' hnx k₃
  have hns₃ : h₃.Ns s.heap.objs.size (fun y => List.lookup y [(PySem.Str.ofString "self", Value.ref x), (PySem.Str.ofString "side", v)].reverse) := by
    obtain ⟨oL, es, ep, hL, r⟩ := hns
    exact ⟨oL, es, ep, k₃ _ _ hxL (k₁₂ _ _ hL), r⟩
  -- self.field = field
  show PySem.wpAt _ _ _ (execs [.Assign [.Attribute (.Name "self" q7) "side" q8] (.Name "side" q9) q10] (ksEnv qual iS s.heap.objs.size fI (.ref cda) cc)) _ _ _
  refine ks_wpAt_execs_cons (wpAt_of_wpAny (plainObj_wpAny_Assign_Attribute ?_))
  refine ldC (env := ksEnv qual iS s.heap.objs.size fI (.ref cda) cc) (v := v) hns₃ (by first | rfl | with_unfolding_all rfl | kernel_rfl) (ldC (env := ksEnv qual iS s.heap.objs.size fI (.ref cda) cc) (v := .ref x) hns₃ (by first | rfl | with_unfolding_all rfl | kernel_rfl) ?_)
  refine set_plain X₃ (ox := excO C t1) (od := none) ⟨hx₃, rfl, rfl, trivial⟩ T.sa ?_
  refine exc_osa X₃ hx₃ hcl (show refsVE (.ref C :: bm) = true from hbm) rfl T.noN (fun h₄ tk₄ dx k₄ dn dne hx₄ hn₄ => ?_)
  refine wpAt_of_wpAny (wpAny_execs_nil (hq h₄ tk₄ dx t1 ⟨fun b o hb e => k₄ b o hb (k₃ b o hb (k₁₂ b o (k b o e))), hx₄, Nat.le_trans sz₂ (Nat.le_trans sz₃ dn), dne, hn₄⟩))
theorem made (T : Txt prog K mg nm C fI) {v : Value} {mb : Str → Option Value} (X : K.In s.heap) (hg : s.heap.Ns mainGlobals mg) (hb : s.heap.Ns builtinsNs mb) (hbv : ∀ y : Str, y ≠ "__name__" → mb y = bootBuiltins y) (hlim : s.heap.NoLimit)
    (hroom : A.depth + 1 < recursionLimit) (hq : ∀ h' tk e d, OwnMade s.heap h' e C d v → R (.ok (.ret (.ref e))) { s with heap := h', toks := tk }) :
    codeAny (model prog w) A (.call (.ref C) ⟨[v], []⟩) R s := by
  obtain ⟨cn, q, N, bs, bm, sn, sub, ab, col, dd, k0, k1, k2, k3, k5, hC, hbm⟩ := T.cls
  obtain ⟨hp, g, dr, tk, os⟩ := s
  have k : ∀ b o, hp.get? b = some o → ((hp.push (kdv_tup [v])).push (excO C hp.objs.size)).get? b = some o := fun b o e => Heap.get?_push_of_some _ (Heap.get?_push_of_some _ e)
  have hget : ((hp.push (kdv_tup [v])).push (excO C hp.objs.size)).get? (hp.objs.size + 1) = some (excO C hp.objs.size) := by heap_get
  have hnx : K.lookup (hp.objs.size + 1) = none := by
    cases e : K.lookup (hp.objs.size + 1) with
    | none => rfl
    | some o =>
      have z : hp.get? (hp.objs.size + 1) = some o := X _ _ e
      exact absurd (Nat.lt_of_succ_lt (Heap.lt_size z)) (Nat.lt_irrefl _)
  refine call_own F.excBase_ValueError (fun X => refsVE_contains X bm hbm) (X _ _ hC) (looks_findIn X T.iC) (fun self => bind_fn X self T.tC) (one_size v) ?_
  refine init (s := ⟨(hp.push (kdv_tup [v])).push (excO C hp.objs.size), g, dr, tk, os⟩) T (X.keeps k) (hg.keeps k) (hb.keeps k) hbv (hlim.keeps k) hget hnx ?_ fun h' tk' dx t1 ⟨k', hx, dn, dne, hns⟩ => ?_
  · show A.depth + 1 < recursionLimit
    exact hroom
  · have old : ∀ b o, hp.get? b = some o → h'.get? b = some o := fun b o e => k' b o (Nat.ne_of_lt (Nat.lt_succ_of_lt (Heap.lt_size e))) (k b o e)
    have z : hp.objs.size + 1 + 1 ≤ dx := by
      first
        | (simpa only [Heap.size_push] using dn)
        | exact dn
        | (have q := dn; rw [Heap.size_push, Heap.size_push] at q; exact q)
    exact ⟨rfl, hq h' tk' (hp.objs.size + 1) dx ⟨old, Nat.le_succ _, ⟨_, _, hx, rfl, rfl, rfl, rfl⟩, Nat.le_trans (Nat.le_trans (Nat.le_succ _) (Nat.le_succ _)) z, dne, hns⟩⟩
end
end Exo_side
end PySem
set_option Elab.async false
set_option linter.all false
namespace Sd
def takeL (L : List PP) (p : PP) : List PP := L.filter fun c => !decide (c = p)
theorem LoadOk.le {n m : Nat} {L : List PP} (h : LoadOk n m L) : L.Pairwise (fun a b => leP a b = true) := by
  have := List.pairwise_map.mp h.asc
  exact this.imp fun {a b} x => leP_iff.mpr (.inl x)
theorem LoadOk.nodup {n m : Nat} {L : List PP} (h : LoadOk n m L) : L.Nodup := by
  have := List.pairwise_map.mp h.asc
  exact this.imp fun {a b} x e => by rw [e] at x; omega
theorem take_perm {L : List PP} {p : PP} (nd : L.Nodup) (hp : p ∈ L) : L.Perm (takeL L p ++ [p]) := by
  have e : takeL L p = L.erase p := by
    rw [List.Nodup.erase_eq_filter nd]
    unfold takeL
    congr 1
    funext c
    by_cases z : c = p <;> simp [z]
  rw [e]
  exact (List.perm_cons_erase hp).trans (List.perm_append_comm (l₁ := [p]))
theorem LoadOk.take {n m : Nat} {L : List PP} (p : PP) (h : LoadOk n m L) : LoadOk n m (takeL L p) :=
  ⟨fun q hq => h.rng q (List.mem_filter.mp hq).1, h.asc.sublist ((List.filter_sublist).map _), List.Pairwise.sublist ((List.filter_sublist).map _) h.nd⟩
theorem left_more {ds is js : List Int} {i : Int} (h : is.Perm (js ++ [i])) (g : ∀ d ∈ left ds is, 0 ≤ d) : (∀ d ∈ left ds js, 0 ≤ d) ∧ (0 ≤ i → i < ds.length → 0 < (left ds js).getD i.toNat 0) := by
  have key : ∀ {j : Nat} {d : Int}, ds[j]? = some d → 0 ≤ d - ((is.count (j : Int) : Nat) : Int) := fun {j d} e => by
    refine g _ (List.mem_of_getElem? (i := j) ?_)
    rw [left_get, e]
    rfl
  have cnt : ∀ j : Nat, is.count (j : Int) = js.count (j : Int) + [i].count (j : Int) := fun j => by rw [h.count_eq, List.count_append]
  constructor
  · intro d hd
    obtain ⟨j, hj⟩ := List.getElem?_of_mem hd
    rw [left_get] at hj
    cases e : ds[j]? with
    | none => rw [e] at hj; cases hj
    | some z =>
      rw [e] at hj
      have := key e
      have c := cnt j
      simp only [Option.map_some, Option.some.injEq] at hj
      omega
  · intro h0 h1
    obtain ⟨n, rfl⟩ := Int.eq_ofNat_of_zero_le h0
    have hn : n < ds.length := by omega
    have e : ds[n]? = some ds[n] := List.getElem?_eq_getElem hn
    have k := key e
    have c := cnt n
    rw [List.count_singleton_self] at c
    rw [List.getD_eq_getElem?_getD, Int.toNat_natCast, left_get, e]
    show 0 < ds[n] - _
    omega
theorem set_flat {S : List (List PP)} {k : Nat} {L M : List PP} {p : PP} (hk : S[k]? = some L) (h : L.Perm (M ++ [p])) : S.flatten.Perm ((S.set k M).flatten ++ [p]) := by
  have hkl : k < S.length := (List.getElem?_eq_some_iff.mp hk).1
  have e1 : S = S.take k ++ L :: S.drop (k + 1) := by
    obtain ⟨_, e⟩ := List.getElem?_eq_some_iff.mp hk
    rw [← e]
    simp
  have e2 : S.set k M = S.take k ++ M :: S.drop (k + 1) := by rw [List.set_eq_take_append_cons_drop, if_pos hkl]
  rw [e2]
  conv => lhs; rw [e1]
  rw [List.flatten_append, List.flatten_cons, List.flatten_append, List.flatten_cons, List.append_assoc, List.append_assoc]
  refine List.Perm.append_left _ ?_
  refine (List.Perm.append_right _ h).trans ?_
  rw [List.append_assoc]
  exact List.Perm.append_left _ List.perm_append_comm
theorem StdOk.take {ds es : List Int} {m : Int} {S : List (List PP)} {k : Nat} {L : List PP} {p : PP} (h : StdOk ds es m S) (hk : S[k]? = some L) (hp : p ∈ L) :
    StdOk ds es m (S.set k (takeL L p)) ∧ 0 < (left ds (fs (S.set k (takeL L p)))).getD p.1.toNat 0 ∧ 0 < (left es (sn (S.set k (takeL L p)))).getD p.2.toNat 0 := by
  have lo := h.ld L (List.mem_of_getElem? hk)
  obtain ⟨r1, r2, r3, r4⟩ := lo.rng p hp
  have pm := set_flat hk (take_perm lo.nodup hp)
  have p1 : (fs S).Perm (fs (S.set k (takeL L p)) ++ [p.1]) := by
    unfold fs
    have := pm.map (·.1)
    rwa [List.map_append] at this
  have p2 : (sn S).Perm (sn (S.set k (takeL L p)) ++ [p.2]) := by
    unfold sn
    have := pm.map (·.2)
    rwa [List.map_append] at this
  obtain ⟨a1, a2⟩ := left_more p1 h.ci
  obtain ⟨b1, b2⟩ := left_more p2 h.co
  refine ⟨⟨by rw [List.length_set]; exact h.len, fun M hM => ?_, a1, b1⟩, a2 r1 r2, b2 r3 r4⟩
  rcases List.mem_or_eq_of_mem_set hM with e | e
  · exact h.ld M e
  · rw [e]
    exact lo.take p
theorem mem_frees {S : List (List PP)} {p : PP} {z : Int} : z ∈ frees S p ↔ ∃ k : Nat, z = (k : Int) ∧ k < S.length ∧ freeB (S.getD k []) p = true := by
  unfold frees
  simp only [List.mem_map, List.mem_filter, List.mem_range]
  exact ⟨fun ⟨k, ⟨h1, h2⟩, e⟩ => ⟨k, e.symm, h1, h2⟩, fun ⟨k, e, h1, h2⟩ => ⟨k, ⟨h1, h2⟩, e.symm⟩⟩
end Sd
set_option Elab.async false
set_option linter.all false
set_option maxRecDepth 100000
set_option maxHeartbeats 4000000
namespace Gn
open PySem PySem.Spec PyProof.Rows L2 Com Sd StV Ext
def rNotInT (K : PySem.W.Frag) : R2 := fun x y H Q => ∃ d ds, Dp K H x d ∧ Dp K H y (.tuple ds) ∧ SeqAt.shaped d = true ∧ SeqAt.shaped (.list ds) = true ∧ Q (.bl (!ds.any fun z => PyData.eqv z d)) H
theorem notInT {X : Cx} (K : PySem.W.Frag) (hu : X.A.units + 65 < cLine) (hK : X.K = K := by rfl) : OpR X (compareOp .NotIn) (rNotInT K) := by
  subst hK
  intro pins s σ H x y v u Q I rx ry h
  obtain ⟨d, ds, hd, he, sd, se, q⟩ := h
  obtain ⟨as, r1⟩ := Dp.reads I d x v hd rx
  obtain ⟨bs, r2⟩ := Dp.reads I (.tuple ds) y u he ry
  exact SeqAt.notIn_tuple_reads r2 r1 (SeqAt.canLay_of_shaped se) (SeqAt.canLay_of_shaped sd) (room_in_shaped sd hu) ⟨.bl _, H, I, rfl, q⟩
/-- an answer, or a refusal -/
inductive Out where
  | told (S : List (List PP))
  | side (t : Str)
  | mid (x : V)
  | call (u : V)
def OutV (H : Hp) (r : V) : Out → Prop
  | .told S => ∃ t v, r = .ref t ∧ H t = some (.tup [.str "told", v]) ∧ StaV H v S
  | .side s => ∃ t, r = .ref t ∧ H t = some (.tup [.str "door", .str s])
  | .mid x => ∃ t, r = .ref t ∧ H t = some (.tup [.str "middle", x])
  | .call u => ∃ t, r = .ref t ∧ H t = some (.tup [.str "call", u])
/-- the middle: a number, or nothing of the kind -/
def KJ (K : Frg) (H : Hp) (x : V) : Prop := sameOk x = true ∧ ((∃ z, x = .int z) ∨ PlainI K H x false)
theorem KJ.same {K : Frg} {H H' : Hp} (s : Same H H') {x : V} (h : KJ K H x) : KJ K H' x := ⟨h.1, h.2.imp id fun p => p.same s⟩
def kIn (S : List (List PP)) (x : V) : Option Nat := match x with
  | .int z => if 0 ≤ z ∧ z < S.length then some z.toNat else none
  | _ => none
theorem OutV.same {H H' : Hp} (s : Same H H') {r : V} {out : Out} (h : OutV H r out) : OutV H' r out := by
  cases out with
  | told S => exact let ⟨t, v, e, h1, h2⟩ := h; ⟨t, v, e, s _ _ h1, StaV.same s h2⟩
  | side t => exact let ⟨t, e, h1⟩ := h; ⟨t, e, s _ _ h1⟩
  | mid x => exact let ⟨t, e, h1⟩ := h; ⟨t, e, s _ _ h1⟩
  | call u => exact let ⟨t, e, h1⟩ := h; ⟨t, e, s _ _ h1⟩
end Gn
set_option Elab.async false
set_option linter.all false
set_option maxRecDepth 100000
set_option maxHeartbeats 4000000
namespace Dt
open PySem PySem.Spec PyProof.Rows L2 Com
variable [Dt.Tb]
abbrev KD := D → Prop
abbrev XD := Addr → Str → D → Prop
abbrev ME := Ev → KD → XD → Prop
abbrev MT := Ev → (Bool → Prop) → XD → Prop
abbrev MA := Ev → (List D → Prop) → XD → Prop
abbrev MO := Ev → (Option Int → Prop) → XD → Prop
abbrev SpD := List D → KD → XD → Prop
def Kv (W : Wd) (H : Hp) (Q : VK) (q : KD) : Prop := ∀ W' v d H', Go W H W' H' → Vd W' v d → q d → Q v H'
def Ka (n : Nat) (W : Wd) (H : Hp) (Q : List V → Hp → Prop) (q : List D → Prop) : Prop := ∀ W' vs ds H', Go W H W' H' → VdA W' vs ds → ds.length = n → q ds → Q vs H'
def Kb {α : Type} (W : Wd) (H : Hp) (Q : α → Hp → Prop) (q : α → Prop) : Prop := ∀ W' b H', Go W H W' H' → q b → Q b H'
def Kx (W : Wd) (H : Hp) (E : XK) (e : XD) : Prop := ∀ W' H' C dx f v d, Go W H W' H' → H' dx = some (.xd [(f, v)]) → Vd W' v d → e C f d → E (.ref C) (some dx) H'
section
variable {W W1 : Wd} {H H1 : Hp} {Q : VK} {q : KD} {E : XK} {e : XD}
theorem Kv.go (k : Ok W H) (h : Kv W H Q q) (g : Go W H W1 H1) : Kv W1 H1 Q q := fun W' v d H' g1 => h W' v d H' (g.trans k g1)
theorem Ka.go {n : Nat} {Q : List V → Hp → Prop} {q : List D → Prop} (k : Ok W H) (h : Ka n W H Q q) (g : Go W H W1 H1) : Ka n W1 H1 Q q := fun W' v d H' g1 => h W' v d H' (g.trans k g1)
theorem Kb.go {α : Type} {Q : α → Hp → Prop} {q : α → Prop} (k : Ok W H) (h : Kb W H Q q) (g : Go W H W1 H1) : Kb W1 H1 Q q := fun W' b H' g1 => h W' b H' (g.trans k g1)
theorem Kx.go (k : Ok W H) (h : Kx W H E e) (g : Go W H W1 H1) : Kx W1 H1 E e := fun W' H' C dx f v d g1 => h W' H' C dx f v d (g.trans k g1)
end
def SimE (E : XK) (te : TE) (m : ME) : Prop := ∀ W H0 H σ ρ Q q e, Rep W H0 H σ ρ → m ρ q e → Kv W H Q q → Kx W H E e → te σ H Q
def SimT (E : XK) (tt : TT) (m : MT) : Prop := ∀ W H0 H σ ρ Q q e, Rep W H0 H σ ρ → m ρ q e → Kb W H Q q → Kx W H E e → tt σ H Q
def SimA (E : XK) (n : Nat) (ta : TA) (m : MA) : Prop := ∀ W H0 H σ ρ Q q e, Rep W H0 H σ ρ → m ρ q e → Ka n W H Q q → Kx W H E e → ta σ H Q
def SimO (E : XK) (to : TO) (m : MO) : Prop := ∀ W H0 H σ ρ Q q e, Rep W H0 H σ ρ → m ρ q e → Kb W H Q q → Kx W H E e → to σ H Q
def SimR (r : R2) (f : D → D → KD → Prop) : Prop := ∀ W H x y dx dy Q q, Ok W H → Vd W x dx → Vd W y dy → f dx dy q → Kv W H Q q → r x y H Q
def SimC (r : List V → Hp → VK → Prop) (f : List D → KD → Prop) : Prop := ∀ W H xs ds Q q, Ok W H → VdA W xs ds → f ds q → Kv W H Q q → r xs H Q
abbrev mVar (i : Nat) : ME := fun ρ q _ => ∃ d, ρ[i]? = some (some (.d d)) ∧ q d
abbrev mC (d : D) : ME := fun _ q _ => q d
abbrev mOp (f : D → D → KD → Prop) (a b : ME) : ME := fun ρ q e => a ρ (fun x => b ρ (fun y => f x y q) e) e
abbrev mNil : MA := fun _ q _ => q []
abbrev mCons (a : ME) (r : MA) : MA := fun ρ q e => a ρ (fun x => r ρ (fun xs => q (x :: xs)) e) e
abbrev mTup (a : MA) : ME := fun ρ q e => a ρ (fun ds => ds.length ≤ sizeLine ∧ q (.tup ds)) e
abbrev mLst (a : MA) : ME := fun ρ q e => a ρ (fun ds => ds.length ≤ sizeLine ∧ q (.lst ds)) e
abbrev mCB (f : List D → KD → Prop) (a : MA) : ME := fun ρ q e => a ρ (fun ds => f ds q) e
abbrev mBoo (a : ME) : MT := fun ρ q e => a ρ (fun x => ∃ c, x = .bl c ∧ q c) e
abbrev mAnd (a b : MT) : MT := fun ρ q e => a ρ (fun c => if c = true then b ρ q e else q false) e
abbrev mOr (a b : MT) : MT := fun ρ q e => a ρ (fun c => if c = true then q true else b ρ q e) e
abbrev mNot (a : MT) : MT := fun ρ q e => a ρ (fun c => q (!c)) e
abbrev mAndV (a b : ME) : ME := fun ρ q e => a ρ (fun x => ∃ c, x = .bl c ∧ if c = true then b ρ q e else q (.bl false)) e
abbrev mNotV (a : ME) : ME := fun ρ q e => a ρ (fun x => ∃ c, x = .bl c ∧ q (.bl (!c))) e
abbrev mDef (sp : SpD) (a : MA) : ME := fun ρ q e => a ρ (fun ds => sp ds q e) e
abbrev mNoP : MO := fun _ q _ => q none
abbrev mPart (a : ME) : MO := fun ρ q e => a ρ (fun x => ∃ i, x = .int i ∧ q (some i)) e
abbrev mSl (f : D → Option Int → Option Int → KD → Prop) (a : ME) (l h : MO) : ME := fun ρ q e => a ρ (fun x => l ρ (fun lo => h ρ (fun hi => f x lo hi q) e) e) e
def lookD (f : Str) : List Str → List D → Option D
  | k :: ks, d :: ds => if (f == k) = true then some d else lookD f ks ds
  | _, _ => none
abbrev mFld (C : Addr) (f : Str) (a : ME) : ME := fun ρ q e => a ρ (fun x => ∃ ks ds d, x = .obj C ks ds ∧ lookD f ks ds = some d ∧ q d) e
abbrev mMth (C : Addr) (m : Str) (sp : SpD) (o : ME) (a : MA) : ME := fun ρ q e => o ρ (fun x => ∃ ks ds, x = .obj C ks ds ∧ ks.contains m = false ∧ a ρ (fun es => sp (x :: es) q e) e) e
abbrev mChain (f f' : D → D → KD → Prop) (a b c : ME) : ME := fun ρ q e => a ρ (fun x => b ρ (fun y => f x y fun z => ∃ k, z = .bl k ∧ if k = true then c ρ (fun w => f' y w q) e else q (.bl false)) e) e
def spOf (sp : SpD) : Sp := fun vs H Q E => ∃ W ds q e, Ok W H ∧ VdA W vs ds ∧ sp ds q e ∧ Kv W H Q q ∧ Kx W H E e
section
variable {E : XK} {ta tb tc te : TE} {ma mb mc me : ME} {tt tu : TT} {mt mu : MT} {aa ab : TA} {na nb : MA} {r r' : R2} {f f' : D → D → KD → Prop} {K : PySem.W.Frag} {n n' : Nat}
theorem si_var {i : Nat} : SimE E (tVar i) (mVar i) := fun W H0 H σ ρ Q q e R h k _ => by
  obtain ⟨d, h1, hq⟩ := h
  obtain ⟨v, e1, hv⟩ := R.var h1
  exact ⟨v, e1, k W v d H (.refl R.ok) hv hq⟩
theorem si_int {i : Int} : SimE E (tC (.int i)) (mC (.int i)) := fun W H0 H σ ρ Q q e R h k _ => k W _ _ H (.refl R.ok) (.int i) h
theorem si_bl {b : Bool} : SimE E (tC (.bl b)) (mC (.bl b)) := fun W H0 H σ ρ Q q e R h k _ => k W _ _ H (.refl R.ok) (.bl b) h
theorem si_non : SimE E (tC .non) (mC .non) := fun W H0 H σ ρ Q q e R h k _ => k W _ _ H (.refl R.ok) .non h
theorem si_op (ha : SimE E ta ma) (hb : SimE E tb mb) (hr : SimR r f) : SimE E (tOp r ta tb) (mOp f ma mb) := fun W H0 H σ ρ Q q e R h k kx =>
  ha W H0 H σ ρ _ _ e R h (fun W1 x dx H1 g1 hx h1 => hb W1 H0 H1 σ ρ _ _ e (R.go g1) h1 (fun W2 y dy H2 g2 hy h2 => hr W2 H2 x y dx dy Q q g2.ok (hx.mono g2.le) hy h2 (k.go R.ok (g1.trans R.ok g2))) (kx.go R.ok g1)) kx
theorem si_nil : SimA E 0 tNil mNil := fun W H0 H σ ρ Q q e R h k _ => k W _ _ H (.refl R.ok) .nil rfl h
theorem si_cons (ha : SimE E ta ma) (hr : SimA E n aa na) : SimA E (n + 1) (tCons ta aa) (mCons ma na) := fun W H0 H σ ρ Q q e R h k kx =>
  ha W H0 H σ ρ _ _ e R h (fun W1 x dx H1 g1 hx h1 => hr W1 H0 H1 σ ρ _ _ e (R.go g1) h1 (fun W2 xs ds H2 g2 hy hl h2 => k W2 _ _ H2 (g1.trans R.ok g2) (.cons (hx.mono g2.le) hy) (by rw [List.length_cons, hl]) h2) (kx.go R.ok g1)) kx
theorem si_tup (ha : SimA E n aa na) : SimE E (tTup aa) (mTup na) := fun W H0 H σ ρ Q q e R h k kx =>
  ha W H0 H σ ρ _ _ e R h (fun W1 xs ds H1 g1 hx hl1 h1 => ⟨by rw [hx.length]; exact h1.1, fun p hp => k _ _ _ _ (g1.trans R.ok (.put g1.ok hp)) (.tup (upd_same (H := W1.F)) (hx.mono (Go.put g1.ok hp).le)) h1.2⟩) kx
theorem si_lst (ha : SimA E n aa na) : SimE E (tLst aa) (mLst na) := fun W H0 H σ ρ Q q e R h k kx =>
  ha W H0 H σ ρ _ _ e R h (fun W1 xs ds H1 g1 hx hl1 h1 => ⟨by rw [hx.length]; exact h1.1, fun p hp => k _ _ _ _ (g1.trans R.ok (.put g1.ok hp)) (.lst (upd_same (H := W1.F)) (hx.mono (Go.put g1.ok hp).le)) h1.2⟩) kx
theorem si_cb {r : List V → Hp → VK → Prop} {f : List D → KD → Prop} (ha : SimA E n aa na) (hr : SimC r f) : SimE E (tCB r aa) (mCB f na) := fun W H0 H σ ρ Q q e R h k kx =>
  ha W H0 H σ ρ _ _ e R h (fun W1 xs ds H1 g1 hx hl1 h1 => hr W1 H1 xs ds Q q g1.ok hx h1 (k.go R.ok g1)) kx
theorem bl_of {W : Wd} {v : V} {d : D} {c : Bool} (h : Vd W v d) (e : d = .bl c) : v = .bl c := by subst e; cases h; rfl
theorem int_of {W : Wd} {v : V} {d : D} {i : Int} (h : Vd W v d) (e : d = .int i) : v = .int i := by subst e; cases h; rfl
theorem tup_of {W : Wd} {H : Hp} {v : V} {d : D} {ds : List D} (k : Ok W H) (h : Vd W v d) (e : d = .tup ds) : ∃ a vs, v = .ref a ∧ W.F a = some (.tup vs) ∧ H a = some (.tup vs) ∧ VdA W vs ds := by subst e; cases h with | tup h t => exact ⟨_, _, rfl, h, k.f _ _ h, t⟩
theorem lst_of {W : Wd} {H : Hp} {v : V} {d : D} {ds : List D} (k : Ok W H) (h : Vd W v d) (e : d = .lst ds) : ∃ a vs, v = .ref a ∧ W.F a = some (.lst vs) ∧ H a = some (.lst vs) ∧ VdA W vs ds := by subst e; cases h with | lst h t => exact ⟨_, _, rfl, h, k.f _ _ h, t⟩
theorem obj_of {W : Wd} {H : Hp} {v : V} {d : D} {C : Addr} {ks : List Str} {ds : List D} (k : Ok W H) (h : Vd W v d) (e : d = .obj C ks ds) : ∃ a dx vs, v = .ref a ∧ H a = some (.ins C dx (ks.zip vs)) ∧ ks.length = vs.length ∧ VdA W vs ds := by subst e; cases h with | obj h l t => exact ⟨_, _, _, rfl, k.f _ _ h, l, t⟩
theorem si_test (ha : SimE E ta ma) : SimT E (tTest ta) (mBoo ma) := fun W H0 H σ ρ Q q e R h k kx =>
  ha W H0 H σ ρ _ _ e R h (fun W1 x dx H1 g1 hx h1 => by obtain ⟨c, e1, h1⟩ := h1; exact ⟨c, bl_of hx e1, k W1 c H1 g1 h1⟩) kx
theorem si_B (ha : SimE E ta ma) : SimT E (tB ta) (mBoo ma) := fun W H0 H σ ρ Q q e R h k kx =>
  ha W H0 H σ ρ _ _ e R h (fun W1 x dx H1 g1 hx h1 => by obtain ⟨c, e1, h1⟩ := h1; exact ⟨c, bl_of hx e1, k W1 c H1 g1 h1⟩) kx
theorem si_and (ha : SimT E tt mt) (hb : SimT E tu mu) : SimT E (tAnd tt tu) (mAnd mt mu) := fun W H0 H σ ρ Q q e R h k kx =>
  ha W H0 H σ ρ _ _ e R h (fun W1 c H1 g1 h1 => by
    cases c with
    | true => exact (hb W1 H0 H1 σ ρ _ _ e (R.go g1) h1 (k.go R.ok g1) (kx.go R.ok g1) : tu σ H1 Q)
    | false => exact (k W1 false H1 g1 h1 : Q false H1)) kx
theorem si_or (ha : SimT E tt mt) (hb : SimT E tu mu) : SimT E (tOr tt tu) (mOr mt mu) := fun W H0 H σ ρ Q q e R h k kx =>
  ha W H0 H σ ρ _ _ e R h (fun W1 c H1 g1 h1 => by
    cases c with
    | false => exact (hb W1 H0 H1 σ ρ _ _ e (R.go g1) h1 (k.go R.ok g1) (kx.go R.ok g1) : tu σ H1 Q)
    | true => exact (k W1 true H1 g1 h1 : Q true H1)) kx
theorem si_not (ha : SimT E tt mt) : SimT E (tNot tt) (mNot mt) := fun W H0 H σ ρ Q q e R h k kx =>
  ha W H0 H σ ρ _ _ e R h (fun W1 c H1 g1 h1 => k W1 _ H1 g1 h1) kx
theorem si_andV (ha : SimE E ta ma) (hb : SimE E tb mb) : SimE E (tAndV ta tb) (mAndV ma mb) := fun W H0 H σ ρ Q q e R h k kx =>
  ha W H0 H σ ρ _ _ e R h (fun W1 x dx H1 g1 hx h1 => by
    obtain ⟨c, e1, h1⟩ := h1
    refine ⟨c, bl_of hx e1, ?_⟩
    cases c with
    | true => exact (hb W1 H0 H1 σ ρ _ _ e (R.go g1) h1 (k.go R.ok g1) (kx.go R.ok g1) : tb σ H1 Q)
    | false => exact (k W1 _ _ H1 g1 (.bl false) h1 : Q (.bl false) H1)) kx
theorem si_notV (ha : SimE E ta ma) : SimE E (tNotV ta) (mNotV ma) := fun W H0 H σ ρ Q q e R h k kx =>
  ha W H0 H σ ρ _ _ e R h (fun W1 x dx H1 g1 hx h1 => by obtain ⟨c, e1, h1⟩ := h1; exact ⟨c, bl_of hx e1, k W1 _ _ H1 g1 (.bl _) h1⟩) kx
theorem si_def {sp : SpD} (ha : SimA E n aa na) : SimE E (tDef (spOf sp) E aa) (mDef sp na) := fun W H0 H σ ρ Q q e R h k kx =>
  ha W H0 H σ ρ _ _ e R h (fun W1 xs ds H1 g1 hx hl1 h1 => ⟨W1, ds, q, e, g1.ok, hx, h1, k.go R.ok g1, kx.go R.ok g1⟩) kx
theorem si_noP : SimO E tNoPart mNoP := fun W H0 H σ ρ Q q e R h k _ => k W _ H (.refl R.ok) h
theorem si_part (ha : SimE E ta ma) : SimO E (tPart ta) (mPart ma) := fun W H0 H σ ρ Q q e R h k kx =>
  ha W H0 H σ ρ _ _ e R h (fun W1 x dx H1 g1 hx h1 => by obtain ⟨c, e1, h1⟩ := h1; exact ⟨c, int_of hx e1, k W1 _ H1 g1 h1⟩) kx
def SimSl (r : V → Option Int → Option Int → Hp → VK → Prop) (f : D → Option Int → Option Int → KD → Prop) : Prop := ∀ W H x dx lo hi Q q, Ok W H → Vd W x dx → f dx lo hi q → Kv W H Q q → r x lo hi H Q
theorem si_sl {r : V → Option Int → Option Int → Hp → VK → Prop} {f : D → Option Int → Option Int → KD → Prop} {tl th : TO} {ml mh : MO} (ha : SimE E ta ma) (hl : SimO E tl ml) (hh : SimO E th mh) (hr : SimSl r f) : SimE E (tSl r ta tl th) (mSl f ma ml mh) := fun W H0 H σ ρ Q q e R h k kx =>
  ha W H0 H σ ρ _ _ e R h (fun W1 x dx H1 g1 hx h1 => hl W1 H0 H1 σ ρ _ _ e (R.go g1) h1 (fun W2 lo H2 g2 h2 => hh W2 H0 H2 σ ρ _ _ e ((R.go g1).go g2) h2 (fun W3 hi H3 g3 h3 =>
    hr W3 H3 x dx lo hi Q q g3.ok ((hx.mono g2.le).mono g3.le) h3 (k.go R.ok ((g1.trans R.ok g2).trans R.ok g3))) (kx.go R.ok (g1.trans R.ok g2))) (kx.go R.ok g1)) kx
theorem look_zip {W : Wd} {f : Str} : ∀ {ks : List Str} {vs : List V} {ds : List D} {d : D}, ks.length = vs.length → VdA W vs ds → lookD f ks ds = some d → ∃ v, (ks.zip vs).lookup f = some v ∧ Vd W v d
  | [], _, _, _, _, _, h => by
    unfold lookD at h
    cases h
  | k :: ks, [], _, _, l, _, _ => by cases l
  | k :: ks, v :: vs, _, d, l, .cons h t, e => by
    unfold lookD at e
    rw [List.zip_cons_cons, List.lookup_cons]
    by_cases z : (f == k) = true
    · rw [if_pos z] at e
      cases e
      rw [z]
      exact ⟨v, rfl, h⟩
    · rw [if_neg z] at e
      have z2 : (f == k) = false := by simpa using z
      rw [z2]
      exact look_zip (by simpa using l) t e
theorem look_no {m : Str} : ∀ {ks : List Str} {vs : List V}, ks.contains m = false → (ks.zip vs).lookup m = none
  | [], _, _ => by simp
  | k :: ks, [], _ => by simp
  | k :: ks, v :: vs, h => by
    rw [List.contains_cons, Bool.or_eq_false_iff] at h
    rw [List.zip_cons_cons, List.lookup_cons, h.1]
    exact look_no h.2
theorem si_fld {C : Addr} {x : Str} (cl : Cls K C) (na : NoAttr K C x) (ha : SimE E ta ma) : SimE E (tFld K ta x) (mFld C x ma) := fun W H0 H σ ρ Q q e R h k kx =>
  ha W H0 H σ ρ _ _ e R h (fun W1 v dx H1 g1 hx h1 => by
    obtain ⟨ks, ds, d, e1, e2, h1⟩ := h1
    obtain ⟨a, dx, vs, e3, e4, l, t⟩ := obj_of g1.ok hx e1
    obtain ⟨u, e5, hu⟩ := look_zip l t e2
    exact ⟨a, C, dx, _, u, e3, e4, cl, na, e5, k W1 u d H1 g1 hu h1⟩) kx
theorem si_mth {C : Addr} {m : Str} {sp : SpD} (ho : SimE E ta ma) (ha : SimA E n aa na) : SimE E (tMth C m (spOf sp) E ta aa) (mMth C m sp ma na) := fun W H0 H σ ρ Q q e R h k kx =>
  ho W H0 H σ ρ _ _ e R h (fun W1 v d H1 g1 hx h1 => by
    obtain ⟨ks, ds, e1, e2, h1⟩ := h1
    obtain ⟨a, dx, vs, e3, e4, l, t⟩ := obj_of g1.ok hx e1
    exact ⟨a, dx, _, e3, e4, look_no e2, ha W1 H0 H1 σ ρ _ _ e (R.go g1) h1 (fun W2 xs es H2 g2 hy _ h2 => ⟨W2, d :: es, q, e, g2.ok, .cons (hx.mono g2.le) hy, h2, k.go R.ok (g1.trans R.ok g2), kx.go R.ok (g1.trans R.ok g2)⟩) (kx.go R.ok g1)⟩) kx
theorem si_chain (ha : SimE E ta ma) (hb : SimE E tb mb) (hc : SimE E tc mc) (hr : SimR r f) (hr' : SimR r' f') : SimE E (tChain r r' ta tb tc) (mChain f f' ma mb mc) := fun W H0 H σ ρ Q q e R h k kx =>
  ha W H0 H σ ρ _ _ e R h (fun W1 x dx H1 g1 hx h1 => hb W1 H0 H1 σ ρ _ _ e (R.go g1) h1 (fun W2 y dy H2 g2 hy h2 => hr W2 H2 x y dx dy _ _ g2.ok (hx.mono g2.le) hy h2 (fun W3 z dz H3 g3 hz h3 => by
    obtain ⟨c, e1, h3⟩ := h3
    refine ⟨c, bl_of hz e1, ?_⟩
    have g := (g1.trans R.ok g2).trans R.ok g3
    cases c with
    | true => exact (hc W3 H0 H3 σ ρ _ _ e (R.go g) h3 (fun W4 w dw H4 g4 hw h4 => hr' W4 H4 y w dy dw Q q g4.ok ((hy.mono g3.le).mono g4.le) hw h4 (k.go R.ok (g.trans R.ok g4))) (kx.go R.ok g) : tc σ H3 _)
    | false => exact (k W3 _ _ H3 g (.bl false) h3 : Q (.bl false) H3))) (kx.go R.ok g1)) kx
end
end Dt
set_option Elab.async false
set_option linter.all false
set_option maxRecDepth 100000
set_option maxHeartbeats 4000000
namespace Dt
open PySem PySem.Spec PyProof.Rows L2 Com
variable [Dt.Tb]
structure EndsD where
  nx : Ev → Prop
  rt : D → Prop
  bk : Ev → Prop
  ct : Ev → Prop
abbrev MS := EndsD → Ev → XD → Prop
abbrev MG := D → Ev → (Ev → Prop) → Prop
abbrev MGs := List D → Ev → (Ev → Prop) → Prop
abbrev MI := Ev → (List D → Prop) → XD → Prop
/-- what follows, from a start (W0, H0), the world being at least W -/
def Cn (W0 : Wd) (H0 : Hp) (W : Wd) (n : L2.St → Hp → Prop) (m : Ev → Prop) : Prop := ∀ W' H' σ' ρ', Le W W' → Go W0 H0 W' H' → Rep W' H0 H' σ' ρ' → m ρ' → n σ' H'
structure Ct (W0 : Wd) (H0 : Hp) (W : Wd) (D : Ends) (d : EndsD) : Prop where
  nx : Cn W0 H0 W D.nx d.nx
  rt : ∀ W' H' v x, Le W W' → Go W0 H0 W' H' → Vd W' v x → d.rt x → D.rt v H'
  bk : Cn W0 H0 W D.bk d.bk
  ct : Cn W0 H0 W D.ct d.ct
theorem Cn.up {W0 W W1 : Wd} {H0 : Hp} {n : L2.St → Hp → Prop} {m : Ev → Prop} (h : Cn W0 H0 W n m) (l : Le W W1) : Cn W0 H0 W1 n m := fun W' H' σ' ρ' l1 => h W' H' σ' ρ' (l.trans l1)
theorem Ct.up {W0 W W1 : Wd} {H0 : Hp} {D : Ends} {d : EndsD} (h : Ct W0 H0 W D d) (l : Le W W1) : Ct W0 H0 W1 D d := ⟨h.nx.up l, fun W' H' v x l1 => h.rt W' H' v x (l.trans l1), h.bk.up l, h.ct.up l⟩
def SimS (E : XK) (ts : TS) (m : MS) : Prop := ∀ W0 H0 W H σ ρ D d e, Ok W0 H0 → Go W0 H0 W H → Rep W H0 H σ ρ → m d ρ e → Ct W0 H0 W D d → Kx W0 H0 E e → ts D σ H
def SimG (g : TG) (m : MG) (is : List Nat) : Prop := ∀ W H0 H v d σ ρ (Q : L2.St → Hp → Prop) (q : Ev → Prop), Rep W H0 H σ ρ → Vd W v d → m d ρ q → (∀ σ' ρ', Rep W H0 H σ' ρ' → (∀ vs : List Nat, (∀ i ∈ is, i ∈ vs) → wipe σ' vs = wipe σ vs) → (NoOwn ρ → NoOwn ρ') → q ρ' → Q σ' H) → g v σ H Q
def SimGs (g : TGs) (m : MGs) (is : List Nat) : Prop := ∀ W H0 H vs ds σ ρ (Q : L2.St → Hp → Prop) (q : Ev → Prop), Rep W H0 H σ ρ → VdA W vs ds → m ds ρ q → (∀ σ' ρ', Rep W H0 H σ' ρ' → (∀ vs : List Nat, (∀ i ∈ is, i ∈ vs) → wipe σ' vs = wipe σ vs) → (NoOwn ρ → NoOwn ρ') → q ρ' → Q σ' H) → g vs σ H Q
/-- it walks the data xs -/
def ItD (W : Wd) (J : It) (xs : List D) : Prop := ∀ i W1 H1, Le W W1 → Ok W1 H1 → (∀ d, xs[i]? = some d → J.go i H1 ∧ ∀ v H2, J.yld i H1 v H2 → ∃ W2, Go W1 H1 W2 H2 ∧ Vd W2 v d) ∧ (xs.length ≤ i → J.stop i H1)
def SimI (E : XK) (ti : TI) (m : MI) : Prop := ∀ W H0 H σ ρ R q e, Rep W H0 H σ ρ → m ρ q e → (∀ W' J xs H', Go W H W' H' → ItD W' J xs → q xs → R J H') → Kx W H E e → ti σ H R
theorem wipe_set {σ : L2.St} {i : Nat} {o : Option V} : ∀ vs : List Nat, wipe (σ.set i o) vs = if i ∈ vs then wipe σ vs else (wipe σ vs).set i o
  | [] => by rw [if_neg (by simp)]; rfl
  | v :: vs => by
    show (wipe (σ.set i o) vs).set v none = _
    rw [wipe_set vs]
    show _ = if i ∈ v :: vs then (wipe σ vs).set v none else ((wipe σ vs).set v none).set i o
    by_cases h : i ∈ vs
    · rw [if_pos h, if_pos (List.mem_cons_of_mem _ h)]
    · rw [if_neg h]
      by_cases e : i = v
      · subst e
        rw [if_pos (by simp), List.set_set]
      · rw [if_neg (by simp [e, h]), List.set_comm _ _ e]
theorem wipe_in {σ : L2.St} {i : Nat} {o : Option V} {vs : List Nat} (h : i ∈ vs) : wipe (σ.set i o) vs = wipe σ vs := by rw [wipe_set, if_pos h]
theorem wipe_two {σ : L2.St} : ∀ {vs us : List Nat}, (∀ i ∈ us, i ∈ vs) → wipe (wipe σ us) vs = wipe σ vs
  | vs, [], _ => rfl
  | vs, u :: us, h => by
    show wipe ((wipe σ us).set u none) vs = _
    rw [wipe_in (h u (by simp)), wipe_two fun i hi => h i (List.mem_cons_of_mem _ hi)]
abbrev mgN (i : Nat) : MG := fun d ρ q => q (ρ.set i (some (.d d)))
abbrev mgNil : MGs := fun ds ρ q => ds = [] ∧ q ρ
abbrev mgCons (m : MG) (r : MGs) : MGs := fun ds ρ q => ∃ d es, ds = d :: es ∧ m d ρ fun ρ' => r es ρ' q
abbrev mgT (n : Nat) (r : MGs) : MG := fun d ρ q => ∃ ds, d = .tup ds ∧ ds.length = n ∧ r ds ρ q
section
variable {E : XK} {K : PySem.W.Frag} {is js : List Nat} {g : TG} {gs : TGs} {mg : MG} {mgs : MGs} {te : TE} {me : ME} {tt : TT} {mt : MT} {ta : TA} {ma : MA} {ti : TI} {mi : MI} {ts tu : TS} {ms mu : MS} {n : Nat}
theorem sg_name {i : Nat} : SimG (gName i) (mgN i) [i] := fun W H0 H v d σ ρ Q q R hv h k => k _ _ (R.set hv) (fun vs hvs => wipe_in (hvs i (by simp))) (fun n => n.set) h
theorem sg_nil : SimGs gNil mgNil [] := fun W H0 H vs ds σ ρ Q q R hv h k => by
  obtain ⟨rfl, h⟩ := h
  cases hv
  exact ⟨rfl, k _ _ R (fun _ _ => rfl) (fun n => n) h⟩
theorem sg_cons (h1 : SimG g mg is) (h2 : SimGs gs mgs js) : SimGs (gCons g gs) (mgCons mg mgs) (is ++ js) := fun W H0 H vs ds σ ρ Q q R hv h k => by
  obtain ⟨d, es, rfl, h⟩ := h
  cases hv with
  | cons hd ht => exact ⟨_, _, rfl, h1 W H0 H _ d σ ρ _ _ R hd h fun σ' ρ' R' w' n' h' => h2 W H0 H _ es σ' ρ' Q q R' ht h' fun σ2 ρ2 R2 w2 n2 h2 => k σ2 ρ2 R2 (fun us hus => by rw [w2 us (fun i hi => hus i (by simp [hi])), w' us (fun i hi => hus i (by simp [hi]))]) (fun n => n2 (n' n)) h2⟩
theorem sg_tup {n : Nat} (h2 : SimGs gs mgs js) : SimG (gTup K n gs) (mgT n mgs) js := fun W H0 H v d σ ρ Q q R hv h k => by
  obtain ⟨ds, rfl, hl, h⟩ := h
  obtain ⟨a, vs, e, _, ha, t⟩ := tup_of R.ok hv rfl
  exact ⟨a, vs, e, SqT.of ha, by rw [t.length, hl], h2 W H0 H vs ds σ ρ Q q R t h k⟩
abbrev mSeq (a : ME) : MI := fun ρ q e => a ρ (fun x => ∃ xs, (x = .tup xs ∨ x = .lst xs) ∧ q xs) e
abbrev mRng1 (a : MA) : MI := fun ρ q e => a ρ (fun ds => ∃ n : Int, ds = [.int n] ∧ n ≤ 1000000 ∧ -1000000 ≤ n ∧ q ((List.range n.toNat).map fun (i : Nat) => .int (i : Int))) e
abbrev mRng2 (a : MA) : MI := fun ρ q e => a ρ (fun ds => ∃ l n : Int, ds = [.int l, .int n] ∧ (l ≤ 1000000 ∧ -1000000 ≤ l ∧ n ≤ 1000000 ∧ -1000000 ≤ n) ∧ q ((List.range (n - l).toNat).map fun (i : Nat) => .int (l + (i : Int)))) e
theorem it_list {W : Wd} {a : Addr} {vs : List V} {xs : List D} (h : W.F a = some (.lst vs)) (t : VdA W vs xs) : ItD W (Itl K a) xs := fun i W1 H1 l k => by
  have h1 : SqL K H1 a vs := SqL.of (k.f _ _ (l.f _ _ h))
  refine ⟨fun d hd => ?_, fun hl => ⟨vs, h1, by rw [t.length]; exact hl⟩⟩
  obtain ⟨v, hv, r⟩ := t.get' hd
  refine ⟨⟨vs, v, h1, hv⟩, fun u H2 y => ?_⟩
  obtain ⟨rfl, y⟩ := y
  have := y vs h1
  rw [hv] at this
  cases this
  exact ⟨W1, .refl k, r.mono l⟩
theorem it_tup {W : Wd} {a : Addr} {vs : List V} {xs : List D} (h : W.F a = some (.tup vs)) (t : VdA W vs xs) : ItD W (Itt K a) xs := fun i W1 H1 l k => by
  have h1 : SqT K H1 a vs := SqT.of (k.f _ _ (l.f _ _ h))
  refine ⟨fun d hd => ?_, fun hl => ⟨vs, h1, by rw [t.length]; exact hl⟩⟩
  obtain ⟨v, hv, r⟩ := t.get' hd
  refine ⟨⟨vs, v, h1, hv⟩, fun u H2 y => ?_⟩
  obtain ⟨rfl, y⟩ := y
  have := y vs h1
  rw [hv] at this
  cases this
  exact ⟨W1, .refl k, r.mono l⟩
theorem it_rng {W : Wd} {lo : Int} {n : Nat} : ItD W (Itr lo n) ((List.range n).map fun (i : Nat) => .int (lo + (i : Int))) := fun i W1 H1 l k => by
  refine ⟨fun d hd => ?_, fun hl => (show n ≤ i by simpa using hl)⟩
  rw [List.getElem?_map] at hd
  cases e : (List.range n)[i]? with
  | none =>
    rw [e] at hd
    cases hd
  | some j =>
    rw [e] at hd
    cases hd
    have hi := (List.getElem?_eq_some_iff.mp e).1
    have hj := (List.getElem?_eq_some_iff.mp e).2
    rw [List.getElem_range] at hj
    subst hj
    refine ⟨(show i < n by simpa using hi), fun v H2 y => ?_⟩
    obtain ⟨rfl, rfl⟩ := y
    exact ⟨W1, .refl k, .int _⟩
theorem si_seq (ha : SimE E te me) : SimI E (Gn.iSeq K te) (mSeq me) := fun W H0 H σ ρ R q e Rp h k kx =>
  ha W H0 H σ ρ _ _ e Rp h (fun W1 v d H1 g1 hv h1 => by
    obtain ⟨xs, e1, h1⟩ := h1
    rcases e1 with e1 | e1
    · obtain ⟨a, vs, e2, f, hh, t⟩ := tup_of g1.ok hv e1
      exact ⟨a, e2, .inr ⟨vs, SqT.of hh, k W1 _ xs H1 g1 (it_tup f t) h1⟩⟩
    · obtain ⟨a, vs, e2, f, hh, t⟩ := lst_of g1.ok hv e1
      exact ⟨a, e2, .inl ⟨vs, SqL.of hh, k W1 _ xs H1 g1 (it_list f t) h1⟩⟩) kx
theorem si_rng1 (ha : SimA E n ta ma) : SimI E (iRng1 ta) (mRng1 ma) := fun W H0 H σ ρ R q e Rp h k kx =>
  ha W H0 H σ ρ _ _ e Rp h (fun W1 vs ds H1 g1 hv _ h1 => by
    obtain ⟨n, rfl, b1, b2, h1⟩ := h1
    have := hv.of_ints (ns := [n])
    refine ⟨n, this, by omega, by omega, k W1 _ _ H1 g1 it_rng ?_⟩
    have e : ((List.range n.toNat).map fun (i : Nat) => D.int (0 + (i : Int))) = (List.range n.toNat).map fun (i : Nat) => D.int (i : Int) := by
      congr 1
      funext i
      rw [Int.zero_add]
    rw [e]
    exact h1) kx
theorem si_rng2 (ha : SimA E n ta ma) : SimI E (iRng2 ta) (mRng2 ma) := fun W H0 H σ ρ R q e Rp h k kx =>
  ha W H0 H σ ρ _ _ e Rp h (fun W1 vs ds H1 g1 hv _ h1 => by
    obtain ⟨l, n, rfl, ⟨b1, b2, b3, b4⟩, h1⟩ := h1
    have := hv.of_ints (ns := [l, n])
    exact ⟨l, n, this, by omega, k W1 _ _ H1 g1 it_rng h1⟩) kx
abbrev msNx : MS := fun d ρ _ => d.nx ρ
abbrev msNever : MS := fun _ _ _ => False
abbrev msSeq (a b : MS) : MS := fun d ρ e => a { d with nx := fun ρ' => b d ρ' e } ρ e
abbrev msIf (t : MT) (a b : MS) : MS := fun d ρ e => t ρ (fun c => if c = true then a d ρ e else b d ρ e) e
abbrev msRet (a : ME) : MS := fun d ρ e => a ρ d.rt e
abbrev msExp (a : ME) : MS := fun d ρ e => a ρ (fun _ => d.nx ρ) e
abbrev msAsg (a : ME) (g : MG) : MS := fun d ρ e => a ρ (fun x => g x ρ d.nx) e
abbrev msPar (i j : Nat) (a : MA) : MS := fun d ρ e => a ρ (fun ds => ∃ x y, ds = [x, y] ∧ d.nx ((ρ.set i (some (.d x))).set j (some (.d y)))) e
def msLoop (g : MG) (b : MS) : List D → MS
  | [] => fun d ρ _ => d.nx ρ
  | x :: xs => fun d ρ e => g x ρ fun ρ' => b { nx := fun ρ2 => msLoop g b xs d ρ2 e, rt := d.rt, bk := d.nx, ct := fun ρ2 => msLoop g b xs d ρ2 e } ρ' e
abbrev msFor (i : MI) (g : MG) (b : MS) : MS := fun d ρ e => i ρ (fun xs => msLoop g b xs d ρ e) e
theorem ss_nx : SimS E tNext msNx := fun W0 H0 W H σ ρ D d e k0 g R h c _ => c.nx W H σ ρ (.refl W) g R h
theorem ss_never : SimS E tNever msNever := fun W0 H0 W H σ ρ D d e k0 g R h c _ => h.elim
theorem ss_seq (h1 : SimS E ts ms) (h2 : SimS E tu mu) : SimS E (tSeq ts tu) (msSeq ms mu) := fun W0 H0 W H σ ρ D d e k0 g R h c kx =>
  h1 W0 H0 W H σ ρ _ _ e k0 g R h ⟨fun W' H' σ' ρ' l g' R' h' => h2 W0 H0 W' H' σ' ρ' D d e k0 g' R' h' (c.up l) kx, c.rt, c.bk, c.ct⟩ kx
theorem ss_if (ht : SimT E tt mt) (h1 : SimS E ts ms) (h2 : SimS E tu mu) : SimS E (tIfS tt ts tu) (msIf mt ms mu) := fun W0 H0 W H σ ρ D d e k0 g R h c kx =>
  ht W H0 H σ ρ _ _ e R h (fun W1 b H1 g1 hb => by
    cases b with
    | true => exact (h1 W0 H0 W1 H1 σ ρ D d e k0 (g.trans k0 g1) (R.go g1) hb (c.up g1.le) kx : ts D σ H1)
    | false => exact (h2 W0 H0 W1 H1 σ ρ D d e k0 (g.trans k0 g1) (R.go g1) hb (c.up g1.le) kx : tu D σ H1)) (kx.go k0 g)
theorem ss_ret (ha : SimE E te me) : SimS E (tRet te) (msRet me) := fun W0 H0 W H σ ρ D d e k0 g R h c kx =>
  ha W H0 H σ ρ _ _ e R h (fun W1 v x H1 g1 hv h1 => c.rt W1 H1 v x g1.le (g.trans k0 g1) hv h1) (kx.go k0 g)
theorem ss_exp (ha : SimE E te me) : SimS E (tDrop te) (msExp me) := fun W0 H0 W H σ ρ D d e k0 g R h c kx =>
  ha W H0 H σ ρ _ _ e R h (fun W1 v x H1 g1 hv h1 => c.nx W1 H1 σ ρ g1.le (g.trans k0 g1) (R.go g1) h1) (kx.go k0 g)
theorem ss_asg (ha : SimE E te me) (hg : SimG g mg is) : SimS E (tAsg te g) (msAsg me mg) := fun W0 H0 W H σ ρ D d e k0 g R h c kx =>
  ha W H0 H σ ρ _ _ e R h (fun W1 v x H1 g1 hv h1 => hg W1 H0 H1 v x σ ρ _ _ (R.go g1) hv h1 fun σ' ρ' R' _ _ h' => c.nx W1 H1 σ' ρ' g1.le (g.trans k0 g1) R' h') (kx.go k0 g)
theorem ss_par {i j : Nat} (ha : SimA E n ta ma) : SimS E (tPar i j ta) (msPar i j ma) := fun W0 H0 W H σ ρ D d e k0 g R h c kx =>
  ha W H0 H σ ρ _ _ e R h (fun W1 vs ds H1 g1 hv _ h1 => by
    obtain ⟨x, y, rfl, h1⟩ := h1
    cases hv with
    | cons a t =>
      cases t with
      | cons b t =>
        cases t
        exact ⟨_, _, rfl, c.nx W1 H1 _ _ g1.le (g.trans k0 g1) (((R.go g1).set a).set b) h1⟩) (kx.go k0 g)
/-- op= on values -/
def SimIp (t : TIp) (f : D → D → KD → Prop) : Prop := ∀ W H x y dx dy Q q, Ok W H → Vd W x dx → Vd W y dy → f dx dy q → Kv W H Q q → t x y H Q
theorem ss_for (hi : SimI E ti mi) (hg : SimG g mg is) (hb : SimS E ts ms) : SimS E (tFor ti g ts) (msFor mi mg ms) := fun W0 H0 W H σ ρ D d e k0 g0 R h c kx =>
  hi W H0 H σ ρ _ _ e R h (fun W1 J xs H1 g1 hJ h1 => by
    refine ⟨fun i m σ H => m = xs.length - i ∧ i ≤ xs.length ∧ ∃ W2 ρ, Le W1 W2 ∧ Go W0 H0 W2 H ∧ Rep W2 H0 H σ ρ ∧ msLoop mg ms (xs.drop i) d ρ e, ⟨xs.length, by simp, Nat.zero_le _, W1, ρ, .refl W1, g0.trans k0 g1, R.go g1, h1⟩, ?_⟩
    rintro i m σ2 H2 ⟨rfl, hi, W2, ρ2, l2, g2, R2, h2⟩
    by_cases hlt : i < xs.length
    · rw [List.drop_eq_getElem_cons hlt] at h2
      obtain ⟨j1, j2⟩ := (hJ i W2 H2 l2 R2.ok).1 xs[i] (List.getElem?_eq_getElem hlt)
      refine .inr ⟨j1, fun σ3 H3 => ∃ W3 ρ3, Le W1 W3 ∧ Go W0 H0 W3 H3 ∧ Rep W3 H0 H3 σ3 ρ3 ∧ msLoop mg ms (xs.drop (i + 1)) d ρ3 e, fun σ3 H3 ⟨W3, ρ3, z⟩ => ⟨xs.length - (i + 1), by omega, rfl, hlt, W3, ρ3, z⟩, fun v H3 y => ?_⟩
      obtain ⟨W3, g3, hv⟩ := j2 v H3 y
      refine hg W3 H0 H3 v xs[i] σ2 ρ2 _ _ (R2.go g3) hv h2 fun σ4 ρ4 R4 _ _ h4 => ?_
      have l3 := (g1.le.trans l2).trans g3.le
      exact hb W0 H0 W3 H3 σ4 ρ4 _ _ e k0 (g2.trans k0 g3) R4 h4 ⟨fun W5 H5 σ5 ρ5 l5 g5 R5 h5 => ⟨W5, ρ5, (l2.trans g3.le).trans l5, g5, R5, h5⟩, fun W5 H5 v x l5 => c.rt W5 H5 v x (l3.trans l5), c.nx.up l3, fun W5 H5 σ5 ρ5 l5 g5 R5 h5 => ⟨W5, ρ5, (l2.trans g3.le).trans l5, g5, R5, h5⟩⟩ kx
    · have e1 : i = xs.length := by omega
      subst e1
      rw [List.drop_length] at h2
      exact .inl ⟨(hJ xs.length W2 H2 l2 R2.ok).2 (Nat.le_refl _), c.nx W2 H2 σ2 ρ2 (g1.le.trans l2) g2 R2 h2⟩) (kx.go k0 g0)
def mLcL (g : MG) (t : MT) (x : ME) (vs : List Nat) (ρ : Ev) (e : XD) : List D → List D → (List D → Prop) → Prop
  | [], acc, q => q acc
  | d :: ds, acc, q => g d (wipeD ρ vs) fun ρ2 => t ρ2 (fun b => if b = true then x ρ2 (fun y => acc.length < sizeLine ∧ mLcL g t x vs ρ e ds (acc ++ [y]) q) e else mLcL g t x vs ρ e ds acc q) e
abbrev mLcN (i : MI) (g : MG) (t : MT) (x : ME) (vs : List Nat) : Ev → (List D → Prop) → XD → Prop := fun ρ q e => i ρ (fun xs => mLcL g t x vs ρ e xs [] q) e
abbrev mLc (i : MI) (g : MG) (t : MT) (x : ME) (vs : List Nat) : ME := fun ρ q e => mLcN i g t x vs ρ (fun ds => q (.lst ds)) e
abbrev mYes : MT := fun _ q _ => q true
theorem si_yes : SimT E tYes mYes := fun W H0 H σ ρ Q q e R h k _ => k W _ H (.refl R.ok) h
/-- a new list comes -/
def Kn (W : Wd) (H : Hp) (Q : VK) (q : List D → Prop) : Prop := ∀ W' H' p vs ds, Go W H W' H' → H p = none → H' p = some (.lst vs) → W'.F p = none → ¬ W'.G p → VdA W' vs ds → q ds → Q (.ref p) H'
def SimN (E : XK) (te : TE) (m : MA) : Prop := ∀ W H0 H σ ρ Q q e, Rep W H0 H σ ρ → m ρ q e → Kn W H Q q → Kx W H E e → te σ H Q
theorem kn_of {W : Wd} {H : Hp} {Q : VK} {q : KD} (k0 : Ok W H) (k : Kv W H Q q) : Kn W H Q fun ds => q (.lst ds) := fun W' H' p vs ds g hp e f n t h => by
  obtain ⟨g2, l2⟩ := g.freeze hp f n e
  exact k _ _ _ H' g2 (.lst (upd_same (H := W'.F)) (t.mono l2)) h
theorem si_new (h : SimN E te ma) : SimE E te (fun ρ q e => ma ρ (fun ds => q (.lst ds)) e) := fun W H0 H σ ρ Q q e R hm k kx => h W H0 H σ ρ Q _ e R hm (kn_of R.ok k) kx
theorem sn_lc {vs : List Nat} {tx : TE} {mx : ME} (hi : SimI E ti mi) (hg : SimG g mg is) (ht : SimT E tt mt) (hx : SimE E tx mx) (hs : ∀ i ∈ is, i ∈ vs) : SimN E (tLc ti g tt tx vs) (mLcN mi mg mt mx vs) := fun W H0 H σ ρ Q q e R h k kx =>
  hi W H0 H σ ρ _ _ e R h (fun W1 J xs H1 g1 hJ h1 Da hD => by
    have nD := g1.ok.no hD
    have g0 := Go.own (o := .lst []) g1.ok hD
    refine ⟨fun i m H2 => m = xs.length - i ∧ i ≤ xs.length ∧ ∃ W2 us acc, Go W1 H1 W2 H2 ∧ H2 Da = some (.lst us) ∧ VdA W2 us acc ∧ W2.F Da = none ∧ ¬ W2.G Da ∧ mLcL mg mt mx vs ρ e (xs.drop i) acc q, ⟨xs.length, by simp, Nat.zero_le _, W1, [], [], g0, upd_same, .nil, nD.1, nD.2, h1⟩, ?_⟩
    rintro i m H2 ⟨rfl, hi, W2, us, acc, g2, e2, t2, f2, n2, h2⟩
    by_cases hlt : i < xs.length
    · rw [List.drop_eq_getElem_cons hlt] at h2
      obtain ⟨j1, j2⟩ := (hJ i W2 H2 g2.le g2.ok).1 xs[i] (List.getElem?_eq_getElem hlt)
      refine .inr ⟨j1, fun H3 => ∃ W3 us acc, Go W1 H1 W3 H3 ∧ H3 Da = some (.lst us) ∧ VdA W3 us acc ∧ W3.F Da = none ∧ ¬ W3.G Da ∧ mLcL mg mt mx vs ρ e (xs.drop (i + 1)) acc q, fun H3 ⟨W3, us3, acc3, z⟩ => ⟨xs.length - (i + 1), by omega, rfl, hlt, W3, us3, acc3, z⟩, fun v H3 y => ?_⟩
      obtain ⟨W3, g3, hv⟩ := j2 v H3 y
      -- the new list through a step
      have stay : ∀ {W3 H3 W4 H4}, Ok W3 H3 → Go W3 H3 W4 H4 → ∀ {us acc}, H3 Da = some (.lst us) → VdA W3 us acc → W3.F Da = none → ¬ W3.G Da → H4 Da = some (.lst us) ∧ VdA W4 us acc ∧ W4.F Da = none ∧ ¬ W4.G Da := fun {W3 H3 W4 H4} k3 g4 {us acc} e3 t3 f3 n3 => by
        refine ⟨g4.p _ _ e3 n3, t3.mono g4.le, ?_, fun z => ?_⟩
        · cases z : W4.F Da with
          | none => rfl
          | some o =>
            rcases g4.fn Da o z with z | z | ⟨u, z, hs⟩
            · rw [f3] at z; cases z
            · rw [e3] at z; cases z
            · rw [e3] at z; cases z; exact (still_lst hs).elim
        · rcases g4.gn Da z with z | z
          · exact n3 z
          · rw [e3] at z; cases z
      have s3 := stay g2.ok g3 e2 t2 f2 n2
      have R3 : Rep W3 H0 H3 σ ρ := (R.go (g1.trans R.ok (g2.trans g1.ok g3)))
      refine hg W3 H0 H3 v xs[i] _ _ _ _ (R3.wipe vs) hv h2 fun σ4 ρ4 R4 w4 _ h4 => ⟨by rw [w4 vs hs, wipe_two (fun _ h => h)], ?_⟩
      refine ht W3 H0 H3 σ4 ρ4 _ _ e R4 h4 (fun W5 b H5 g5 h5 => ?_) (kx.go R.ok (g1.trans R.ok (g2.trans g1.ok g3)))
      have s5 := stay g3.ok g5 s3.1 s3.2.1 s3.2.2.1 s3.2.2.2
      have g35 := (g2.trans g1.ok g3).trans g1.ok g5
      cases b with
      | true =>
        refine (hx W5 H0 H5 σ4 ρ4 _ _ e (R4.go g5) h5 (fun W6 u yd H6 g6 hu h6 => ?_) (kx.go R.ok (g1.trans R.ok g35)) : tx σ4 H5 _)
        have s6 := stay g5.ok g6 s5.1 s5.2.1 s5.2.2.1 s5.2.2.2
        refine ⟨us, s6.1, by rw [s6.2.1.length]; exact h6.1, W6, us ++ [u], acc ++ [yd], ?_, upd_same, s6.2.1.append (.one hu), s6.2.2.1, s6.2.2.2, h6.2⟩
        exact Go.mut (g35.trans g1.ok g6) hD s6.2.2.1 s6.2.2.2
      | false => exact (⟨W5, us, acc, g35, s5.1, s5.2.1, s5.2.2.1, s5.2.2.2, h5⟩ : ∃ W3 us acc, Go W1 H1 W3 H5 ∧ H5 Da = some (.lst us) ∧ VdA W3 us acc ∧ W3.F Da = none ∧ ¬ W3.G Da ∧ mLcL mg mt mx vs ρ e (xs.drop (i + 1)) acc q)
    · have e1 : i = xs.length := by omega
      subst e1
      rw [List.drop_length] at h2
      exact .inl ⟨(hJ xs.length W2 H2 g2.le g2.ok).2 (Nat.le_refl _), k W2 H2 Da us acc (g1.trans R.ok g2) (g1.gone R.ok hD) e2 f2 n2 t2 h2⟩) kx
theorem si_lc {vs : List Nat} {tx : TE} {mx : ME} (hi : SimI E ti mi) (hg : SimG g mg is) (ht : SimT E tt mt) (hx : SimE E tx mx) (hs : ∀ i ∈ is, i ∈ vs) : SimE E (tLc ti g tt tx vs) (mLc mi mg mt mx vs) := si_new (sn_lc hi hg ht hx hs)
end
end Dt
set_option Elab.async false
set_option linter.all false
set_option maxRecDepth 100000
set_option maxHeartbeats 4000000
namespace Srl
open PySem PyProof.Rows Srt SrtO Sd
/-- the order of loads -/
def ltL : List PP → List PP → Bool
  | [], M => decide (0 < M.length)
  | _ :: _, [] => false
  | p :: L, q :: M => if p = q then ltL L M else lexB p q
theorem lexAt_ltL : ∀ (L M : List PP) (e r : Nat → Bool) (i : Nat), (∀ j p q, L[j]? = some p → M[j]? = some q → e (i + j) = decide (p = q) ∧ r (i + j) = lexB p q) →
    Ob.lexAt e r (decide (L.length < M.length)) i (min L.length M.length) = ltL L M
  | [], M, e, r, i, _ => by simp [ltL, Ob.lexAt]
  | p :: L, [], e, r, i, _ => by simp [ltL, Ob.lexAt]
  | p :: L, q :: M, e, r, i, h => by
    have h0 := h 0 p q rfl rfl
    have hm : min (p :: L).length (q :: M).length = min L.length M.length + 1 := by simp only [List.length_cons]; omega
    have hd : decide ((p :: L).length < (q :: M).length) = decide (L.length < M.length) := by simp only [List.length_cons]; exact decide_eq_decide.mpr (by omega)
    rw [hm, hd, Ob.lexAt_succ]
    rw [Nat.add_zero] at h0
    rw [h0.1, h0.2, lexAt_ltL L M e r (i + 1) fun j a b ha hb => by
      have := h (j + 1) a b (by simpa using ha) (by simpa using hb)
      rwa [show i + (j + 1) = i + 1 + j by omega] at this]
    show _ = if p = q then ltL L M else lexB p q
    by_cases c : p = q <;> simp [c]
/-- a load at v -/
def IsLd (h : Heap) (v : Value) (L : List PP) : Prop := ∃ a o xs n, v = .ref a ∧ h.get? a = some o ∧ o.cls = .type "tuple" ∧ o.data = .seq xs n ∧ xs.size = L.length ∧ ∀ (j : Nat) (u : Value) (p : PP), xs[j]? = some u → L[j]? = some p → IsPair h u p.1 p.2
theorem IsLd.keeps {h h' : Heap} {v : Value} {L : List PP} (x : IsLd h v L) (k : ∀ b o, h.get? b = some o → o.cls = .type "tuple" → h'.get? b = some o) : IsLd h' v L := by
  obtain ⟨a, o, xs, n, e, ho, hc, hd, hl, hp⟩ := x
  exact ⟨a, o, xs, n, e, k _ _ ho hc, hc, hd, hl, fun j u p h1 h2 => (hp j u p h1 h2).keeps k⟩
section
variable {prog : Program} {w : World} {A : Around} {E : Value → Shared → Prop} {s : Shared}
theorem pair_rc {u v : Value} {p q : PP} (hu : A.units < cLine) (h1 : IsPair s.heap u p.1 p.2) (h2 : IsPair s.heap v q.1 q.2) : Ob.RcOp .Lt A s u v (lexB p q) := by
  obtain ⟨a, o, t, t', n, rfl, ho, hc, hd⟩ := h1
  obtain ⟨b, o2, t2, t2', n2, rfl, ho2, hc2, hd2⟩ := h2
  have k := Ob.RcOp.tuples_lt (A := A) (s := s) (e := fun j => if j = 0 then (p.1 == q.1) else (p.2 == q.2)) (r := fun j => if j = 0 then decide (p.1 < q.1) else decide (p.2 < q.2))
    (show s.heap.IsTuple a #[.int p.1 t, .int p.2 t'] from ⟨o, ho, hc, n, hd⟩) (show s.heap.IsTuple b #[.int q.1 t2, .int q.2 t2'] from ⟨o2, ho2, hc2, n2, hd2⟩) hu
    (fun j j1 j2 => by
      have hj : j < 2 := j1
      match j, hj with
      | 0, _ => simpa using SeqAt.EqAt.int_int (A := A.in1) (s := s) p.1 t q.1 t2
      | 1, _ => simpa using SeqAt.EqAt.int_int (A := A.in1) (s := s) p.2 t' q.2 t2')
    (fun j j1 j2 _ => by
      have hj : j < 2 := j1
      match j, hj with
      | 0, _ => exact Ob.RcOp.lt_int p.1 q.1 t t2
      | 1, _ => exact Ob.RcOp.lt_int p.2 q.2 t' t2')
  have e : Ob.lexAt (fun j => if j = 0 then (p.1 == q.1) else (p.2 == q.2)) (fun j => if j = 0 then decide (p.1 < q.1) else decide (p.2 < q.2)) (decide ((#[Value.int p.1 t, .int p.2 t'] : Array Value).size < (#[Value.int q.1 t2, .int q.2 t2'] : Array Value).size)) 0 (min (#[Value.int p.1 t, .int p.2 t'] : Array Value).size (#[Value.int q.1 t2, .int q.2 t2'] : Array Value).size) = lexB p q := by
    show Ob.lexAt _ _ (decide (2 < 2)) 0 2 = _
    rw [Ob.lexAt_succ, Ob.lexAt_succ, Ob.lexAt_zero]
    unfold lexB
    by_cases c : p.1 = q.1
    · by_cases c2 : p.2 = q.2
      · simp [c, c2]
      · simp [c, c2]
    · simp [c]
  rw [e] at k
  exact k
theorem pair_reads {h : Heap} {u : Value} {p : PP} (x : IsPair h u p.1 p.2) : Reads h u (Com.pD p) ([] ++ ([] ++ [])) := by
  obtain ⟨a, o, t, t', n, rfl, ho, hc, hd⟩ := x
  exact .tuple ho hc hd (.cons (.int _ _) (.cons (.int _ _) .nil))
theorem pair_eq {u v : Value} {p q : PP} (hu : A.units + 4 < cLine) (h1 : IsPair s.heap u p.1 p.2) (h2 : IsPair s.heap v q.1 q.2) : SeqAt.EqAt A s u v (decide (p = q)) := by
  have d : PyData.depth (Com.pD p) = 1 := by simp [Com.pD, Com.tI, PyData.depth, PyData.depthAll]
  have l : ∀ p : PP, PyData.canLay0 (Com.pD p) = true := fun p => by simp [Com.pD, Com.tI, PyData.canLay0, PyData.canLayAll0]
  have k := SeqAt.eqAt_reads (Com.pD p) (Com.pD q) A s u v _ _ (pair_reads h1) (pair_reads h2) (l p) (l q) (by omega)
  rw [Com.eqv_pD] at k
  exact k
theorem load_rc {u v : Value} {L M : List PP} (hu : A.units + 8 < cLine) (hA : A.in1.units + 4 < cLine) (h1 : IsLd s.heap u L) (h2 : IsLd s.heap v M) : Ob.RcOp .Lt A s u v (ltL L M) := by
  obtain ⟨a, o, xs, n, rfl, ho, hc, hd, hl, hp⟩ := h1
  obtain ⟨b, o2, ys, n2, rfl, ho2, hc2, hd2, hl2, hp2⟩ := h2
  have gL : ∀ (j : Nat), j < xs.size → L[j]? = some (L.getD j (0, 0)) := fun j h => by rw [List.getD_eq_getElem?_getD, List.getElem?_eq_getElem (by omega)]; rfl
  have gM : ∀ (j : Nat), j < ys.size → M[j]? = some (M.getD j (0, 0)) := fun j h => by rw [List.getD_eq_getElem?_getD, List.getElem?_eq_getElem (by omega)]; rfl
  have k := Ob.RcOp.tuples_lt (A := A) (s := s) (e := fun j => decide (L.getD j (0, 0) = M.getD j (0, 0))) (r := fun j => lexB (L.getD j (0, 0)) (M.getD j (0, 0)))
    (show s.heap.IsTuple a xs from ⟨o, ho, hc, n, hd⟩) (show s.heap.IsTuple b ys from ⟨o2, ho2, hc2, n2, hd2⟩) (by omega)
    (fun j j1 j2 => pair_eq hA (hp j _ _ (Array.getElem?_eq_getElem j1) (gL j j1)) (hp2 j _ _ (Array.getElem?_eq_getElem j2) (gM j j2)))
    (fun j j1 j2 _ => pair_rc (by omega) (hp j _ _ (Array.getElem?_eq_getElem j1) (gL j j1)) (hp2 j _ _ (Array.getElem?_eq_getElem j2) (gM j j2)))
  rw [hl, hl2, lexAt_ltL L M _ _ 0 fun j p q h1 h2 => by
    rw [Nat.zero_add, List.getD_eq_getElem?_getD, List.getD_eq_getElem?_getD, h1, h2]
    exact ⟨rfl, rfl⟩] at k
  exact k
theorem katL {Q : Bool → Shared → Prop} (hu : A.units + 4 < cLine) : ∀ (us vs : List Value) (L M : List PP) (i : Nat), us.length = L.length → vs.length = M.length → (∀ (j : Nat) (u : Value) (p : PP), us[j]? = some u → L[j]? = some p → IsPair s.heap u p.1 p.2) →
    (∀ (j : Nat) (u : Value) (p : PP), vs[j]? = some u → M[j]? = some p → IsPair s.heap u p.1 p.2) → Q (ltL L M) s → PySem.W.KatLex prog w A false (decide (L.length < M.length)) Q (us.zip vs) i s
  | [], vs, [], M, i, _, _, _, _, h => PySem.W.kat_nil h
  | u :: us, [], p :: L, [], i, _, _, _, _, h => PySem.W.kat_nil (by simpa [ltL] using h)
  | u :: us, v :: vs, p :: L, q :: M, i, e1, e2, h1, h2, h => by
    have hd : decide ((p :: L).length < (q :: M).length) = decide (L.length < M.length) := by simp only [List.length_cons]; exact decide_eq_decide.mpr (by omega)
    rw [hd]
    have hp := h1 0 u p rfl rfl
    have hq := h2 0 v q rfl rfl
    have el : ltL (p :: L) (q :: M) = if p = q then ltL L M else lexB p q := rfl
    refine PySem.W.kat_cons (pair_eq hu hp hq prog w _ _ ?_)
    refine PySem.W.kat_go (fun c => ?_) (fun c => ?_)
    · have c' := of_decide_eq_true c
      refine PySem.W.kat_yes (katL hu us vs L M (i + 1) (by simpa using e1) (by simpa using e2) (fun j u p a b => h1 (j + 1) u p (by simpa using a) (by simpa using b)) (fun j u p a b => h2 (j + 1) u p (by simpa using a) (by simpa using b)) ?_)
      rw [el, if_pos c'] at h
      exact h
    · have c' := of_decide_eq_false c
      rw [el, if_neg c'] at h
      refine PySem.W.kat_no ?_
      rw [Bool.false_and]
      exact PySem.W.kat_one _ _ (pair_rc (by omega) hp hq prog w _ _ h)
  | [], _, _ :: _, _, _, e, _, _, _, _ => nomatch e
  | _ :: _, _, [], _, _, e, _, _, _, _ => nomatch e
  | _ :: _, [], _ :: _, _ :: _, _, _, e, _, _, _ => nomatch e
  | _ :: _, _ :: _, _ :: _, [], _, _, e, _, _, _ => nomatch e
theorem lt_tup {u v : Value} {L M : List PP} {Q : Bool → Shared → Prop} (hu : A.units + 20 < cLine) (h1 : IsLd s.heap u L) (h2 : IsLd s.heap v M) (h : Q (ltL L M) s) : wpAny (model prog w) A (keyLt' (tuples' false) u v) Q E s := by
  obtain ⟨a, o, xs, n, rfl, ho, hc, hd, hl, hp⟩ := h1
  obtain ⟨b, o2, ys, n2, rfl, ho2, hc2, hd2, hl2, hp2⟩ := h2
  refine PySem.W.kat_lt ho hd ho2 hd2 ?_
  rw [hl, hl2]
  exact katL (by omega) _ _ L M 0 (by simpa using hl) (by simpa using hl2) (fun j u p a b => hp j u p (by simpa using a) b) (fun j u p a b => hp2 j u p (by simpa using a) b) h
theorem lt_gen {u v : Value} {L M : List PP} {Q : Bool → Shared → Prop} (hu : A.units + 20 < cLine) (h1 : IsLd s.heap u L) (h2 : IsLd s.heap v M) (h : Q (ltL L M) s) : wpAny (model prog w) A (keyLt' general' u v) Q E s := by
  rw [show keyLt' general' u v = oneLt' false u v from rfl]
  exact PySem.W.kat_one _ _ (load_rc (by omega) (by show A.units + 1 + 4 < cLine; omega) h1 h2 prog w _ _ h)
theorem lt_one {u v : Value} {L M : List PP} {Q : Bool → Shared → Prop} (hu : A.units + 20 < cLine) (h1 : IsLd s.heap u L) (h2 : IsLd s.heap v M) (h : Q (ltL L M) s) : wpAny (model prog w) A (keyLt' oneType' u v) Q E s := by
  obtain ⟨a, o, xs, n, rfl, ho, hc, hd, hl, hp⟩ := h1
  obtain ⟨b, o2, ys, n2, rfl, ho2, hc2, hd2, hl2, hp2⟩ := h2
  obtain ⟨cls, dd, data, sl⟩ := o
  obtain ⟨cls2, dd2, data2, sl2⟩ := o2
  simp only at hc hd hc2 hd2
  subst hc hd hc2 hd2
  have gL : ∀ (j : Nat), j < xs.size → L[j]? = some (L.getD j (0, 0)) := fun j h => by rw [List.getD_eq_getElem?_getD, List.getElem?_eq_getElem (by omega)]; rfl
  have gM : ∀ (j : Nat), j < ys.size → M[j]? = some (M.getD j (0, 0)) := fun j h => by rw [List.getD_eq_getElem?_getD, List.getElem?_eq_getElem (by omega)]; rfl
  rw [keyLt'_oneType, oneLt'_eq]
  simp only [if_true]
  refine wpAny_bind (wpAny_cRoomFor (by omega) ?_)
  refine wpAny_bind (wpAny_callSpecialIfBound?_slot (T := "tuple") ⟨_, ho, rfl⟩ PySem.F.slot_tuple_lt ?_)
  refine call_meets PySem.F.slot_tuple_lt ⟨_, ho, rfl⟩ PySem.F.entry_tuple_lt (PySem.F.args_tuple_lt_2 _ _) (Ob.tuple_ltAt a b xs ys n n2 dd dd2 sl sl2 (fun j => decide (L.getD j (0, 0) = M.getD j (0, 0))) (fun j => lexB (L.getD j (0, 0)) (M.getD j (0, 0)))) ⟨ho, ho2, fun j j1 j2 => ?_, fun j j1 j2 _ => ?_, ?_⟩
  · exact pair_eq (by show A.units + 1 + 4 < cLine; omega) (hp j _ _ (Array.getElem?_eq_getElem j1) (gL j j1)) (hp2 j _ _ (Array.getElem?_eq_getElem j2) (gM j j2))
  · exact pair_rc (by show A.units + 1 < cLine; omega) (hp j _ _ (Array.getElem?_eq_getElem j1) (gL j j1)) (hp2 j _ _ (Array.getElem?_eq_getElem j2) (gM j j2))
  · have e := lexAt_ltL L M (fun j => decide (L.getD j (0, 0) = M.getD j (0, 0))) (fun j => lexB (L.getD j (0, 0)) (M.getD j (0, 0))) 0 fun j p q h1 h2 => by
      rw [Nat.zero_add, List.getD_eq_getElem?_getD, List.getD_eq_getElem?_getD, h1, h2]
      exact ⟨rfl, rfl⟩
    rw [hl, hl2, e]
    exact wpAny_truthy_bool h
theorem ld_firsts {M : Model} : ∀ (vs : List Value), (∀ v ∈ vs, ∃ L, IsLd s.heap v L) → ∃ fs : List (Option Value), fs.length = vs.length ∧ (∀ f, some f ∈ fs → ∃ x y, IsPair s.heap f x y) ∧ ∀ (E : Value → Shared → Prop) (Q : List (Option Value) → Shared → Prop), Q fs s → wpAny M A (vs.mapM firstOfTuple') Q E s
  | [], _ => ⟨[], rfl, (fun f h => nomatch h), fun E Q h => by rw [List.mapM_nil]; exact wpAny_pure h⟩
  | v :: vs, hL => by
    obtain ⟨fs, f1, f2, f3⟩ := ld_firsts (M := M) vs fun v' hm => hL v' (List.mem_cons_of_mem _ hm)
    obtain ⟨L, a, o, xs, n, rfl, ho, hc, hd, hl, hp⟩ := hL v (List.mem_cons_self ..)
    refine ⟨xs[0]? :: fs, by rw [List.length_cons, List.length_cons, f1], fun f hm => ?_, fun E Q h => ?_⟩
    · rcases List.mem_cons.mp hm with e | e
      · have h0 : 0 < xs.size := by
          rcases Nat.eq_zero_or_pos xs.size with z | z
          · rw [Array.getElem?_eq_none (by omega)] at e; cases e
          · exact z
        have hL0 : L[0]? = some L[0] := List.getElem?_eq_getElem (by omega)
        exact ⟨_, _, hp 0 f _ e.symm hL0⟩
      · exact f2 f e
    · rw [List.mapM_cons]
      refine wpAny_bind ?_
      rw [PySem.W.kas_first_eq]
      refine wpAny_bind (PySem.W.Looks.here (show PySem.W.Looks M s.heap (typeOf (.ref a)) o.cls from (PySem.W.Looks.ld ho).andThen .now) ?_)
      rw [hc, if_neg (by first | decide | simp)]
      refine wpAny_bind (listItems_at ho hd (wpAny_pure ?_))
      exact wpAny_bind (f3 E _ (wpAny_pure h))
theorem ld_type {M : Model} {v : Value} {L : List PP} (h : IsLd s.heap v L) : PySem.W.Looks M s.heap (typeOf v) (.type "tuple") := by
  obtain ⟨a, o, xs, n, rfl, ho, hc, _⟩ := h
  rw [← hc]
  exact (PySem.W.Looks.ld ho).andThen .now
theorem pr_type {M : Model} {v : Value} {x y : Int} (h : IsPair s.heap v x y) : PySem.W.Looks M s.heap (typeOf v) (.type "tuple") := by
  obtain ⟨a, o, t, u, n, rfl, ho, hc, _⟩ := h
  rw [← hc]
  exact (PySem.W.Looks.ld ho).andThen .now
theorem one_tup {M : Model} {vs : List Value} {Q : Option Value → Shared → Prop} (h0 : 0 < vs.length) (hT : ∀ v ∈ vs, PySem.W.Looks M s.heap (typeOf v) (.type "tuple")) (h : Q (some (.type "tuple")) s) : wpAny M A (oneTypeOnly' vs.toArray) Q E s := by
  obtain ⟨v, r, rfl⟩ : ∃ v r, vs = v :: r := by
    match vs, h0 with
    | v :: r, _ => exact ⟨v, r, rfl⟩
  rw [oneTypeOnly'_eq, List.mapM_toArray, map_eq_pure_bind]
  refine wpAny_bind (wpAny_bind (PySem.W.kas_mapM (r := Value.type "tuple") _ (fun v hv Q' hq => (hT v hv).here hq) (wpAny_pure ?_)))
  have hall : ((List.map (fun _ => Value.type "tuple") (v :: r)).toArray.all fun x => x == Value.type "tuple") = true := by
    simp only [List.all_toArray, List.all_map, List.all_eq_true]
    intro _ _
    rfl
  have e0 : (List.map (fun _ => Value.type "tuple") (v :: r)).toArray[0]? = some (Value.type "tuple") := by simp
  rw [e0]
  simp only [hall, if_true]
  exact wpAny_pure h
theorem ld_kind {M : Model} {vs : List Value} (h0 : 0 < vs.length) (hL : ∀ v ∈ vs, ∃ L, IsLd s.heap v L) : ∃ κ : SortKind, (κ = tuples' false ∨ κ = general' ∨ κ = oneType') ∧ ∀ (E : Value → Shared → Prop) (Q : SortKind → Shared → Prop), Q κ s → wpAny M A (keyKind' vs.toArray) Q E s := by
  obtain ⟨fs, f1, f2, f3⟩ := ld_firsts (M := M) (A := A) vs hL
  have tv : ∀ v ∈ vs, PySem.W.Looks M s.heap (typeOf v) (.type "tuple") := fun v hv => ld_type (hL v hv).choose_spec
  by_cases hall : (fs.toArray.all fun x => x.isSome) = true
  · refine ⟨tuples' false, .inl rfl, fun E Q h => ?_⟩
    rw [kat_kind_eq, List.mapM_toArray, map_eq_pure_bind]
    refine wpAny_bind (wpAny_bind (f3 E _ (wpAny_pure ?_)))
    rw [if_pos hall]
    refine wpAny_bind (wpAny_rule ?_)
    have hfm : fs.toArray.filterMap id = (fs.filterMap id).toArray := by simp
    rw [hfm]
    have hne : 0 < (fs.filterMap id).length := by
      cases fs with
      | nil => rw [List.length_nil] at f1; omega
      | cons x r =>
        cases x with
        | none => simp at hall
        | some f => simp
    refine wpAny_bind (one_tup hne (fun f hf => ?_) (wpAny_pure ?_))
    · obtain ⟨o, ho, e⟩ := List.mem_filterMap.mp hf
      change o = some f at e
      obtain ⟨x, y, hp⟩ := f2 f (e ▸ ho)
      exact pr_type hp
    · have e : (Option.any (fun x => x != Value.type "tuple") (some (Value.type "tuple"))) = false := by first | rfl | decide +kernel
      rw [e]
      exact h
  · by_cases hf : (fs.toArray[0]?.bind id).isSome = true
    · refine ⟨general', .inr (.inl rfl), fun E Q h => ?_⟩
      rw [kat_kind_eq, List.mapM_toArray, map_eq_pure_bind]
      refine wpAny_bind (wpAny_bind (f3 E _ (wpAny_pure ?_)))
      rw [if_neg hall, if_pos hf]
      exact wpAny_pure h
    · refine ⟨oneType', .inr (.inr rfl), fun E Q h => ?_⟩
      rw [kat_kind_eq, List.mapM_toArray, map_eq_pure_bind]
      refine wpAny_bind (wpAny_bind (f3 E _ (wpAny_pure ?_)))
      rw [if_neg hall, if_neg hf]
      exact wpAny_bind (one_tup h0 tv (wpAny_pure h))
theorem loads_cmp {κ : SortKind} {vs : List Value} {k : Value → List PP} (hu : A.units + 20 < cLine) (hk : κ = tuples' false ∨ κ = general' ∨ κ = oneType') (hv : ∀ v ∈ vs, IsLd s.heap v (k v)) : Cmp prog w A s κ (fun p => p.1 ∈ vs) (lt2 fun v u => ltL (k v) (k u)) := by
  intro p q hp hq
  rcases hk with rfl | rfl | rfl
  · exact lt_tup (Q := fun r s' => s' = s ∧ r = ltL (k p.1) (k q.1)) (E := fun _ _ => False) hu (hv p.1 hp) (hv q.1 hq) ⟨rfl, rfl⟩
  · exact lt_gen (Q := fun r s' => s' = s ∧ r = ltL (k p.1) (k q.1)) (E := fun _ _ => False) hu (hv p.1 hp) (hv q.1 hq) ⟨rfl, rfl⟩
  · exact lt_one (Q := fun r s' => s' = s ∧ r = ltL (k p.1) (k q.1)) (E := fun _ _ => False) hu (hv p.1 hp) (hv q.1 hq) ⟨rfl, rfl⟩
theorem loads_sortable {a : Addr} {vs : List Value} {k : Value → List PP} (hu : A.units + 20 < cLine) (h0 : 0 < vs.length) (hv : ∀ v ∈ vs, IsLd s.heap v (k v)) (ha : ∀ o, s.heap.get? a = some o → o.cls ≠ .type "tuple") : SortableO prog w A s a vs fun v u => ltL (k v) (k u) := by
  intro h' keep
  have hv' : ∀ v ∈ vs, IsLd h' v (k v) := fun v hm => (hv v hm).keeps fun b o e c => keep b o (fun z => by subst z; exact ha o e c) e
  obtain ⟨κ, hk, hq⟩ := ld_kind (s := { s with heap := h' }) (M := model prog w) (A := A) h0 (fun v hm => ⟨_, hv' v hm⟩)
  exact ⟨κ, fun Q E h => hq E Q h, loads_cmp (s := { s with heap := h' }) hu hk hv'⟩
theorem lexB_tri {p q : PP} (h : p ≠ q) : lexB q p = !lexB p q := by
  have a := lexB_iff (p := p) (q := q)
  have b := lexB_iff (p := q) (q := p)
  have ne : ¬ (p.1 = q.1 ∧ p.2 = q.2) := fun ⟨e1, e2⟩ => h (Prod.ext e1 e2)
  cases e1 : lexB p q <;> cases e2 : lexB q p <;> simp only [e1, e2] at a b <;> first | rfl | (exfalso; simp at a b; omega)
theorem ltL_asym : ∀ L M : List PP, ltL L M = true → ltL M L = false
  | [], [], _ => rfl
  | [], _ :: _, _ => rfl
  | _ :: _, [], h => nomatch h
  | p :: L, q :: M, h => by
    change (if p = q then ltL L M else lexB p q) = true at h
    show (if q = p then ltL M L else lexB q p) = false
    by_cases c : p = q
    · rw [if_pos c] at h
      rw [if_pos c.symm]
      exact ltL_asym L M h
    · rw [if_neg c] at h
      rw [if_neg (fun z => c z.symm), lexB_tri c, h]
      rfl
/-- neither before the other: alike -/
theorem ltL_eq : ∀ L M : List PP, ltL L M = false → ltL M L = false → L = M
  | [], [], _, _ => rfl
  | [], _ :: _, h, _ => nomatch h
  | _ :: _, [], _, h => nomatch h
  | p :: L, q :: M, h, g => by
    change (if p = q then ltL L M else lexB p q) = false at h
    change (if q = p then ltL M L else lexB q p) = false at g
    by_cases c : p = q
    · rw [if_pos c] at h
      rw [if_pos c.symm] at g
      rw [c, ltL_eq L M h g]
    · rw [if_neg c] at h
      rw [if_neg (fun z => c z.symm), lexB_tri c, h] at g
      cases g
theorem lexB_tr {p q r : PP} (h : lexB p q = true) (g : lexB q r = true) : lexB p r = true := by
  have a := lexB_iff.mp h
  have b := lexB_iff.mp g
  exact lexB_iff.mpr (by omega)
theorem ltL_tr : ∀ L M N : List PP, ltL L M = true → ltL M N = true → ltL L N = true
  | [], [], _, h, _ => nomatch h
  | [], _ :: _, [], _, g => nomatch g
  | [], _ :: _, _ :: _, _, _ => rfl
  | _ :: _, [], _, h, _ => nomatch h
  | _ :: _, _ :: _, [], _, g => nomatch g
  | p :: L, q :: M, r :: N, h, g => by
    change (if p = q then ltL L M else lexB p q) = true at h
    change (if q = r then ltL M N else lexB q r) = true at g
    show (if p = r then ltL L N else lexB p r) = true
    by_cases c : p = q
    · subst c
      rw [if_pos rfl] at h
      by_cases d : p = r
      · rw [if_pos d] at g ⊢
        exact ltL_tr L M N h g
      · rw [if_neg d] at g ⊢
        exact g
    · rw [if_neg c] at h
      by_cases d : q = r
      · rw [← d, if_neg c]
        exact h
      · rw [if_neg d] at g
        have k := lexB_tr h g
        have ne : p ≠ r := fun z => by
          rw [z] at h
          have := lexB_tri d
          rw [h, g] at this
          cases this
        rw [if_neg ne]
        exact k
theorem swo_ltL (k : Value → List PP) : Swo fun v u => ltL (k v) (k u) := by
  refine ⟨fun x y h => ltL_asym _ _ h, fun x y z h1 h2 => ?_⟩
  cases e : ltL (k z) (k x) with
  | false => rfl
  | true =>
    exfalso
    cases e1 : ltL (k x) (k y) with
    | true =>
      have := ltL_tr _ _ _ e e1
      rw [h2] at this
      cases this
    | false =>
      have := ltL_eq _ _ e1 h1
      rw [this] at e
      rw [h2] at e
      cases e
end
end Srl
set_option Elab.async false
set_option linter.all false
set_option maxRecDepth 100000
set_option maxHeartbeats 4000000
namespace Srl
open PySem PyProof.Rows Srt SrtO Sd
section
variable {prog : Program} {w : World} {A : Around} {E : Value → Shared → Prop} {s : Shared}
theorem collect_tup {l : Addr} {vs : List Value} {Q : List Value → Shared → Prop} (hl : s.heap.IsTuple l vs.toArray)
    (h : Q vs { s with heap := (s.heap.push (seqObj "list" #[] 0)).update s.heap.objs.size (Obj.mapSeq (· ++ vs.toArray)) }) (hsz : vs.length ≤ sizeLine) :
    wpAny (model prog w) A (collect (.ref l)) Q E s := by
  obtain ⟨o, ho, hc, n, hd⟩ := id hl
  unfold collect
  refine wpAny_bind (wpAny_runValue (codeAny_builtin entry_proto_collect' ?_))
  show wpAny _ _ (do again (.builtin "list.__iadd__" ⟨[← newList [], .ref l], []⟩)) _ _ s
  refine wpAny_bind (wpAny_newList (wpAny_pure ⟨Code.quiet_builtin _ (by decide +kernel), codeAny_builtin entry_list_iadd' ?_⟩))
  show wpAny _ _ (Builtin.List.listExtendWith (.ref s.heap.objs.size) (.ref l) (.ref s.heap.objs.size)) _ _ { s with heap := s.heap.push (seqObj "list" #[] 0) }
  unfold Builtin.List.listExtendWith
  have ho' : (s.heap.push (seqObj "list" #[] 0)).get? l = some o := Heap.get?_push_of_some _ ho
  refine wpAny_bind (wpAny_typeOf (T := "tuple") ⟨o, ho', hc⟩ ?_)
  have ht : (Value.type "tuple" == Value.type "tuple") = true := by rfl
  rw [if_pos (by rw [ht]; simp)]
  refine wpAny_bind (listItems_at ho' hd ?_)
  refine wpAny_bind (listItems_at (xs := #[]) (n := 0) (Heap.get?_push_size _ rfl) rfl ?_)
  rw [if_neg (by simp)]
  refine wpAny_bind (listUpdate_at (xs := #[]) (n := 0) (Heap.get?_push_size _ rfl) rfl ?_ (Nat.zero_le _) (by show (#[] ++ vs.toArray).size ≤ sizeLine + 1; simp only [Array.size_append, List.size_toArray, List.length_nil]; omega))
  refine wpAny_pure ?_
  show wpAny (model prog w) A (do
      let o ← load s.heap.objs.size
      match o.data with
      | .seq xs _ => pure xs.toList
      | _ => unsupported "internal:collect") Q E { s with heap := (s.heap.push (seqObj "list" #[] 0)).update s.heap.objs.size (Obj.mapSeq (· ++ vs.toArray)) }
  refine wpAny_bind (wpAny_load (get?_update_seq (Heap.get?_push_size _ rfl) _) ?_)
  show wpAny _ _ (pure ((#[] : Array Value) ++ vs.toArray).toList) Q E _
  rw [show ((#[] : Array Value) ++ vs.toArray).toList = vs by simp]
  exact wpAny_pure h
/-- sorted(t), t a tuple -/
theorem sorted_ordT {l : Addr} {vs : List Value} {ltv : Value → Value → Bool} {Q : Value → Shared → Prop} (O : Swo ltv) (hl : s.heap.IsTuple l vs.toArray) (hz : vs.length ≤ sizeLine)
    (hS : 2 ≤ vs.length → ∀ (h₁ : Heap) (a : Addr), h₁.get? a = some (seqObj "list" vs.toArray 0) → (∀ b o, s.heap.get? b = some o → b ≠ a ∧ h₁.get? b = some o) → SortableO prog w A.in1.in1 { s with heap := h₁ } a vs ltv)
    (h : ∀ out : List Value, Srtd ltv out → Stb ltv out vs → Q (.ref (s.heap.objs.size + 1)) { s with heap := sortedAll s.heap vs out.toArray }) :
    wpAny (model prog w) A (call (.builtin "sorted") [.ref l]) Q E s := by
  refine Calls.call_function_entry kind_sorted plain_sorted entry_sorted (args_sorted1 _) ?_
  unfold Builtin.«sorted»
  refine wpAny_bind (m := checkCount "sorted" 1 1 _) (wpAny_pure ?_)
  refine wpAny_bind (collect_tup hl ?_ hz)
  refine wpAny_bind (wpAny_newList ?_ hz)
  have hsz : ((s.heap.push (seqObj "list" #[] 0)).update s.heap.objs.size (Obj.mapSeq (· ++ vs.toArray))).objs.size = s.heap.objs.size + 1 := by
    rw [Heap.size_update, size_push']
  have hoL : (((s.heap.push (seqObj "list" #[] 0)).update s.heap.objs.size (Obj.mapSeq (· ++ vs.toArray))).push (seqObj "list" vs.toArray 0)).get? (s.heap.objs.size + 1) = some (seqObj "list" vs.toArray 0) := by
    rw [← hsz]; exact Heap.get?_push_size _ rfl
  have keep : ∀ b o, s.heap.get? b = some o → b ≠ s.heap.objs.size + 1 ∧ (((s.heap.push (seqObj "list" #[] 0)).update s.heap.objs.size (Obj.mapSeq (· ++ vs.toArray))).push (seqObj "list" vs.toArray 0)).get? b = some o := fun b o q => by
    have hlt : b < s.heap.objs.size := Heap.lt_size q
    refine ⟨Nat.ne_of_lt (Nat.lt_succ_of_lt hlt), Heap.get?_push_of_some _ ?_⟩
    rw [Heap.get?_update_ne _ _ _ _ (Nat.ne_of_lt hlt)]
    exact Heap.get?_push_of_some _ q
  show wpAny _ _ _ _ _ { s with heap := ((s.heap.push (seqObj "list" #[] 0)).update s.heap.objs.size (Obj.mapSeq (· ++ vs.toArray))).push (seqObj "list" vs.toArray 0) }
  rw [hsz]
  refine wpAny_bind (wpAny_holding (wpAny_call_entry slot_list_sort ⟨_, hoL, rfl⟩ entry_list_sort (list_sort_ord O hoL hz (fun h2 => hS h2 _ _ hoL keep) fun out hs hb => ⟨_, rfl, ?_⟩) (args_list_sort _)))
  exact wpAny_pure ⟨_, rfl, h out hs hb⟩
theorem sorted_loadsT {l : Addr} {vs : List Value} {k : Value → List PP} {Q : Value → Shared → Prop} (hu : A.units + 30 < cLine) (hl : s.heap.IsTuple l vs.toArray) (hz : vs.length ≤ sizeLine) (hp : ∀ v ∈ vs, IsLd s.heap v (k v))
    (h : ∀ (h' : Heap) (d : Addr) (out : List Value), Srtd (fun v u => ltL (k v) (k u)) out → Stb (fun v u => ltL (k v) (k u)) out vs → (∀ b o, s.heap.get? b = some o → h'.get? b = some o) → s.heap.objs.size ≤ d → (∃ n, h'.get? d = some (seqObj "list" out.toArray n)) → Q (.ref d) { s with heap := h' }) :
    wpAny (model prog w) A (call (.builtin "sorted") [.ref l]) Q E s := by
  refine sorted_ordT (swo_ltL k) hl hz (fun h2 h₁ a ha kk => ?_) fun out hs hb => ?_
  · refine loads_sortable (s := { s with heap := h₁ }) (by show A.units + 1 + 1 + 20 < cLine; omega) (by omega) (fun v hm => (hp v hm).keeps fun b o e _ => (kk b o e).2) fun o e => ?_
    have e' : some o = some (seqObj "list" vs.toArray 0) := e.symm.trans ha
    cases e'
    intro c
    exact absurd (Value.type.inj c) (by decide)
  · exact h _ _ out hs hb (fun b o e => sortedAll_old e) (Nat.le_succ _) (sortedAll_at s.heap vs out.toArray)
end
end Srl
namespace Srl
open PySem PySem.Spec PyProof.Rows L2 Com Sd StV
/-- loads in ascending order -/
def leL (L M : List PP) : Bool := !ltL M L
def srtL (S : List (List PP)) : List (List PP) := S.mergeSort leL
theorem leL_trans (a b c : List PP) (h : leL a b = true) (g : leL b c = true) : leL a c = true := by
  have o := (swo_ltL fun _ => a)
  unfold leL at *
  cases e : ltL c a with
  | false => rfl
  | true =>
    have h' : ltL b a = false := by simpa using h
    have g' : ltL c b = false := by simpa using g
    exfalso
    cases e1 : ltL a b with
    | true =>
      have := ltL_tr _ _ _ e e1
      rw [g'] at this
      cases this
    | false =>
      have := ltL_eq _ _ e1 h'
      rw [this, g'] at e
      cases e
theorem leL_total (a b : List PP) : (leL a b || leL b a) = true := by
  unfold leL
  cases e : ltL a b with
  | false => simp
  | true => rw [ltL_asym _ _ e]; rfl
theorem leL_anti {a b : List PP} (h : leL a b = true) (g : leL b a = true) : a = b := by
  unfold leL at *
  exact ltL_eq _ _ (by simpa using g) (by simpa using h)
theorem srtL_perm (S : List (List PP)) : (srtL S).Perm S := List.mergeSort_perm S leL
theorem srtL_le (S : List (List PP)) : (srtL S).Pairwise (fun a b => leL a b = true) := List.pairwise_mergeSort leL_trans leL_total S
theorem srtL_uniq {S T : List (List PP)} (h : T.Perm S) (g : T.Pairwise (fun a b => leL a b = true)) : T = srtL S :=
  List.Perm.eq_of_pairwise (fun a b _ _ h1 h2 => leL_anti h1 h2) g (srtL_le S) (h.trans (srtL_perm S).symm)
end Srl
set_option Elab.async false
set_option linter.all false
set_option maxRecDepth 100000
set_option maxHeartbeats 4000000
namespace Srl
open PySem PySem.Spec PyProof.Rows L2 Com Sd StV
def kL (H : Hp) (v : V) : List PP := match v with
  | .ref a => match H a with
    | some (.tup us) => us.map (kOf H)
    | _ => []
  | _ => []
theorem kL_of {H : Hp} {v : V} {L : List PP} (h : LoadV H v L) : kL H v = L := by
  obtain ⟨a, us, rfl, e, hp⟩ := h
  show (match H a with | some (.tup us) => us.map (kOf H) | _ => []) = L
  rw [e]
  exact (pairsV_map hp).symm
theorem loadsV_map {H : Hp} : ∀ {vs : List V} {S : List (List PP)}, LoadsV H vs S → S = vs.map (kL H)
  | _, _, .nil => rfl
  | _, _, .cons h t => by rw [List.map_cons, ← loadsV_map t, kL_of h]
theorem loadsV_mem {H : Hp} : ∀ {vs : List V} {S : List (List PP)}, LoadsV H vs S → ∀ v ∈ vs, LoadV H v (kL H v)
  | _, _, .nil, v, hv => nomatch hv
  | _, _, .cons h t, v, hv => by
    rcases List.mem_cons.mp hv with e | e
    · subst e
      rw [kL_of h]
      exact h
    · exact loadsV_mem t v e
theorem loadsV_of {H : Hp} : ∀ {vs : List V}, (∀ v ∈ vs, LoadV H v (kL H v)) → LoadsV H vs (vs.map (kL H))
  | [], _ => .nil
  | v :: vs, h => .cons (h v (List.mem_cons_self ..)) (loadsV_of fun u hu => h u (List.mem_cons_of_mem _ hu))
section
variable {X : Cx}
theorem isLd {pins : List (Addr × Obj)} {σ : L2.St} {H : Hp} {s : Shared} (I : Inv X pins σ H s) {t : Addr} {L : List PP} (h : LoadV H (.ref t) L) : IsLd s.heap (.ref t) L := by
  obtain ⟨b, us, e, hb, hP⟩ := h
  cases e
  obtain ⟨_, its, rv, o, ho, hc, n, hd⟩ := I.hok _ _ hb
  have l1 := rv.length
  have l2 := Paired.length hP
  refine ⟨t, o, its.toArray, n, rfl, ho, hc, hd, by simp; omega, fun j u p hu hp => ?_⟩
  have hu' : its[j]? = some u := by simpa using hu
  obtain ⟨y, hy, c, rfl, hcc⟩ := StV.paired_get' hP hp
  obtain ⟨u2, hu2, ru⟩ := Vals.get rv hy
  rw [hu'] at hu2
  cases hu2
  obtain rfl : u = Value.ref c := ru
  obtain ⟨_, its2, r2, o2, ho2, hc2, n2, hd2⟩ := I.hok _ _ hcc
  obtain ⟨u1, u2, rfl, ri, rj⟩ := vals2 r2
  obtain ⟨t1, rfl⟩ := ri
  obtain ⟨t2, rfl⟩ := rj
  exact ⟨c, o2, t1, t2, n2, rfl, ho2, hc2, hd2⟩
def rSrtL (K : PySem.W.Frag) : List V → Hp → VK → Prop := fun xs H Q => ∃ (a : Addr) (vs : List V) (S : List (List PP)), xs = [V.ref a] ∧ H a = some (.tup vs) ∧ LoadsV H vs S ∧
  ∀ us p, LoadsV H us (srtL S) → us.length = vs.length → H p = none → Q (.ref p) (upd H p (.lst us))
theorem cr_srtL (hu : X.A.units + 64 < cLine) (K : PySem.W.Frag) (hK : X.K = K := by rfl) : CallR X (.builtin "sorted") (rSrtL K) := by
  subst hK
  intro pins s σ H vs us Q I r h
  obtain ⟨a, xs, S, rfl, ha, hP, q⟩ := h
  obtain ⟨its, rv, hl, hz⟩ := I.tuple (SqT.of (K := X.K) ha)
  obtain ⟨u, rfl, ru⟩ := vals1 r
  obtain rfl : u = Value.ref a := ru
  obtain ⟨e1, e2⟩ := refs_back rv fun x m => by
    obtain ⟨t, us, e, _⟩ := loadsV_mem hP x m
    exact ⟨t, e⟩
  refine sorted_loadsT (k := fun u => kL H (backV u)) (by omega) (show s.heap.IsTuple a its.toArray from hl) (by rw [← rv.length]; exact hz) (fun v hv => ?_) fun h' d out h1 h2 kp hd hn => ?_
  · obtain ⟨t, rfl⟩ := e2 v hv
    have hm : V.ref t ∈ xs := by rw [e1]; exact List.mem_map.mpr ⟨_, hv, rfl⟩
    exact isLd I (loadsV_mem hP _ hm)
  · have h3 : ∀ u ∈ out, ∃ a, u = Value.ref a := fun u hu => e2 u (h2.perm.mem_iff.mp hu)
    obtain ⟨n, hn⟩ := hn
    have pm : (out.map backV).Perm xs := by
      rw [e1]
      exact h2.perm.map _
    have hS := loadsV_map hP
    have hU : LoadsV H (out.map backV) (srtL S) := by
      have e : srtL S = (out.map backV).map (kL H) := by
        refine (srtL_uniq ?_ ?_).symm
        · rw [hS]
          exact pm.map _
        · rw [List.map_map, List.pairwise_map]
          refine h1.imp fun {a b} z => ?_
          show (!ltL (kL H (backV b)) (kL H (backV a))) = true
          rw [show ltL (kL H (backV b)) (kL H (backV a)) = false from z]
          rfl
      rw [e]
      exact loadsV_of fun v hv => loadsV_mem hP v (pm.mem_iff.mp hv)
    have len : (out.map backV).length = xs.length := pm.length_eq
    refine ⟨.ref d, upd H d (.lst (out.map backV)), I.laid (t' := s.toks) kp hd ⟨?_, out, n, vals_back h3, hn⟩, rfl, q _ d hU len (I.hok.fresh hd)⟩
    rw [len]
    exact hz
end
end Srl
set_option Elab.async false
set_option linter.all false
set_option maxRecDepth 100000
set_option maxHeartbeats 4000000
set_option Elab.async false
set_option linter.all false
set_option maxRecDepth 100000
set_option maxHeartbeats 4000000
namespace Dt
open PySem PySem.Spec PyProof.Rows L2 Com
variable [Dt.Tb]
mutual
def toPy : D → Option PyData
  | .non => some .none
  | .bl b => some (.bool b)
  | .int i => some (.int i)
  | .str s => some (.str s)
  | .tup ds => match toPyA ds with
    | some ps => some (.tuple ps)
    | none => none
  | .lst ds => match toPyA ds with
    | some ps => some (.list ps)
    | none => none
  | .obj _ _ _ => none
  | .flow _ => none
  | .scr _ _ => none
  | .dict0 => none
  | .dct _ _ _ _ => none
  | .vry _ d => toPy d
def toPyA : List D → Option (List PyData)
  | [] => some []
  | d :: ds => match toPy d with
    | some p => match toPyA ds with
      | some ps => some (p :: ps)
      | none => none
    | none => none
end
section
variable {W : Wd} {H : Hp} {K : PySem.W.Frag}
mutual
theorem dp_of (k : Ok W H) : ∀ {v : V} {d : D} {p : PyData}, Vd W v d → toPy d = some p → Dp K H v p
  | _, _, _, .non, e => by rw [toPy] at e; cases e; exact .non
  | _, _, _, .bl b, e => by rw [toPy] at e; cases e; exact .bl b
  | _, _, _, .int i, e => by rw [toPy] at e; cases e; exact .int i
  | _, _, _, .str s, e => by rw [toPy] at e; cases e; exact .str s
  | _, _, _, .tup (ds := ds) h t, e => by
    rw [toPy] at e
    cases q : toPyA ds with
    | none => rw [q] at e; cases e
    | some ps =>
      rw [q] at e
      cases e
      exact .tup (SqT.of (k.f _ _ h)) (dpA_of k t q)
  | _, _, _, .lst (ds := ds) h t, e => by
    rw [toPy] at e
    cases q : toPyA ds with
    | none => rw [q] at e; cases e
    | some ps =>
      rw [q] at e
      cases e
      exact .lst (SqL.of (k.f _ _ h)) (dpA_of k t q)
  | _, _, _, .obj _ _ _, e => by rw [toPy] at e; cases e
  | _, _, _, .flow _ _, e => by rw [toPy] at e; cases e
  | _, _, _, .scr _, e => by rw [toPy] at e; cases e
  | _, _, _, .dict0 _, e => by rw [toPy] at e; cases e
  | _, _, _, .dctN _ _ _ _, e => by rw [toPy] at e; cases e
  | _, _, _, .dctK _ _ _, e => by rw [toPy] at e; cases e
  | _, _, _, .vry h, e => by rw [toPy] at e; exact dp_of k h e
theorem dpA_of (k : Ok W H) : ∀ {vs : List V} {ds : List D} {ps : List PyData}, VdA W vs ds → toPyA ds = some ps → DpAll K H vs ps
  | _, _, _, .nil, e => by rw [toPyA] at e; cases e; exact .nil
  | _, _, _, .cons (d := d) (ds := ds) h t, e => by
    rw [toPyA] at e
    cases q : toPy d with
    | none => rw [q] at e; cases e
    | some p =>
      cases q2 : toPyA ds with
      | none => rw [q, q2] at e; cases e
      | some ps =>
        rw [q, q2] at e
        cases e
        exact .cons (dp_of k h q) (dpA_of k t q2)
end
end
def fAdd (x y : D) (q : KD) : Prop := match x, y with
  | .int i, .int j => q (.int (i + j))
  | .tup a, .tup b => a.length + b.length ≤ 1000 ∧ q (.tup (a ++ b))
  | .lst a, .lst b => a.length + b.length ≤ sizeLine ∧ q (.lst (a ++ b))
  | .str a, .str b => a.length + b.length ≤ sizeLine ∧ q (.str (a ++ b))
  | _, _ => False
def rPlus : R2 := fun x y H Q => (rI0 (fun i j => .int (i + j)) x y H Q) ∨ rCatB x y H Q ∨ rCat x y H Q ∨ (∃ i j, x = .str i ∧ y = .str j ∧ i.length + j.length ≤ sizeLine ∧ Q (.str (i ++ j)) H)
theorem op_plus {X : Cx} : OpR X (binaryOp .Add) rPlus := by
  intro pins s σ H x y v u Q I rx ry h
  rcases h with h | h | h | h
  · exact op_add pins s σ H x y v u Q I rx ry h
  · exact catB pins s σ H x y v u Q I rx ry h
  · exact op_cat pins s σ H x y v u Q I rx ry h
  · exact op_add_str pins s σ H x y v u Q I rx ry h
theorem sr_plus : SimR rPlus fAdd := fun W H x y dx dy Q q k hx hy h hk => by
  cases hx with
  | int i =>
    cases hy with
    | int j => exact .inl ⟨i, j, rfl, rfl, hk W _ _ H (.refl k) (.int _) h⟩
    | _ => exact h.elim
  | str i =>
    cases hy with
    | str j => exact .inr (.inr (.inr ⟨i, j, rfl, rfl, h.1, hk W _ _ H (.refl k) (.str _) h.2⟩))
    | _ => exact h.elim
  | tup a1 t1 =>
    cases hy with
    | tup a2 t2 =>
      refine .inr (.inl ⟨_, _, _, _, rfl, rfl, k.f _ _ a1, k.f _ _ a2, by rw [t1.length, t2.length]; exact h.1, fun p H' hp s => ?_⟩)
      have g := Go.putS k s hp (.inr ⟨_, rfl⟩)
      exact hk _ _ _ H' g (.tup (upd_same (H := W.F)) ((t1.append t2).mono g.le)) h.2
    | _ => exact h.elim
  | lst a1 t1 =>
    cases hy with
    | lst a2 t2 =>
      refine .inr (.inr (.inl ⟨_, _, _, _, rfl, rfl, k.f _ _ a1, k.f _ _ a2, by rw [t1.length, t2.length]; exact h.1, fun p hp => ?_⟩))
      exact hk _ _ _ _ (Go.put k hp) (.lst (upd_same (H := W.F)) ((t1.append t2).mono (Go.put k hp).le)) h.2
    | _ => exact h.elim
  | _ => exact h.elim
def fI (c : Int → Int → Prop) (g : Int → Int → D) : D → D → KD → Prop := fun x y q => match x, y with
  | .int i, .int j => c i j ∧ q (g i j)
  | _, _ => False
theorem sr_I0 {g : Int → Int → Int} : SimR (rI0 fun i j => .int (g i j)) (fI (fun _ _ => True) fun i j => .int (g i j)) := fun W H x y dx dy Q q k hx hy h hk => by
  cases hx with
  | int i =>
    cases hy with
    | int j => exact ⟨i, j, rfl, rfl, hk W _ _ H (.refl k) (.int _) h.2⟩
    | _ => exact h.elim
  | _ => exact h.elim
theorem sr_B0 {g : Int → Int → Bool} : SimR (rI0 fun i j => .bl (g i j)) (fI (fun _ _ => True) fun i j => .bl (g i j)) := fun W H x y dx dy Q q k hx hy h hk => by
  cases hx with
  | int i =>
    cases hy with
    | int j => exact ⟨i, j, rfl, rfl, hk W _ _ H (.refl k) (.bl _) h.2⟩
    | _ => exact h.elim
  | _ => exact h.elim
def fEq (neg : Bool) (x y : D) (q : KD) : Prop := ∃ p r, toPy x = some p ∧ toPy y = some r ∧ SeqAt.shaped p = true ∧ SeqAt.shaped r = true ∧ q (.bl (if neg then !PyData.eqv p r else PyData.eqv p r))
theorem sr_eq {K : PySem.W.Frag} : SimR (rEqD K) (fEq false) := fun W H x y dx dy Q q k hx hy h hk => by
  obtain ⟨p, r, e1, e2, s1, s2, h⟩ := h
  exact ⟨p, r, dp_of k hx e1, dp_of k hy e2, s1, s2, hk W _ _ H (.refl k) (.bl _) h⟩
theorem sr_ne {K : PySem.W.Frag} : SimR (rNeD K) (fEq true) := fun W H x y dx dy Q q k hx hy h hk => by
  obtain ⟨p, r, e1, e2, s1, s2, h⟩ := h
  exact ⟨p, r, dp_of k hx e1, dp_of k hy e2, s1, s2, hk W _ _ H (.refl k) (.bl _) h⟩
def isNon : D → Bool
  | .non => true
  | .vry _ d => isNon d
  | _ => false
theorem isNon_eq {W : Wd} {v : V} : ∀ {d : D}, Vd W v d → decide (v = .non) = isNon d
  | D.vry _ d, h => by cases h with | vry h => exact isNon_eq (d := d) h
  | .non, h => by cases h; rfl
  | .bl _, h => by cases h; exact decide_eq_false (fun z => nomatch z)
  | .int _, h => by cases h; exact decide_eq_false (fun z => nomatch z)
  | .str _, h => by cases h; exact decide_eq_false (fun z => nomatch z)
  | .tup _, h => by cases h; exact decide_eq_false (fun z => nomatch z)
  | .lst _, h => by cases h; exact decide_eq_false (fun z => nomatch z)
  | .obj _ _ _, h => by cases h; exact decide_eq_false (fun z => nomatch z)
  | .flow _, h => by cases h; exact decide_eq_false (fun z => nomatch z)
  | .scr _ _, h => by cases h; exact decide_eq_false (fun z => nomatch z)
  | .dict0, h => by cases h; exact decide_eq_false (fun z => nomatch z)
  | .dct _ _ _ _, h => by cases h <;> exact decide_eq_false (fun z => nomatch z)
def fIsN (neg : Bool) (x y : D) (q : KD) : Prop := y = .non ∧ q (.bl (if neg then !isNon x else isNon x))
theorem sr_isN : SimR (fun x y H Q => y = .non ∧ Q (.bl (decide (x = .non))) H) (fIsN false) := fun W H x y dx dy Q q k hx hy h hk => by
  obtain ⟨rfl, h⟩ := h
  cases hy
  refine ⟨rfl, ?_⟩
  rw [isNon_eq hx]
  exact hk W _ _ H (.refl k) (.bl _) h
def rNotInU (K : PySem.W.Frag) : R2 := fun x y H Q => Gn.rNotInT K x y H Q ∨ rNotInD K x y H Q
theorem op_notInU {X : Cx} (K : PySem.W.Frag) (hu : X.A.units + 65 < cLine) (hK : X.K = K := by rfl) : OpR X (compareOp .NotIn) (rNotInU K) := by
  intro pins s σ H x y v u Q I rx ry h
  rcases h with h | h
  · exact Gn.notInT K hu hK pins s σ H x y v u Q I rx ry h
  · subst hK; exact op_notInD hu pins s σ H x y v u Q I rx ry h
def fIn (neg : Bool) (x y : D) (q : KD) : Prop := ∃ p ds ps, toPy x = some p ∧ (y = .tup ds ∨ y = .lst ds) ∧ toPyA ds = some ps ∧ SeqAt.shaped p = true ∧ SeqAt.shaped (.list ps) = true ∧ q (.bl (if neg then !ps.any (fun z => PyData.eqv z p) else ps.any fun z => PyData.eqv z p))
def rIxU (K : PySem.W.Frag) : R2 := fun x y H Q => rIxL K x y H Q ∨ rIxT K x y H Q
theorem ixU {X : Cx} (K : PySem.W.Frag) (hK : X.K = K := by rfl) : IxR X (rIxU K) := by
  intro value slice pins s σ H x y v u Q I rx ry h he
  rcases h with h | h
  · exact ixL K hK value slice pins s σ H x y v u Q I rx ry h he
  · exact ixT K hK value slice pins s σ H x y v u Q I rx ry h he
def fIx (x y : D) (q : KD) : Prop := ∃ ds i d, (x = .tup ds ∨ x = .lst ds) ∧ y = .int i ∧ atI ds i = some d ∧ q d
theorem atI_vd {W : Wd} {vs : List V} {ds : List D} {i : Int} {d : D} (t : VdA W vs ds) (h : atI ds i = some d) : ∃ v, atI vs i = some v ∧ Vd W v d := by
  unfold atI at h ⊢
  rw [t.length]
  cases e : ixN ds.length i with
  | none =>
    rw [e] at h
    cases h
  | some j =>
    rw [e] at h
    exact t.get' h
theorem sr_ix {K : PySem.W.Frag} : SimR (rIxU K) fIx := fun W H x y dx dy Q q k hx hy h hk => by
  obtain ⟨ds, i, d, e1, rfl, e3, h⟩ := h
  cases hy
  rcases e1 with rfl | rfl
  · obtain ⟨a, vs, rfl, f, hh, t⟩ := tup_of k hx rfl
    obtain ⟨v, e4, hv⟩ := atI_vd t e3
    exact .inr ⟨a, vs, i, v, rfl, rfl, SqT.of hh, e4, hk W v d H (.refl k) hv h⟩
  · obtain ⟨a, vs, rfl, f, hh, t⟩ := lst_of k hx rfl
    obtain ⟨v, e4, hv⟩ := atI_vd t e3
    exact .inl ⟨a, vs, i, v, rfl, rfl, SqL.of hh, e4, hk W v d H (.refl k) hv h⟩
def cutD (xs : List D) (lo hi : Option Int) : List D := (xs.drop (HT.sIx xs.length 0 lo)).take (HT.sIx xs.length xs.length hi - HT.sIx xs.length 0 lo)
theorem VdA.cut {W : Wd} {vs : List V} {ds : List D} (t : VdA W vs ds) (lo hi : Option Int) : VdA W (cutV vs lo hi) (cutD ds lo hi) := by
  unfold cutV cutD
  rw [t.length]
  exact (t.drop _).take _
def rSlU (K : PySem.W.Frag) : V → Option Int → Option Int → Hp → VK → Prop := fun x lo hi H Q => rCutT x lo hi H Q ∨ rSlL K x lo hi H Q
theorem slU {X : Cx} (K : PySem.W.Frag) (hK : X.K = K := by rfl) : SlR X (rSlU K) := by
  intro pins s σ H x v vl vu lo hi sl Q I rx hs pl pu h
  rcases h with h | h
  · exact slT pins s σ H x v vl vu lo hi sl Q I rx hs pl pu h
  · exact slL K hK pins s σ H x v vl vu lo hi sl Q I rx hs pl pu h
def fSl (x : D) (lo hi : Option Int) (q : KD) : Prop := match x with
  | .tup ds => q (.tup (cutD ds lo hi))
  | .lst ds => q (.lst (cutD ds lo hi))
  | _ => False
theorem sl_U {K : PySem.W.Frag} : SimSl (rSlU K) fSl := fun W H x dx lo hi Q q k hx h hk => by
  cases hx with
  | tup a t =>
    refine .inl ⟨_, _, rfl, k.f _ _ a, fun p H' hp s => ?_⟩
    have g := Go.putS k s hp (.inr ⟨_, rfl⟩)
    exact hk _ _ _ H' g (.tup (upd_same (H := W.F)) ((t.cut lo hi).mono g.le)) h
  | lst a t =>
    refine .inr ⟨_, _, rfl, SqL.of (k.f _ _ a), fun p hp => ?_⟩
    exact hk _ _ _ _ (Go.put k hp) (.lst (upd_same (H := W.F)) ((t.cut lo hi).mono (Go.put k hp).le)) h
  | _ => exact h.elim
def fRep (x y : D) (q : KD) : Prop := match x, y with
  | .tup ds, .int k => ds ≠ [] ∧ 1 ≤ k ∧ k ≤ 1000 ∧ ds.length ≤ 1000 ∧ q (.tup (List.replicate k.toNat ds).flatten)
  | _, _ => False
theorem VdA.rep {W : Wd} {vs : List V} {ds : List D} (t : VdA W vs ds) : ∀ n, VdA W (List.replicate n vs).flatten (List.replicate n ds).flatten
  | 0 => .nil
  | n + 1 => by
    rw [List.replicate_succ, List.replicate_succ, List.flatten_cons, List.flatten_cons]
    exact t.append (VdA.rep t n)
theorem sr_rep {K : PySem.W.Frag} : SimR (rRepA K) fRep := fun W H x y dx dy Q q k hx hy h hk => by
  cases hx with
  | tup a t =>
    cases hy with
    | int i =>
      obtain ⟨h1, h2, h3, h4, h⟩ := h
      refine ⟨_, i, _, rfl, rfl, k.f _ _ a, fun z => h1 ?_, h2, h3, by rw [t.length]; exact h4, fun p H' hp s => ?_⟩
      · subst z
        cases t
        rfl
      · have g := Go.putS k s hp (.inr ⟨_, rfl⟩)
        exact hk _ _ _ H' g (.tup (upd_same (H := W.F)) ((t.rep _).mono g.le)) h
    | _ => exact h.elim
  | _ => exact h.elim
def fLen (K : PySem.W.Frag) (xs : List D) (q : KD) : Prop := (∃ ds, (xs = [.tup ds] ∨ xs = [.lst ds]) ∧ q (.int (ds.length : Nat))) ∨ ∃ ns, xs = [.scr K ns] ∧ q (.int (ns.length : Nat))
theorem one_of {W : Wd} {vs : List V} {d : D} (h : VdA W vs [d]) : ∃ v, vs = [v] ∧ Vd W v d := by
  cases h with
  | cons h t =>
    cases t
    exact ⟨_, rfl, h⟩
theorem two_of {W : Wd} {vs : List V} {d e : D} (h : VdA W vs [d, e]) : ∃ v u, vs = [v, u] ∧ Vd W v d ∧ Vd W u e := by
  cases h with
  | cons h t =>
    obtain ⟨u, rfl, hu⟩ := one_of t
    exact ⟨_, _, rfl, h, hu⟩
theorem sc_len {K : PySem.W.Frag} : SimC (Com.rLen K) (fLen K) := fun W H xs ds Q q k hx h hk => by
  rcases h with ⟨es, e1, h⟩ | ⟨ns, rfl, h⟩
  rcases e1 with rfl | rfl
  · obtain ⟨v, rfl, hv⟩ := one_of hx
    obtain ⟨a, vs, rfl, f, hh, t⟩ := tup_of k hv rfl
    exact ⟨a, vs, rfl, .inr (SqT.of hh), by rw [t.length]; exact hk W _ _ H (.refl k) (.int _) h⟩
  · obtain ⟨v, rfl, hv⟩ := one_of hx
    obtain ⟨a, vs, rfl, f, hh, t⟩ := lst_of k hv rfl
    exact ⟨a, vs, rfl, .inl (SqL.of hh), by rw [t.length]; exact hk W _ _ H (.refl k) (.int _) h⟩
  · obtain ⟨v, rfl, hv⟩ := one_of hx
    cases hv with
    | scr g => exact ⟨_, _, rfl, .inl (g H k.f), by rw [List.length_map]; exact hk W _ _ H (.refl k) (.int _) h⟩
def fTuple (xs : List D) (q : KD) : Prop := ∃ ds, (xs = [.tup ds] ∨ xs = [.lst ds]) ∧ q (.tup ds)
def fList (xs : List D) (q : List D → Prop) : Prop := ∃ ds, (xs = [.tup ds] ∨ xs = [.lst ds]) ∧ q ds
theorem sc_tuple {K : PySem.W.Frag} : SimC (rTupleOf K) fTuple := fun W H xs ds Q q k hx h hk => by
  obtain ⟨es, e1, h⟩ := h
  rcases e1 with rfl | rfl
  · obtain ⟨v, rfl, hv⟩ := one_of hx
    obtain ⟨a, vs, rfl, f, hh, t⟩ := tup_of k hv rfl
    exact ⟨a, vs, rfl, .inr ⟨SqT.of hh, hk W _ _ H (.refl k) (.tup f t) h⟩⟩
  · obtain ⟨v, rfl, hv⟩ := one_of hx
    obtain ⟨a, vs, rfl, f, hh, t⟩ := lst_of k hv rfl
    refine ⟨a, vs, rfl, .inl ⟨SqL.of hh, fun p hp => ?_⟩⟩
    have g := Go.put (o := .tup vs) k hp
    exact hk _ _ _ _ g (.tup (upd_same (H := W.F)) (t.mono g.le)) h
/-- a built-in that makes a new list -/
def SimCN (r : List V → Hp → VK → Prop) (f : List D → (List D → Prop) → Prop) : Prop := ∀ W H xs ds Q q, Ok W H → VdA W xs ds → f ds q → Kn W H Q q → r xs H Q
theorem scn_list {K : PySem.W.Frag} : SimCN (rListOf K) fList := fun W H xs ds Q q k hx h hk => by
  obtain ⟨es, e1, h⟩ := h
  rcases e1 with rfl | rfl
  · obtain ⟨v, rfl, hv⟩ := one_of hx
    obtain ⟨a, vs, rfl, f, hh, t⟩ := tup_of k hv rfl
    exact ⟨a, vs, rfl, .inr (SqT.of hh), fun p hp => hk W _ p vs es (.own k hp) hp upd_same (k.no hp).1 (k.no hp).2 t h⟩
  · obtain ⟨v, rfl, hv⟩ := one_of hx
    obtain ⟨a, vs, rfl, f, hh, t⟩ := lst_of k hv rfl
    exact ⟨a, vs, rfl, .inl (SqL.of hh), fun p hp => hk W _ p vs es (.own k hp) hp upd_same (k.no hp).1 (k.no hp).2 t h⟩
theorem sn_cb {E : XK} {n : Nat} {ta : TA} {ma : MA} {r : List V → Hp → VK → Prop} {f : List D → (List D → Prop) → Prop} (ha : SimA E n ta ma) (hr : SimCN r f) : SimN E (tCB r ta) (fun ρ q e => ma ρ (fun ds => f ds q) e) := fun W H0 H σ ρ Q q e R h k kx =>
  ha W H0 H σ ρ _ _ e R h (fun W1 xs ds H1 g1 hx _ h1 => hr W1 H1 xs ds Q q g1.ok hx h1 fun W' H' p vs es g hp e1 f1 n1 t1 h2 => k W' H' p vs es (g1.trans R.ok g) (g1.gone R.ok hp) e1 f1 n1 t1 h2) kx
theorem sc_list {K : PySem.W.Frag} : SimC (rListOf K) (fun xs q => fList xs fun ds => q (.lst ds)) := fun W H xs ds Q q k hx h hk => scn_list W H xs ds Q _ k hx h (kn_of k hk)
theorem sn_lst {E : XK} {n : Nat} {ta : TA} {ma : MA} (ha : SimA E n ta ma) : SimN E (tLst ta) (fun ρ q e => ma ρ (fun ds => ds.length ≤ sizeLine ∧ q ds) e) := fun W H0 H σ ρ Q q e R h k kx =>
  ha W H0 H σ ρ _ _ e R h (fun W1 xs ds H1 g1 hx _ h1 => ⟨by rw [hx.length]; exact h1.1, fun p hp => k W1 _ p xs ds (g1.trans R.ok (.own g1.ok hp)) (g1.gone R.ok hp) upd_same (g1.ok.no hp).1 (g1.ok.no hp).2 hx h1.2⟩) kx
def fAll (xs : List D) (q : KD) : Prop := ∃ bs : List Bool, xs = [.lst (bs.map .bl)] ∧ q (.bl (bs.all id))
theorem sc_all {K : PySem.W.Frag} : SimC (rAll K) fAll := fun W H xs ds Q q k hx h hk => by
  obtain ⟨bs, rfl, h⟩ := h
  obtain ⟨v, rfl, hv⟩ := one_of hx
  obtain ⟨a, vs, rfl, f, hh, t⟩ := lst_of k hv rfl
  exact ⟨a, bs, rfl, SqL.of (by rw [hh, t.of_bls]), hk W _ _ H (.refl k) (.bl _) h⟩
def fMax (xs : List D) (q : KD) : Prop := ∃ ns : List Int, xs = [.lst (ns.map .int)] ∧ 0 < ns.length ∧ ∀ m, m ∈ ns → (∀ y, y ∈ ns → y ≤ m) → q (.int m)
theorem sc_max {K : PySem.W.Frag} : SimC (rMax K) fMax := fun W H xs ds Q q k hx h hk => by
  obtain ⟨bs, rfl, l, h⟩ := h
  obtain ⟨v, rfl, hv⟩ := one_of hx
  obtain ⟨a, vs, rfl, f, hh, t⟩ := lst_of k hv rfl
  exact ⟨a, bs, rfl, SqL.of (by rw [hh, t.of_ints]), l, fun m h1 h2 => hk W _ _ H (.refl k) (.int _) (h m h1 h2)⟩
def fMin2 (xs : List D) (q : KD) : Prop := ∃ i j, xs = [.int i, .int j] ∧ q (.int (if j < i then j else i))
theorem sc_min2 : SimC (fun xs H Q => ∃ i j, xs = [.int i, .int j] ∧ Q (.int (if j < i then j else i)) H) fMin2 := fun W H xs ds Q q k hx h hk => by
  obtain ⟨i, j, rfl, h⟩ := h
  exact ⟨i, j, hx.of_ints (ns := [i, j]), hk W _ _ H (.refl k) (.int _) h⟩
def tyD : D → Value
  | .non => .type "NoneType"
  | .bl _ => .type "bool"
  | .int _ => .type "int"
  | .str _ => .type "str"
  | .tup _ => .type "tuple"
  | .lst _ => .type "list"
  | .obj C _ _ => .ref C
  | .flow _ => .type "list"
  | .scr _ _ => .type "list"
  | .dict0 => .type "dict"
  | .dct _ _ _ _ => .type "dict"
  | .vry _ d => tyD d
/-- what is asked of an object's class -/
structure ClsT (K : PySem.W.Frag) (C : Addr) : Prop where
  cl : Cls K C
  ca : PySem.W.findIn K (.ref C) "__class__" = some (some (.builtin "object.__class__"))
  cn : PySem.W.specialIn K (.builtin "object.__class__") "__get__" = some (some (.builtin "getset_descriptor.__get__"))
  ct : PySem.W.takesIn K (.builtin "object.__class__") = some true
  cm : PySem.W.mroIn K C (.type "object") = some true
  kN : ∀ n ∈ (["int", "bool", "tuple", "list", "str", "dict"] : List String), PySem.W.kitOne K (.ref C) (.type n) = some false
def clsOk (K : PySem.W.Frag) : D → Prop
  | .obj C _ _ => ClsT K C
  | .scr _ _ => False
  | .dct _ _ _ _ => False
  | .vry _ _ => False
  | _ => True
theorem tyx_of {K : PySem.W.Frag} {W : Wd} {H : Hp} {v : V} (k : Ok W H) : ∀ {d : D}, Vd W v d → clsOk K d → TyX K H v (tyD d)
  | .vry _ _, h, c => False.elim c
  | .non, h, c => by cases h; exact .base .non
  | .bl b, h, c => by cases h; exact .base (.bl b)
  | .int i, h, c => by cases h; exact .base (.int i)
  | .str s, h, c => by cases h; exact .base (.str s)
  | .tup _, h, c => by cases h with | tup a t => exact .base (.tup (k.f _ _ a))
  | .lst _, h, c => by cases h with | lst a t => exact .base (.lst (k.f _ _ a))
  | .obj _ _ _, h, c => by cases h with | obj a l t => exact .base (.ins (k.f _ _ a) c.cl c.ca c.cn c.ct c.cm)
  | .flow _, h, c => by
    cases h with
    | flow g nt =>
      obtain ⟨n, x, r, e⟩ := (k.g _ g).2.flow nt
      exact .base (.lst e)
  | .scr _ _, h, c => c.elim
  | .dct _ _ _ _, h, c => c.elim
  | .dict0, h, c => by cases h with | dict0 h => exact .base (.dK (k.f _ _ h))
def fIsi (K : PySem.W.Frag) (u : Value) (x : D) (q : KD) : Prop := clsOk K x ∧ ∃ b, PySem.W.kitOne K (tyD x) u = some b ∧ q (.bl b)
/-- isinstance(e, T), T a built-in class or one of one's own -/
abbrev mIsi (K : PySem.W.Frag) (u : Value) (a : ME) : ME := fun ρ q e => a ρ (fun x => fIsi K u x q) e
theorem si_isi {E : XK} {K : PySem.W.Frag} {te : TE} {me : ME} {c : V} {u : Value} (hc : ClsV c u) (ha : SimE E te me) : SimE E (tCB (rIsi K) (tCons te (tCons (tC c) tNil))) (mIsi K u me) := fun W H0 H σ ρ Q q e R h k kx =>
  ha W H0 H σ ρ _ _ e R h (fun W1 v d H1 g1 hv h1 => by
    obtain ⟨c1, b, e1, h1⟩ := h1
    exact ⟨v, c, tyD d, u, b, rfl, hc, tyx_of g1.ok hv c1, e1, k W1 _ _ H1 g1 (.bl b) h1⟩) kx
end Dt
set_option Elab.async false
set_option linter.all false
set_option maxRecDepth 100000
set_option maxHeartbeats 4000000
namespace Dt
open PySem PySem.Spec PyProof.Rows L2 Com
variable [Dt.Tb]
theorem passE {X : Cx} {E : XK} : Passes CX0 X E := fun _ _ _ _ _ _ _ h => h.elim
def startD (N : List Str) (ds : List D) : Ev := ds.map (fun d => some (.d d)) ++ List.replicate (N.length - ds.length) none
theorem VdA.getD {W : Wd} {vs : List V} {ds : List D} (t : VdA W vs ds) {i : Nat} {d : D} (h : ds[i]? = some d) : ∃ v, vs[i]? = some v ∧ Vd W v d := t.get' h
theorem start_get {N : List Str} {ds : List D} {i : Nat} {e : En} (h : (startD N ds)[i]? = some (some e)) : ∃ d, e = .d d ∧ ds[i]? = some d := by
  unfold startD at h
  by_cases lt : i < (ds.map (fun d => some (En.d d))).length
  · rw [List.getElem?_append_left lt, List.getElem?_map] at h
    cases q : ds[i]? with
    | none => rw [q] at h; cases h
    | some d =>
      rw [q] at h
      cases h
      exact ⟨d, rfl, rfl⟩
  · rw [List.getElem?_append_right (by omega)] at h
    have := List.mem_of_getElem? h
    have := (List.mem_replicate.mp this).2
    cases this
theorem rep_start {W : Wd} {H : Hp} {N : List Str} {vs : List V} {ds : List D} (k : Ok W H) (t : VdA W vs ds) : Rep W H H (L2.start N vs) (startD N ds) where
  ok := k
  len := by
    unfold L2.start startD
    simp [t.length]
  at_ := fun i e h => by
    obtain ⟨d, rfl, h1⟩ := start_get h
    obtain ⟨v, h2, hv⟩ := t.get' h1
    refine ⟨v, ?_, hv⟩
    unfold L2.start
    have := (List.getElem?_eq_some_iff.mp h2).1
    rw [List.getElem?_append_left (by simpa using this), List.getElem?_map, h2]
    rfl
  sep := fun i j ds' es v h _ _ _ => by
    obtain ⟨d, e, _⟩ := start_get h
    cases e
/-- what follows a def's body -/
def endD (q : KD) : EndsD := ⟨fun _ => q .non, q, fun _ => False, fun _ => False⟩
theorem ct_end {W : Wd} {H : Hp} {Q : VK} {q : KD} {E : XK} {e : XD} (k : Kv W H Q q) (D : Ends) (h1 : D.nx = fun _ H' => Q .non H') (h2 : D.rt = Q) : Ct W H W D (endD q) where
  nx := fun W' H' σ' ρ' _ g R h => by rw [h1]; exact k W' _ _ H' g .non h
  rt := fun W' H' v x _ g hv h => by rw [h2]; exact k W' v x H' g hv h
  bk := fun W' H' σ' ρ' _ g R h => h.elim
  ct := fun W' H' σ' ρ' _ g R h => h.elim
section
variable {P : Program} {w : World} {K : PySem.W.Frag} {mg : Str → Option Value} {base : Heap} {x qual : Str} {C : Addr} {st : Stmt} {ps N : List Str} {k : Nat} {sp : SpD}
theorem DefAtD.ok (D : DefAt K mg x st ps) (S : FnScope N ps (defScope st)) (len : ∀ ds q e, sp ds q e → ds.length = ps.length)
    (hbody : ∀ (f : Addr) (cdv : Value) (A : Around) (outer : List Env) (s : Shared) (H : Hp) (E : XK), Room k (A.deeper (envOfC x (defScope st) s.heap.objs.size f cdv)) →
      ∃ t m, PSs (cxOf CX0 P w K mg base N x (defScope st) f cdv A outer s H E).nox (defBody st) t ∧ SimS E t m ∧ ∀ ds q e, sp ds q e → m (endD q) (startD N ds) e) : DefOk P w K mg base CX0 (k + 1) x (spOf sp) := by
  refine D.ok S (fun vs H Q E h => ?_) (fun f cdv A outer s H vs Q E hr h => ?_)
  · obtain ⟨W, ds, q, e, k0, t, h, _⟩ := h
    rw [t.length, len ds q e h]
  obtain ⟨W, ds, q, e, k0, t, h, kq, kx⟩ := h
  obtain ⟨t', m, p, sm, hm⟩ := hbody f cdv A outer s H E hr
  exact ⟨t', p, sm W H W H _ _ _ (endD q) e k0 (.refl k0) (rep_start k0 t) (hm ds q e h) (ct_end (E := E) (e := e) kq _ rfl rfl) kx⟩
theorem MethAtD.ok (D : MethAt K C x qual st ps) (S : FnScope N ps (defScope st)) (len : ∀ ds q e, sp ds q e → ds.length = ps.length)
    (hbody : ∀ (f : Addr) (cdv : Value) (A : Around) (outer : List Env) (s : Shared) (H : Hp) (E : XK), Room k (A.deeper (envOfC qual (defScope st) s.heap.objs.size f cdv)) →
      ∃ t m, PSs (cxOf CX0 P w K mg base N qual (defScope st) f cdv A outer s H E).nox (defBody st) t ∧ SimS E t m ∧ ∀ ds q e, sp ds q e → m (endD q) (startD N ds) e) : MethOk P w K mg base CX0 (k + 1) C x (spOf sp) := by
  refine D.fn S (fun vs H Q E h => ?_) (fun f cdv A outer s H vs Q E hr h => ?_)
  · obtain ⟨W, ds, q, e, k0, t, h, _⟩ := h
    rw [t.length, len ds q e h]
  obtain ⟨W, ds, q, e, k0, t, h, kq, kx⟩ := h
  obtain ⟨t', m, p, sm, hm⟩ := hbody f cdv A outer s H E hr
  exact ⟨t', p, sm W H W H _ _ _ (endD q) e k0 (.refl k0) (rep_start k0 t) (hm ds q e h) (ct_end (E := E) (e := e) kq _ rfl rfl) kx⟩
/-- the function itself (for calls by names) -/
theorem FunD.ok {f : Addr} {fd : FuncData} (F : Fun K x qual st f fd) (S : FnScope N ps (defScope st)) (len : ∀ ds q e, sp ds q e → ds.length = ps.length)
    (hbody : ∀ (cdv : Value) (A : Around) (outer : List Env) (s : Shared) (H : Hp) (E : XK), Room k (A.deeper (envOfC qual (defScope st) s.heap.objs.size f cdv)) →
      ∃ t m, PSs (cxOf CX0 P w K mg base N qual (defScope st) f cdv A outer s H E).nox (defBody st) t ∧ SimS E t m ∧ ∀ ds q e, sp ds q e → m (endD q) (startD N ds) e) : FnOk P w K mg base CX0 (k + 1) f fd ps (spOf sp) := by
  refine F.ok S (fun vs H Q E h => ?_) (fun cdv A outer s H vs Q E hr h => ?_)
  · obtain ⟨W, ds, q, e, k0, t, h, _⟩ := h
    rw [t.length, len ds q e h]
  obtain ⟨W, ds, q, e, k0, t, h, kq, kx⟩ := h
  obtain ⟨t', m, p, sm, hm⟩ := hbody cdv A outer s H E hr
  exact ⟨t', p, sm W H W H _ _ _ (endD q) e k0 (.refl k0) (rep_start k0 t) (hm ds q e h) (ct_end (E := E) (e := e) kq _ rfl rfl) kx⟩
theorem defok_imp {sp' : Sp} {sp'' : Sp} {CX : CXT} (D : DefOk P w K mg base CX k x sp') (h : ∀ vs H Q E, sp'' vs H Q E → sp' vs H Q E) : DefOk P w K mg base CX k x sp'' := let ⟨f, F, m, kp⟩ := D.ex; ⟨f, F.imp h, m, kp⟩
end
section
variable {E : XK} {K : PySem.W.Frag} {te ta ti : TE} {me mi : ME} {na : MA}
theorem Rep.newOwn {W W' : Wd} {H H0 H' : Hp} {σ : L2.St} {ρ : Ev} {i : Nat} {p : Addr} {vs : List V} {ds : List D} (R : Rep W H0 H σ ρ) (g : Go W H W' H') (hp : H p = none) (z : H0 p = none) (e : H' p = some (.lst vs)) (f : W'.F p = none) (n : ¬ W'.G p) (t : VdA W' vs ds) :
    Rep W' H0 H' (σ.set i (some (.ref p))) (ρ.set i (some (.own ds))) := by
  have R1 := R.go g
  have noa : ∀ (j : Nat) (xs : List D) (u : V), ρ[j]? = some (some (.own xs)) → σ[j]? = some (some u) → u ≠ .ref p := fun j xs u q q2 e => by
    obtain ⟨w, e1, b, ws, e2, e3, _⟩ := R.at_ j _ q
    rw [q2] at e1
    cases e1
    subst e
    cases e2
    rw [hp] at e3
    cases e3
  refine ⟨R1.ok, by rw [List.length_set, List.length_set, R.len], fun j e' q => ?_, fun j k xs ys u q1 q2 q3 q4 => ?_⟩
  · rcases getset q with ⟨rfl, e1, l⟩ | ⟨n', q⟩
    · cases e1
      exact ⟨_, List.getElem?_set_self (by rw [R.len]; exact l), p, vs, rfl, e, t, f, n, z⟩
    · obtain ⟨u, e1, s⟩ := R1.at_ j e' q
      exact ⟨u, by rw [List.getElem?_set_ne (fun z => n' z.symm)]; exact e1, s⟩
  · rcases getset q1 with ⟨e1, _, l1⟩ | ⟨n1, q1'⟩
    · rcases getset q2 with ⟨e2, _, _⟩ | ⟨n2, q2'⟩
      · rw [e1, e2]
      · rw [e1, List.getElem?_set_self (by rw [R.len]; exact l1)] at q3
        rw [List.getElem?_set_ne (fun z => n2 z.symm)] at q4
        cases q3
        exact absurd rfl (noa k _ _ q2' q4)
    · rw [List.getElem?_set_ne (fun z => n1 z.symm)] at q3
      rcases getset q2 with ⟨e2, _, l2⟩ | ⟨n2, q2'⟩
      · rw [e2, List.getElem?_set_self (by rw [R.len]; exact l2)] at q4
        cases q4
        exact absurd rfl (noa j _ _ q1' q3)
      · rw [List.getElem?_set_ne (fun z => n2 z.symm)] at q4
        exact R.sep j k xs ys u q1' q2' q3 q4
/-- x = (a new list), to be changed -/
abbrev msOwn (i : Nat) (a : MA) : MS := fun d ρ e => a ρ (fun ds => d.nx (ρ.set i (some (.own ds)))) e
theorem ss_own {i : Nat} (h : SimN E te na) : SimS E (tAsg te (gName i)) (msOwn i na) := fun W0 H0 W H σ ρ D d e k0 g R hm c kx =>
  h W H0 H σ ρ _ _ e R hm (fun W' H' p vs ds g1 hp e1 f1 n1 t1 h1 => c.nx W' H' _ _ g1.le (g.trans k0 g1) (R.newOwn g1 hp (g.gone k0 hp) e1 f1 n1 t1) h1) (kx.go k0 g)
theorem Rep.own {W : Wd} {H H0 : Hp} {σ : L2.St} {ρ : Ev} {i : Nat} {ds : List D} (R : Rep W H0 H σ ρ) (h : ρ[i]? = some (some (.own ds))) : ∃ a vs, σ[i]? = some (some (.ref a)) ∧ H a = some (.lst vs) ∧ VdA W vs ds ∧ W.F a = none ∧ ¬ W.G a ∧ H0 a = none := by
  obtain ⟨v, e, a, vs, e2, r⟩ := R.at_ i _ h
  subst e2
  exact ⟨a, vs, e, r⟩
/-- from here on it stays as it is -/
abbrev msFrz (i : Nat) (m : MS) : MS := fun d ρ e => ∃ ds, ρ[i]? = some (some (.own ds)) ∧ m d (ρ.set i (some (.d (.lst ds)))) e
theorem Rep.frz {W : Wd} {H H0 : Hp} {σ : L2.St} {ρ : Ev} {i : Nat} {a : Addr} {vs : List V} {ds : List D} (R : Rep W H0 H σ ρ) (h : ρ[i]? = some (some (.own ds))) (hs : σ[i]? = some (some (.ref a))) (k : Ok (W.put a (.lst vs)) H) (l : Le W (W.put a (.lst vs))) (t : VdA W vs ds) (f : W.F a = none) : Rep (W.put a (.lst vs)) H0 H σ (ρ.set i (some (.d (.lst ds)))) where
  ok := k
  len := by rw [List.length_set, R.len]
  at_ := fun j e q => by
    rcases getset q with ⟨rfl, e1, _⟩ | ⟨n, q⟩
    · cases e1
      exact ⟨_, hs, .lst (upd_same (H := W.F)) (t.mono l)⟩
    · obtain ⟨u, e1, s⟩ := R.at_ j e q
      refine ⟨u, e1, ?_⟩
      cases e with
      | d x => exact Vd.mono l s
      | own xs =>
        obtain ⟨b, ws, e2, e3, r1, r2, r3, r4⟩ := s
        refine ⟨b, ws, e2, e3, r1.mono l, ?_, r3, r4⟩
        show upd W.F a _ b = none
        rw [upd_ne (fun z => n (R.sep j i xs ds u q h e1 (by rw [e2, z]; exact hs)))]
        exact r2
  sep := fun j k xs ys u q1 q2 q3 q4 => by
    rcases getset q1 with ⟨_, e1, _⟩ | ⟨_, q1⟩
    · cases e1
    rcases getset q2 with ⟨_, e1, _⟩ | ⟨_, q2⟩
    · cases e1
    exact R.sep j k xs ys u q1 q2 q3 q4
theorem ss_frz {i : Nat} {ts : TS} {ms : MS} (h : SimS E ts ms) : SimS E ts (msFrz i ms) := fun W0 H0 W H σ ρ D d e k0 g R hm c kx => by
  obtain ⟨ds, h1, hm⟩ := hm
  obtain ⟨a, vs, e1, ha, t, f, n, z⟩ := R.own h1
  obtain ⟨g2, l2⟩ := g.freeze z f n ha
  exact h W0 H0 (W.put a (.lst vs)) H σ _ D d e k0 g2 (R.frz h1 e1 g2.ok l2 t f) hm (c.up l2) kx
/-- x.append(e) -/
abbrev msApp (i : Nat) (a : ME) : MS := fun d ρ e => ∃ ds, ρ[i]? = some (some (.own ds)) ∧ a ρ (fun y => ds.length < sizeLine ∧ d.nx (ρ.set i (some (.own (ds ++ [y]))))) e
theorem own_stay {W W' : Wd} {H H' : Hp} {a : Addr} {vs : List V} {ds : List D} (k : Ok W H) (g : Go W H W' H') (e : H a = some (.lst vs)) (t : VdA W vs ds) (n : ¬ W.G a) : H' a = some (.lst vs) ∧ VdA W' vs ds := ⟨g.p _ _ e n, t.mono g.le⟩
theorem ss_app {i : Nat} (ha : SimE E te me) : SimS E (tDrop (tBM K "list" rAppend (tVar i) (tCons te tNil))) (msApp i me) := fun W0 H0 W H σ ρ D d e k0 g R hm c kx => by
  obtain ⟨ds, h1, hm⟩ := hm
  obtain ⟨a, vs, e1, hh, t, f, n, z⟩ := R.own h1
  refine ⟨.ref a, e1, .inl ⟨rfl, vs, SqL.of hh⟩, ?_⟩
  refine ha W H0 H σ ρ _ _ e R hm (fun W1 v y H1 g1 hv h2 => ?_) (kx.go k0 g)
  obtain ⟨e2, t2⟩ := own_stay R.ok g1 hh t n
  obtain ⟨R2, f2, n2, z2⟩ := (R.go g1).mutOwn h1 e1 (t2.append (.one hv))
  refine ⟨a, vs, v, rfl, rfl, e2, by rw [t2.length]; exact h2.1, ?_⟩
  exact c.nx W1 _ σ _ g1.le ((g.trans k0 g1).mut z f2 n2) R2 h2.2
/-- x[k] op= e -/
abbrev msAugS (i : Nat) (b a : ME) (f : D → D → KD → Prop) : MS := fun d ρ e => ∃ ds, ρ[i]? = some (some (.own ds)) ∧ b ρ (fun kd => ∃ k j x, kd = .int k ∧ ixN ds.length k = some j ∧ ds[j]? = some x ∧ a ρ (fun y => f x y fun z => d.nx (ρ.set i (some (.own (ds.set j z))))) e) e
theorem ss_augS {i : Nat} {t : TIp} {f : D → D → KD → Prop} (ha : SimE E te me) (hi : SimE E ti mi) (hp : SimIp t f) : SimS E (tAugS (tVar i) ti te (rIxL K) t rSetL) (msAugS i mi me f) := fun W0 H0 W H σ ρ D d e k0 g R hm c kx => by
  obtain ⟨ds, h1, hm⟩ := hm
  obtain ⟨a, vs, e1, hh, tt, f0, n, z⟩ := R.own h1
  refine ⟨.ref a, e1, ?_⟩
  refine hi W H0 H σ ρ _ _ e R hm (fun W1 u yd H1 g1 hu h3 => ?_) (kx.go k0 g)
  obtain ⟨kk, j, x, rfl, hj, hx, h3⟩ := h3
  cases hu
  obtain ⟨e2, t2⟩ := own_stay R.ok g1 hh tt n
  obtain ⟨v, hv, rv⟩ := t2.get' hx
  refine ⟨a, vs, kk, v, rfl, rfl, SqL.of e2, by unfold atI; rw [t2.length, hj]; exact hv, ?_⟩
  have n1 : ¬ W1.G a := fun q => by
    rcases g1.gn a q with q | q
    · exact n q
    · rw [hh] at q; cases q
  refine ha W1 H0 H1 σ ρ _ _ e (R.go g1) h3 (fun W2 y yd H2 g2 hy h4 => ?_) (kx.go k0 (g.trans k0 g1))
  refine hp W2 H2 v y x yd _ _ g2.ok (rv.mono g2.le) hy h4 fun W3 zv zd H3 g3 hz h5 => ?_
  have g23 := g2.trans g1.ok g3
  obtain ⟨e3, t3⟩ := own_stay g1.ok g23 e2 t2 n1
  obtain ⟨R2, f2, n2, z2⟩ := ((R.go g1).go g23).mutOwn h1 e1 (t3.set j hz)
  refine ⟨a, vs, kk, j, rfl, rfl, e3, by rw [t3.length]; exact hj, ?_⟩
  exact c.nx W3 _ σ _ (g1.trans R.ok g23).le ((g.trans k0 (g1.trans R.ok g23)).mut z f2 n2) R2 h5
theorem ip_I {g : Int → Int → Int} : SimIp (ipI g) (fI (fun _ _ => True) fun i j => .int (g i j)) := fun W H x y dx dy Q q k hx hy h hk => by
  cases hx with
  | int i =>
    cases hy with
    | int j => exact ⟨i, j, rfl, rfl, hk W _ _ H (.refl k) (.int _) h.2⟩
    | _ => exact h.elim
  | _ => exact h.elim
end
def mLc2O (g : MG) (t : MT) (i1 : MI) (g1 : MG) (t1 : MT) (x : ME) (vs vs1 : List Nat) (ρ : Ev) (e : XD) : List D → List D → (List D → Prop) → Prop
  | [], acc, q => q acc
  | d :: ds, acc, q => g d (wipeD ρ vs) fun ρ2 => t ρ2 (fun b => if b = true then i1 ρ2 (fun xs => mLcL g1 t1 x vs1 ρ2 e xs acc (fun acc' => mLc2O g t i1 g1 t1 x vs vs1 ρ e ds acc' q)) e else mLc2O g t i1 g1 t1 x vs vs1 ρ e ds acc q) e
abbrev mLc2N (i : MI) (g : MG) (t : MT) (i1 : MI) (g1 : MG) (t1 : MT) (x : ME) (vs vs1 : List Nat) : MA := fun ρ q e => i ρ (fun xs => mLc2O g t i1 g1 t1 x vs vs1 (plain ρ) e xs [] q) e
abbrev mLc2 (i : MI) (g : MG) (t : MT) (i1 : MI) (g1 : MG) (t1 : MT) (x : ME) (vs vs1 : List Nat) : ME := fun ρ q e => mLc2N i g t i1 g1 t1 x vs vs1 ρ (fun ds => q (.lst ds)) e
/-- the list that grows, seen from (W1, H1) -/
structure Grow (W1 : Wd) (H1 : Hp) (p : Addr) (W : Wd) (H : Hp) (us : List V) (acc : List D) : Prop where
  go : Go W1 H1 W H
  at_ : H p = some (.lst us)
  t : VdA W us acc
  f : W.F p = none
  n : ¬ W.G p
theorem Grow.step {W1 W W' : Wd} {H1 H H' : Hp} {p : Addr} {us : List V} {acc : List D} (k1 : Ok W1 H1) (x : Grow W1 H1 p W H us acc) (g : Go W H W' H') : Grow W1 H1 p W' H' us acc := by
  refine ⟨x.go.trans k1 g, g.p _ _ x.at_ x.n, x.t.mono g.le, ?_, fun z => ?_⟩
  · cases z : W'.F p with
    | none => rfl
    | some o =>
      rcases g.fn p o z with z | z | ⟨u, z, hs⟩
      · rw [x.f] at z; cases z
      · rw [x.at_] at z; cases z
      · rw [x.at_] at z; cases z; exact (still_lst hs).elim
  · rcases g.gn p z with z | z
    · exact x.n z
    · rw [x.at_] at z; cases z
theorem Grow.add {W1 W : Wd} {H1 H : Hp} {p : Addr} {us : List V} {acc : List D} {u : V} {y : D} (hp : H1 p = none) (x : Grow W1 H1 p W H us acc) (h : Vd W u y) : Grow W1 H1 p W (upd H p (.lst (us ++ [u]))) (us ++ [u]) (acc ++ [y]) :=
  ⟨x.go.mut hp x.f x.n, upd_same, x.t.append (.one h), x.f, x.n⟩
section
variable {E : XK} {K : PySem.W.Frag} {is js : List Nat} {g g1 : TG} {mg mg1 : MG} {te : TE} {me : ME} {tt tt1 : TT} {mt mt1 : MT} {ti ti1 : TI} {mi mi1 : MI}
theorem sn_lc2 {vs vs1 : List Nat} (hi : SimI E ti mi) (hg : SimG g mg is) (ht : SimT E tt mt) (hi1 : SimI E ti1 mi1) (hg1 : SimG g1 mg1 js) (ht1 : SimT E tt1 mt1) (hx : SimE E te me) (hs : ∀ i ∈ is, i ∈ vs) (hs1 : ∀ i ∈ js, i ∈ vs1) :
    SimN E (tLc2 ti g tt ti1 g1 tt1 te vs vs1) (mLc2N mi mg mt mi1 mg1 mt1 me vs vs1) := fun W H0 H σ ρ Q q e R h k kx =>
  hi W H0 H σ ρ _ _ e R h (fun W1 J xs H1 g1' hJ h1 Da hD => by
    have nD := g1'.ok.no hD
    refine ⟨fun i m H2 => m = xs.length - i ∧ i ≤ xs.length ∧ ∃ W2 us acc, Grow W1 H1 Da W2 H2 us acc ∧ mLc2O mg mt mi1 mg1 mt1 me vs vs1 (plain ρ) e (xs.drop i) acc q, ⟨xs.length, by simp, Nat.zero_le _, W1, [], [], ⟨.own g1'.ok hD, upd_same, .nil, nD.1, nD.2⟩, h1⟩, ?_⟩
    rintro i m H2 ⟨rfl, hi, W2, us, acc, G2, h2⟩
    by_cases hlt : i < xs.length
    · rw [List.drop_eq_getElem_cons hlt] at h2
      obtain ⟨j1, j2⟩ := (hJ i W2 H2 G2.go.le G2.go.ok).1 xs[i] (List.getElem?_eq_getElem hlt)
      refine .inr ⟨j1, fun H3 => ∃ W3 us acc, Grow W1 H1 Da W3 H3 us acc ∧ mLc2O mg mt mi1 mg1 mt1 me vs vs1 (plain ρ) e (xs.drop (i + 1)) acc q, fun H3 ⟨W3, us3, acc3, z⟩ => ⟨xs.length - (i + 1), by omega, rfl, hlt, W3, us3, acc3, z⟩, fun v H3 y => ?_⟩
      obtain ⟨W3, g3, hv⟩ := j2 v H3 y
      have G3 := G2.step g1'.ok g3
      have R3 : Rep W3 H0 H3 σ (plain ρ) := (R.go (g1'.trans R.ok G3.go)).plain
      refine hg W3 H0 H3 v xs[i] _ _ _ _ (R3.wipe vs) hv h2 fun σ4 ρ4 R4 w4 n4 h4 => ⟨by rw [w4 vs hs, wipe_two (fun _ h => h)], ?_⟩
      have N4 := n4 ((plain_no ρ).wipe vs)
      refine ht W3 H0 H3 σ4 ρ4 _ _ e R4 h4 (fun W5 b H5 g5 h5 => ?_) (kx.go R.ok (g1'.trans R.ok G3.go))
      have G5 := G3.step g1'.ok g5
      cases b with
      | false => exact (⟨W5, us, acc, G5, h5⟩ : ∃ W3 us acc, Grow W1 H1 Da W3 H5 us acc ∧ mLc2O mg mt mi1 mg1 mt1 me vs vs1 (plain ρ) e (xs.drop (i + 1)) acc q)
      | true =>
        refine (hi1 W5 H0 H5 σ4 ρ4 _ _ e (R4.go g5) h5 (fun W6 J1 ys H6 g6 hJ1 h6 => ?_) (kx.go R.ok (g1'.trans R.ok G5.go)) : ti1 σ4 H5 _)
        have G6 := G5.step g1'.ok g6
        have R6 := (R4.go g5).go g6
        refine ⟨fun j m H7 => m = ys.length - j ∧ j ≤ ys.length ∧ ∃ W7 us acc, Le W6 W7 ∧ Grow W1 H1 Da W7 H7 us acc ∧ mLcL mg1 mt1 me vs1 ρ4 e (ys.drop j) acc (fun acc' => mLc2O mg mt mi1 mg1 mt1 me vs vs1 (plain ρ) e (xs.drop (i + 1)) acc' q), ⟨ys.length, by simp, Nat.zero_le _, W6, us, acc, .refl W6, G6, h6⟩, ?_⟩
        rintro j m H7 ⟨rfl, hj, W7, us7, acc7, l7, G7, h7⟩
        by_cases hlt2 : j < ys.length
        · rw [List.drop_eq_getElem_cons hlt2] at h7
          obtain ⟨j3, j4⟩ := (hJ1 j W7 H7 l7 G7.go.ok).1 ys[j] (List.getElem?_eq_getElem hlt2)
          refine .inr ⟨j3, fun H8 => ∃ W8 us acc, Le W6 W8 ∧ Grow W1 H1 Da W8 H8 us acc ∧ mLcL mg1 mt1 me vs1 ρ4 e (ys.drop (j + 1)) acc (fun acc' => mLc2O mg mt mi1 mg1 mt1 me vs vs1 (plain ρ) e (xs.drop (i + 1)) acc' q), fun H8 ⟨W8, us8, acc8, z⟩ => ⟨ys.length - (j + 1), by omega, rfl, hlt2, W8, us8, acc8, z⟩, fun v8 H8 y8 => ?_⟩
          obtain ⟨W8, g8, hv8⟩ := j4 v8 H8 y8
          have G8 := G7.step g1'.ok g8
          have R8 : Rep W8 H0 H8 σ4 ρ4 := R6.free N4 (l7.trans g8.le) g8.ok
          refine hg1 W8 H0 H8 v8 ys[j] _ _ _ _ (R8.wipe vs1) hv8 h7 fun σ9 ρ9 R9 w9 n9 h9 => ⟨by rw [w9 vs1 hs1, wipe_two (fun _ h => h)], ?_⟩
          refine ht1 W8 H0 H8 σ9 ρ9 _ _ e R9 h9 (fun Wa b Ha ga ha => ?_) (kx.go R.ok (g1'.trans R.ok G8.go))
          have Ga := G8.step g1'.ok ga
          cases b with
          | false => exact (⟨Wa, us7, acc7, (l7.trans g8.le).trans ga.le, Ga, ha⟩ : ∃ W8 us acc, Le W6 W8 ∧ Grow W1 H1 Da W8 Ha us acc ∧ mLcL mg1 mt1 me vs1 ρ4 e (ys.drop (j + 1)) acc (fun acc' => mLc2O mg mt mi1 mg1 mt1 me vs vs1 (plain ρ) e (xs.drop (i + 1)) acc' q))
          | true =>
            refine (hx Wa H0 Ha σ9 ρ9 _ _ e (R9.go ga) ha (fun Wb u yd Hb gb hu hb => ?_) (kx.go R.ok (g1'.trans R.ok Ga.go)) : te σ9 Ha _)
            have Gb := Ga.step g1'.ok gb
            exact ⟨us7, Gb.at_, by rw [Gb.t.length]; exact hb.1, Wb, us7 ++ [u], acc7 ++ [yd], ((l7.trans g8.le).trans ga.le).trans gb.le, Gb.add hD hu, hb.2⟩
        · have e1 : j = ys.length := by omega
          subst e1
          rw [List.drop_length] at h7
          exact .inl ⟨(hJ1 ys.length W7 H7 l7 G7.go.ok).2 (Nat.le_refl _), W7, us7, acc7, G7, h7⟩
    · have e1 : i = xs.length := by omega
      subst e1
      rw [List.drop_length] at h2
      exact .inl ⟨(hJ xs.length W2 H2 G2.go.le G2.go.ok).2 (Nat.le_refl _), k W2 H2 Da us acc (g1'.trans R.ok G2.go) (g1'.gone R.ok hD) G2.at_ G2.f G2.n G2.t h2⟩) kx
theorem si_lc2 {vs vs1 : List Nat} (hi : SimI E ti mi) (hg : SimG g mg is) (ht : SimT E tt mt) (hi1 : SimI E ti1 mi1) (hg1 : SimG g1 mg1 js) (ht1 : SimT E tt1 mt1) (hx : SimE E te me) (hs : ∀ i ∈ is, i ∈ vs) (hs1 : ∀ i ∈ js, i ∈ vs1) :
    SimE E (tLc2 ti g tt ti1 g1 tt1 te vs vs1) (mLc2 mi mg mt mi1 mg1 mt1 me vs vs1) := si_new (sn_lc2 hi hg ht hi1 hg1 ht1 hx hs hs1)
end
end Dt
set_option Elab.async false
set_option linter.all false
set_option maxRecDepth 100000
set_option maxHeartbeats 4000000
namespace Dt
open PySem PySem.Spec PyProof.Rows L2 Com Gn StV Sd
variable [Dt.Tb]
section
variable {E : XK} {K : PySem.W.Frag} {te ta tb ti : TE} {me ma mb mi : ME} {aa : TA} {na : MA} {n : Nat}
def iEnumU (K : PySem.W.Frag) (ta : TA) : TI := fun σ H R => ta σ H fun vs H1 => ∃ a xs, vs = [.ref a] ∧ ((SqL K H1 a xs ∧ R (Ite K a) H1) ∨ (SqT K H1 a xs ∧ R (Ext.Iet K a) H1))
theorem pi_enumU {X : Cx} (K : PySem.W.Frag) {e : Expr} {ta : TA} {p pos tpos : Pos} {elts : List Expr} {kk : Nat} (hg : Gl X "enumerate") (hm : X.mg "enumerate" = none) (ha : PA X [e] ta) (hs : starEach [e] X.env = [(false, eval e X.env)] := by rfl) (hK : X.K = K := by rfl) :
    PI X (.Tuple elts kk tpos) (.Call (.Name "enumerate" p) [e] [] pos) (iEnumU K ta) := by
  subst hK
  refine ⟨fun pins s σ H R I h => ?_⟩
  refine Call_ (ld_blt I hg hm boot_enumerate (PyProof.Rows.callWith_type1 (thn (ha.run pos pins s σ H _ I h) fun us s1 ⟨vs, H1, I1, r1, q1⟩ => ?_) hs rfl))
  obtain ⟨a, xs, ex, hq⟩ := q1
  subst ex
  cases r1 with
  | cons r rr =>
    cases rr
    cases r
    have fin : ∀ b, b ∈ [s1.heap.objs.size + 1, s1.heap.objs.size] → s1.heap.objs.size ≤ b := fun b hb => by
      have e' : b = s1.heap.objs.size + 1 ∨ b = s1.heap.objs.size := by simpa using hb
      rcases e' with z | z
      · rw [z]; exact Nat.le_add_right _ _
      · rw [z]; exact Nat.le_refl _
    rcases hq with ⟨hq, q⟩ | ⟨hq, q⟩
    · obtain ⟨its, rv, p', hz⟩ := I1.list hq
      refine call_enumerate_list p'.isList fun h' he hit hsz hk => wpAny_pyIter_enum he ?_
      have I2 : Inv X pins σ H1 { s1 with heap := h' } := I1.kept (t' := s1.toks) hk
      exact ⟨s1.heap.objs.size + 1, [s1.heap.objs.size + 1, s1.heap.objs.size], _, _, H1, rfl, I2, turn_enum a (s1.heap.objs.size + 1) s1.heap.objs.size, ⟨⟨.none, he⟩, hit, Nat.succ_ne_self _⟩, fun b hb => I1.fpOk (fin b hb) (I1.hok.fresh (fin b hb)), q⟩
    · obtain ⟨its, rv, p', hz⟩ := I1.tuple hq
      refine Ext.call_enumerate_tuple (show s1.heap.IsTuple a its.toArray from p') fun h' he hit hsz hk => wpAny_pyIter_enum he ?_
      have I2 : Inv X pins σ H1 { s1 with heap := h' } := I1.kept (t' := s1.toks) hk
      exact ⟨s1.heap.objs.size + 1, [s1.heap.objs.size + 1, s1.heap.objs.size], _, _, H1, rfl, I2, Ext.turn_enumT a (s1.heap.objs.size + 1) s1.heap.objs.size, ⟨⟨.none, he⟩, hit, Nat.succ_ne_self _⟩, fun b hb => I1.fpOk (fin b hb) (I1.hok.fresh (fin b hb)), q⟩
def enumD : Nat → List D → List D
  | _, [] => []
  | i, d :: ds => .tup [.int (i : Int), d] :: enumD (i + 1) ds
theorem enumD_get : ∀ {ds : List D} {i j : Nat}, (enumD i ds)[j]? = (ds[j]?).map fun d => .tup [.int ((i + j : Nat) : Int), d]
  | [], i, j => by simp [enumD]
  | d :: ds, i, 0 => by simp [enumD]
  | d :: ds, i, j + 1 => by
    rw [enumD, List.getElem?_cons_succ, List.getElem?_cons_succ, enumD_get, show i + 1 + j = i + (j + 1) by omega]
theorem enumD_len : ∀ {ds : List D} {i : Nat}, (enumD i ds).length = ds.length
  | [], _ => rfl
  | d :: ds, i => by rw [enumD, List.length_cons, List.length_cons, enumD_len]
abbrev mEnum (a : MA) : MI := fun ρ q e => a ρ (fun ds => ∃ xs, (ds = [.tup xs] ∨ ds = [.lst xs]) ∧ q (enumD 0 xs)) e
theorem si_enum (ha : SimA E n aa na) : SimI E (iEnumU K aa) (mEnum na) := fun W H0 H σ ρ R q e Rp h k kx =>
  ha W H0 H σ ρ _ _ e Rp h (fun W1 vs ds H1 g1 hv _ h1 => by
    obtain ⟨xs, e1, h1⟩ := h1
    have step : ∀ {W1 H1 : _} {x : V} {d : D} (i : Nat) (T : Addr), Ok W1 H1 → Vd W1 x d → H1 T = none → ∃ W2, Go W1 H1 W2 (upd H1 T (.tup [.int (i : Nat), x])) ∧ Vd W2 (.ref T) (.tup [.int (i : Int), d]) := fun {W1 H1 x d} i T k1 hx hT =>
      ⟨_, .put k1 hT, .tup (upd_same (H := W1.F)) (.cons (.int _) (.one (hx.mono (Go.put k1 hT).le)))⟩
    rcases e1 with rfl | rfl
    · obtain ⟨v, rfl, hv1⟩ := one_of hv
      obtain ⟨a, us, rfl, f, hh, t⟩ := tup_of g1.ok hv1 rfl
      refine ⟨a, us, rfl, .inr ⟨SqT.of hh, k W1 _ _ H1 g1 (fun i W2 H2 l k2 => ?_) h1⟩⟩
      have h2 : SqT K H2 a us := SqT.of (k2.f _ _ (l.f _ _ f))
      refine ⟨fun d hd => ?_, fun hl => ⟨us, h2, by rw [t.length]; rw [enumD_len] at hl; exact hl⟩⟩
      rw [enumD_get] at hd
      cases e : xs[i]? with
      | none => rw [e] at hd; cases hd
      | some y =>
        rw [e] at hd
        cases hd
        obtain ⟨x, hx, r⟩ := t.get' e
        refine ⟨⟨us, x, h2, hx⟩, fun v H3 y => ?_⟩
        obtain ⟨T, x', rfl, hT, rfl, y⟩ := y
        have := y us h2
        rw [hx] at this
        cases this
        rw [Nat.zero_add]
        exact step i T k2 (r.mono l) hT
    · obtain ⟨v, rfl, hv1⟩ := one_of hv
      obtain ⟨a, us, rfl, f, hh, t⟩ := lst_of g1.ok hv1 rfl
      refine ⟨a, us, rfl, .inl ⟨SqL.of hh, k W1 _ _ H1 g1 (fun i W2 H2 l k2 => ?_) h1⟩⟩
      have h2 : SqL K H2 a us := SqL.of (k2.f _ _ (l.f _ _ f))
      refine ⟨fun d hd => ?_, fun hl => ⟨us, h2, by rw [t.length]; rw [enumD_len] at hl; exact hl⟩⟩
      rw [enumD_get] at hd
      cases e : xs[i]? with
      | none => rw [e] at hd; cases hd
      | some y =>
        rw [e] at hd
        cases hd
        obtain ⟨x, hx, r⟩ := t.get' e
        refine ⟨⟨us, x, h2, hx⟩, fun v H3 y => ?_⟩
        obtain ⟨T, x', rfl, hT, rfl, y⟩ := y
        have := y us h2
        rw [hx] at this
        cases this
        rw [Nat.zero_add]
        exact step i T k2 (r.mono l) hT) kx
end
def pairD (p : PP) : D := .tup [.int p.1, .int p.2]
def ldD (L : List PP) : D := .tup (L.map pairD)
def stD (S : List (List PP)) : D := .tup (S.map ldD)
def intsD (ns : List Int) : D := .tup (ns.map .int)
def exD (C : Addr) (ds es : List Int) (m : Int) : D := .obj C ["ins", "outs", "middles"] [intsD ds, intsD es, .int m]
section
variable {W : Wd} {H : Hp} {v : V}
theorem vd_pair (k : Ok W H) {p : PP} (h : Vd W v (pairD p)) : PairV H v p := by
  obtain ⟨a, vs, rfl, _, hh, t⟩ := tup_of k h rfl
  exact ⟨a, rfl, by rw [hh, t.of_ints (ns := [p.1, p.2])]; rfl⟩
theorem vd_pairs (k : Ok W H) : ∀ {vs : List V} {L : List PP}, VdA W vs (L.map pairD) → PairsV H vs L
  | _, [], h => by cases h; exact .nil
  | _, p :: L, h => by
    cases h with
    | cons h t => exact .cons (vd_pair k h) (vd_pairs k t)
theorem vd_load (k : Ok W H) {L : List PP} (h : Vd W v (ldD L)) : LoadV H v L := by
  obtain ⟨a, vs, rfl, _, hh, t⟩ := tup_of k h rfl
  exact ⟨a, vs, rfl, hh, vd_pairs k t⟩
theorem vd_loads (k : Ok W H) : ∀ {vs : List V} {S : List (List PP)}, VdA W vs (S.map ldD) → LoadsV H vs S
  | _, [], h => by cases h; exact .nil
  | _, p :: L, h => by
    cases h with
    | cons h t => exact .cons (vd_load k h) (vd_loads k t)
/-- all tuples that stand are of the world -/
def Wd.all (W : Wd) (H : Hp) : Wd := ⟨fun b => match W.F b with
  | some o => some o
  | none => match H b with
    | some (.tup xs) => some (.tup xs)
    | _ => none, W.G, W.T⟩
theorem all_tup {b : Addr} {xs : List V} (k : ∀ b o, W.F b = some o → H b = some o) (h : H b = some (.tup xs)) : (W.all H).F b = some (.tup xs) := by
  show (match W.F b with | some o => some o | none => match H b with | some (.tup xs) => some (.tup xs) | _ => none) = _
  cases e : W.F b with
  | some o =>
    have := k b o e
    rw [h] at this
    exact this.symm
  | none =>
    rw [h]
theorem all_inv {b : Addr} {o : HO} (h : (W.all H).F b = some o) : W.F b = some o ∨ ∃ xs, o = .tup xs ∧ H b = some (.tup xs) := by
  have h : (match W.F b with | some o => some o | none => match H b with | some (.tup xs) => some (.tup xs) | _ => none) = some o := h
  cases e : W.F b with
  | some u =>
    rw [e] at h
    exact .inl h
  | none =>
    rw [e] at h
    refine .inr ?_
    cases e2 : H b with
    | none => rw [e2] at h; cases h
    | some u =>
      rw [e2] at h
      cases u with
      | tup xs => cases h; exact ⟨xs, rfl, rfl⟩
      | _ => cases h
/-- what a call leaves that changes flows alone -/
theorem go_all {H' : Hp} (k : Ok W H) (p : ∀ b o, H b = some o → ¬ W.G b → H' b = some o) (fl : ∀ a, W.G a → MutAt W H' a) : Go W H (W.all H') H' := by
  have kf : ∀ b o, W.F b = some o → H' b = some o := fun b o e => p b o (k.f b o e) (k.fg e)
  refine ⟨⟨fun b o e => ?_, fun _ h => h, rfl⟩, fun _ h => .inl h, fun b o e => ?_, p, ⟨fun b o e => ?_, fun a g => ⟨?_, (fl a g).mono (fun b o e => ?_) rfl fun _ e => e⟩, k.t⟩⟩
  · show (match W.F b with | some o => some o | none => match H' b with | some (.tup xs) => some (.tup xs) | _ => none) = some o
    rw [e]
  · rcases all_inv e with h | ⟨xs, rfl, h⟩
    · exact .inl h
    · refine .inr ?_
      cases q : H b with
      | none => exact .inl rfl
      | some u =>
        by_cases g : W.G b
        · exact ((fl b g).st h (.inl ⟨_, rfl⟩)).elim
        · have := p b u q g
          rw [h] at this
          cases this
          exact .inr ⟨_, rfl, .inl ⟨xs, rfl⟩⟩
  · rcases all_inv e with h | ⟨xs, rfl, h⟩
    · exact kf b o h
    · exact h
  · obtain ⟨o, e2, n⟩ := (fl a g).ex
    show (match W.F a with | some o => some o | none => match H' a with | some (.tup xs) => some (.tup xs) | _ => none) = none
    rw [(k.g a g).1, e2]
    cases o with
    | tup xs => exact (n (.inl ⟨_, rfl⟩)).elim
    | _ => rfl
  · show (match W.F b with | some o => some o | none => match H' b with | some (.tup xs) => some (.tup xs) | _ => none) = some o
    rw [e]
theorem go_same {H' : Hp} (k : Ok W H) (s : Same H H') : Go W H (W.all H') H' := go_all k (fun b o e _ => s b o e) fun a g => (k.g a g).2.mono (fun _ _ e => e) rfl fun u e => s _ _ e
theorem go_old {H' : Hp} {a : Addr} (k : Ok W H) (g : W.G a) (s : Old a H H') (f : MutAt W H' a) : Go W H (W.all H') H' := go_all k (fun b o e n => s b o e fun z => n (z ▸ g)) fun b gb => by
  by_cases z : b = a
  · rw [z]
    exact f
  · exact (k.g b gb).2.mono (fun _ _ e => e) rfl fun u e => s _ _ e z
/-- data of tuples and numbers alone -/
theorem all_pair (k : ∀ b o, W.F b = some o → H b = some o) {p : PP} (h : PairV H v p) : Vd (W.all H) v (pairD p) := by
  obtain ⟨a, rfl, e⟩ := h
  exact .tup (all_tup k e) (.cons (.int _) (.one (.int _)))
theorem all_pairs (k : ∀ b o, W.F b = some o → H b = some o) : ∀ {vs : List V} {L : List PP}, PairsV H vs L → VdA (W.all H) vs (L.map pairD)
  | _, _, .nil => .nil
  | _, _, .cons h t => .cons (all_pair k h) (all_pairs k t)
theorem all_load (k : ∀ b o, W.F b = some o → H b = some o) {L : List PP} (h : LoadV H v L) : Vd (W.all H) v (ldD L) := by
  obtain ⟨a, us, rfl, e, t⟩ := h
  exact .tup (all_tup k e) (all_pairs k t)
theorem all_loads (k : ∀ b o, W.F b = some o → H b = some o) : ∀ {vs : List V} {S : List (List PP)}, LoadsV H vs S → VdA (W.all H) vs (S.map ldD)
  | _, _, .nil => .nil
  | _, _, .cons h t => .cons (all_load k h) (all_loads k t)
end
def spFlowD (K : PySem.W.Frag) : SpD := fun ds q _ => ∃ (ns : List Int) (k : Nat), ds = [.scr K ns, .int (k : Int)] ∧ ns.length ≤ 63 ∧ k ≤ 1000 ∧ ∀ a, q (.flow a)
def spPickD : SpD := fun ds q _ => ∃ a size, ds = [.flow a, .int size] ∧ 1 ≤ size ∧ size < 2 ^ 200 ∧ ∀ d, 0 ≤ d → d < size → q (.int d)
theorem pick_d {vs : List V} {H : Hp} {Q : VK} {E : XK} (h : spOf spPickD vs H Q E) : spPick vs H Q E := by
  obtain ⟨W, ds, q, e, k, t, ⟨a, size, rfl, s1, s2, h⟩, kq, _⟩ := h
  obtain ⟨v, u, rfl, hv, hu⟩ := two_of t
  cases hv with
  | flow g nt =>
    cases hu
    refine ⟨a, size, rfl, (k.g a g).2.flow nt, s1, s2, fun d H' d0 d1 f b => ?_⟩
    exact kq _ _ _ H' (go_old k g (But.old b) (.inl ⟨f, nt⟩)) (.int d) (h d d0 d1)
theorem flow_d {K : PySem.W.Frag} {vs : List V} {H : Hp} {Q : VK} {E : XK} (h : spOf (spFlowD K) vs H Q E) : spFlow K vs H Q E := by
  obtain ⟨W, ds, q, e, k, t, ⟨ns, n, rfl, s1, s2, h⟩, kq, _⟩ := h
  obtain ⟨v, u, rfl, hv, hu⟩ := two_of t
  cases hv with
  | scr g =>
    cases hu
    refine ⟨_, ns, n, rfl, g H k.f, s1, s2, fun p H' hp f b => ?_⟩
    have s := But.same b hp
    have np : ∀ q, (p, q) ∉ W.T := fun q z => (k.g _ (k.t.2 _ z)).2.no hp
    refine kq ⟨W.F, fun x => W.G x ∨ x = p, W.T⟩ _ _ H' ⟨⟨fun _ _ e => e, fun _ g => .inl g, rfl⟩, fun x g => g.elim .inl fun z => .inr (z ▸ hp), fun _ _ e => .inl e, fun b o e _ => s b o e, ⟨fun b o e => s b o (k.f b o e), fun x gx => ?_, ⟨k.t.1, fun x hx => .inl (k.t.2 x hx)⟩⟩⟩ (.flow (.inr rfl) np) (h p)
    rcases gx with gx | rfl
    · exact ⟨(k.g x gx).1, (k.g x gx).2.mono (W' := ⟨W.F, fun x => W.G x ∨ x = p, W.T⟩) (fun _ _ e => e) rfl fun u e => s _ _ e⟩
    · exact ⟨(k.no hp).1, .inl ⟨f, np⟩⟩
abbrev mNewEx (C : Addr) (a : MA) : ME := fun ρ q e => a ρ (fun xs => ∃ ds es m, xs = [intsD ds, intsD es, .int m] ∧ Good ds ∧ Good es ∧ 1 ≤ m ∧ m ≤ 7 ∧ q (exD C ds es m)) e
theorem si_newEx {E : XK} {C : Addr} {n : Nat} {aa : TA} {na : MA} (ha : SimA E n aa na) : SimE E (tNew C (spInit C) E aa) (mNewEx C na) := fun W H0 H σ ρ Q q e R h k kx =>
  ha W H0 H σ ρ _ _ e R h (fun W1 vs xs H1 g1 hv _ h1 => by
    obtain ⟨ds, es, m, rfl, gi, go, m1, m2, h1⟩ := h1
    cases hv with
    | cons hi t =>
      obtain ⟨u1, u2, rfl, ho, hm⟩ := two_of t
      cases hm
      have hi' := hi
      have ho' := ho
      obtain ⟨i, vi, rfl, fi, hhi, ti⟩ := tup_of g1.ok hi rfl
      obtain ⟨o, vo, rfl, fo, hho, to⟩ := tup_of g1.ok ho rfl
      refine new_ex (by show H1 i = _; rw [hhi, ti.of_ints]) gi (by show H1 o = _; rw [hho, to.of_ints]) go m1 m2 fun x H' hx ex s => ?_
      obtain ⟨dx, ex⟩ := ex
      have g := Go.putS g1.ok s ex (.inl hx)
      exact k _ _ _ H' (g1.trans R.ok g) (.obj (ks := ["ins", "outs", "middles"]) (vs := [.ref i, .ref o, .int m]) (upd_same (H := W1.F)) rfl ((VdA.cons hi' (.cons ho' (.one (.int m)))).mono g.le)) h1) kx
end Dt
set_option Elab.async false
set_option linter.all false
set_option maxRecDepth 100000
set_option maxHeartbeats 4000000
namespace Dt
open PySem PySem.Spec PyProof.Rows L2 Com Gn StV Sd
open Dt (pairD)
variable [Dt.Tb]
def isiD (n : String) : D → Bool
  | .int _ => n == "int"
  | .bl _ => n == "int" || n == "bool"
  | .str _ => n == "str"
  | .tup _ => n == "tuple"
  | .lst _ => n == "list"
  | .flow _ => n == "list"
  | .dict0 => n == "dict"
  | .dct _ _ _ _ => n == "dict"
  | _ => false
theorem isi_of {K : PySem.W.Frag} {d : D} {n : String} (c : clsOk K d) (hn : n ∈ (["int", "bool", "tuple", "list", "str", "dict"] : List String)) : PySem.W.kitOne K (tyD d) (.type n) = some (isiD n d) := by
  have h : n = "int" ∨ n = "bool" ∨ n = "tuple" ∨ n = "list" ∨ n = "str" ∨ n = "dict" := by simpa using hn
  cases d with
  | obj C ks ds => exact c.kN n hn
  | scr K ns => exact c.elim
  | dct w ks ds => exact c.elim
  | vry v d => exact c.elim
  | _ => rcases h with rfl | rfl | rfl | rfl | rfl | rfl <;> first | exact kit_ty (r := true) (by decide +kernel) | exact kit_ty (r := false) (by decide +kernel)
theorem isi_go {K : PySem.W.Frag} {d : D} {n : String} {q : KD} (c : clsOk K d) (h : q (.bl (isiD n d))) (hn : n ∈ (["int", "bool", "tuple", "list", "str", "dict"] : List String) := by decide) : fIsi K (.type n) d q := ⟨c, _, isi_of c hn, h⟩
mutual
def clsA (K : PySem.W.Frag) : D → Prop
  | .obj C _ _ => ClsT K C
  | .tup ds => clsL K ds
  | .lst ds => clsL K ds
  | .scr _ _ => False
  | .dct _ _ _ _ => False
  | .vry _ _ => False
  | _ => True
def clsL (K : PySem.W.Frag) : List D → Prop
  | [] => True
  | d :: ds => clsA K d ∧ clsL K ds
end
theorem clsA.ok {K : PySem.W.Frag} {d : D} (h : clsA K d) : clsOk K d := by
  cases d <;> first | exact trivial | (rw [clsA] at h; exact h)
theorem clsL.mem {K : PySem.W.Frag} : ∀ {ds : List D}, clsL K ds → ∀ d ∈ ds, clsA K d
  | d :: ds, h, x, hx => by
    rw [clsL] at h
    rcases List.mem_cons.mp hx with rfl | hx
    · exact h.1
    · exact clsL.mem h.2 x hx
theorem clsL.of {K : PySem.W.Frag} : ∀ {ds : List D}, (∀ d ∈ ds, clsA K d) → clsL K ds
  | [], _ => by rw [clsL]; trivial
  | d :: ds, h => by rw [clsL]; exact ⟨h d (List.mem_cons_self ..), clsL.of fun x hx => h x (List.mem_cons_of_mem _ hx)⟩
theorem clsA.tup {K : PySem.W.Frag} {ds : List D} : clsA K (.tup ds) ↔ ∀ d ∈ ds, clsA K d := by
  rw [clsA]
  exact ⟨clsL.mem, clsL.of⟩
theorem clsA.lst {K : PySem.W.Frag} {ds : List D} : clsA K (.lst ds) ↔ ∀ d ∈ ds, clsA K d := by
  rw [clsA]
  exact ⟨clsL.mem, clsL.of⟩
theorem cls_int {K : PySem.W.Frag} {i : Int} : clsA K (.int i) := by simp [clsA]
theorem cls_pair {K : PySem.W.Frag} {p : PP} : clsA K (pairD p) := clsA.tup.mpr fun d h => by
  rcases List.mem_cons.mp h with rfl | h
  · exact cls_int
  · rw [List.mem_singleton.mp h]
    exact cls_int
def plainD : D → Bool
  | .int _ => true
  | _ => false
theorem plain_isi (d : D) : (isiD "int" d && !isiD "bool" d) = plainD d := by cases d <;> rfl
def withinD (lo hi : Int) : D → Bool
  | .int i => decide (lo ≤ i) && decide (i ≤ hi)
  | _ => false
/-- a pair of an exchange of n and m switches -/
def pairOf (n m : Nat) : D → Option PP
  | .tup [.int i, .int o] => if 0 ≤ i ∧ i < n ∧ 0 ≤ o ∧ o < m then some (i, o) else none
  | _ => none
def isPairD (n m : Nat) (d : D) : Bool := (pairOf n m d).isSome
theorem pairOf_pair {n m : Nat} {p : PP} (h : InP n m p) : pairOf n m (pairD p) = some p := by
  show (if 0 ≤ p.1 ∧ p.1 < n ∧ 0 ≤ p.2 ∧ p.2 < m then some (p.1, p.2) else none) = some p
  rw [if_pos (show 0 ≤ p.1 ∧ p.1 < n ∧ 0 ≤ p.2 ∧ p.2 < m from h)]
section
variable {K : PySem.W.Frag} {q : KD}
theorem eqv_int (a b : Int) : PyData.eqv (.int a) (.int b) = decide (a = b) := by
  rw [PyData.eqv]
  by_cases h : a = b <;> simp [h]
theorem szl {n : Nat} (h : n < 100000) : n < sizeLine := Nat.lt_of_lt_of_le h (by decide)
theorem szle {n : Nat} (h : n ≤ 100000) : n ≤ sizeLine := Nat.le_trans h (by decide)
theorem go_eqI {a b : Int} (h : q (.bl (decide (a = b)))) : fEq false (.int a) (.int b) q := ⟨_, _, rfl, rfl, rfl, rfl, by
  show q (.bl (PyData.eqv (.int a) (.int b)))
  rw [eqv_int]; exact h⟩
theorem go_neI {a b : Int} (h : q (.bl (!decide (a = b)))) : fEq true (.int a) (.int b) q := ⟨_, _, rfl, rfl, rfl, rfl, by
  show q (.bl (!PyData.eqv (.int a) (.int b)))
  rw [eqv_int]; exact h⟩
theorem go_lenT {ds : List D} (h : q (.int (ds.length : Nat))) : fLen K [.tup ds] q := .inl ⟨ds, .inl rfl, h⟩
theorem go_lenL {ds : List D} (h : q (.int (ds.length : Nat))) : fLen K [.lst ds] q := .inl ⟨ds, .inr rfl, h⟩
theorem atI_of {α : Type} {xs : List α} {i : Nat} {x : α} (h : xs[i]? = some x) : atI xs (i : Int) = some x := by
  have hl := (List.getElem?_eq_some_iff.mp h).1
  unfold atI
  rw [show ixN xs.length (i : Int) = some i by unfold ixN; rw [if_pos (by omega), if_pos (by omega)]; simp]
  exact h
theorem go_ixT {ds : List D} {i : Nat} {d : D} (e : ds[i]? = some d) (h : q d) : fIx (.tup ds) (.int (i : Int)) q := ⟨ds, _, d, .inl rfl, rfl, atI_of e, h⟩
theorem go_ixL {ds : List D} {i : Nat} {d : D} (e : ds[i]? = some d) (h : q d) : fIx (.lst ds) (.int (i : Int)) q := ⟨ds, _, d, .inr rfl, rfl, atI_of e, h⟩
theorem ifTT {P Q : Prop} (h : P) : if (true = true) then P else Q := by rw [if_pos rfl]; exact h
theorem ifFF {P Q : Prop} (h : Q) : if (false = true) then P else Q := by rw [if_neg (by decide)]; exact h
end
/-- each item gives its own: [f(x) for x in xs] -/
theorem lcL_map {g : MG} {x : ME} {vs : List Nat} {ρ : Ev} {e : XD} {q : List D → Prop} (f : D → D) : ∀ (xs acc : List D), acc.length + xs.length ≤ 100000 →
    (∀ d ∈ xs, ∀ Q : D → Prop, Q (f d) → g d (wipeD ρ vs) fun ρ2 => x ρ2 Q e) → q (acc ++ xs.map f) → mLcL g mYes x vs ρ e xs acc q
  | [], acc, _, _, h => by
    rw [List.map_nil, List.append_nil] at h
    exact h
  | d :: ds, acc, hl, hs, h => by
    rw [List.length_cons] at hl
    refine hs d (List.mem_cons_self ..) _ ⟨szl (by omega), ?_⟩
    refine lcL_map f ds _ (by rw [List.length_append, List.length_singleton]; omega) (fun d' hd => hs d' (List.mem_cons_of_mem _ hd)) ?_
    rw [List.append_assoc]
    exact h
/-- [f(x) for x in xs if p(x)] -/
theorem lcL_filter {g : MG} {t : MT} {x : ME} {vs : List Nat} {ρ : Ev} {e : XD} {q : List D → Prop} (p : D → Bool) (f : D → D) : ∀ (xs acc : List D), acc.length + xs.length ≤ 100000 →
    (∀ d ∈ xs, ∀ Q : Bool → Ev → Prop, (∀ ρ2, (p d = true → ∀ Q' : D → Prop, Q' (f d) → x ρ2 Q' e) → Q (p d) ρ2) → g d (wipeD ρ vs) fun ρ2 => t ρ2 (fun b => Q b ρ2) e) → q (acc ++ (xs.filter p).map f) → mLcL g t x vs ρ e xs acc q
  | [], acc, _, _, h => by
    rw [List.filter_nil, List.map_nil, List.append_nil] at h
    exact h
  | d :: ds, acc, hl, hs, h => by
    rw [List.length_cons] at hl
    refine hs d (List.mem_cons_self ..) (fun b ρ2 => if b = true then x ρ2 (fun y => acc.length < sizeLine ∧ mLcL g t x vs ρ e ds (acc ++ [y]) q) e else mLcL g t x vs ρ e ds acc q) fun ρ2 hx => ?_
    cases c : p d with
    | true =>
      rw [if_pos rfl]
      refine hx c _ ⟨szl (by omega), ?_⟩
      refine lcL_filter p f ds _ (by rw [List.length_append, List.length_singleton]; omega) (fun d' hd => hs d' (List.mem_cons_of_mem _ hd)) ?_
      rw [List.filter_cons_of_pos c, List.map_cons] at h
      rw [List.append_assoc]
      exact h
    | false =>
      rw [if_neg (by decide)]
      refine lcL_filter p f ds _ (by omega) (fun d' hd => hs d' (List.mem_cons_of_mem _ hd)) ?_
      rw [List.filter_cons_of_neg (by rw [c]; decide)] at h
      exact h
/-- a loop by an invariant over the turn and the slots -/
theorem loop_inv {g : MG} {b : MS} {d : EndsD} {e : XD} (Iv : Nat → Ev → Prop) : ∀ (xs : List D) (i : Nat) (ρ : Ev), Iv i ρ →
    (∀ (j : Nat) (x : D) (ρ : Ev) (N : Ev → Prop), xs[j]? = some x → Iv (i + j) ρ → (∀ ρ', Iv (i + j + 1) ρ' → N ρ') → g x ρ fun ρ' => b { nx := N, rt := d.rt, bk := d.nx, ct := N } ρ' e) →
    (∀ ρ, Iv (i + xs.length) ρ → d.nx ρ) → msLoop g b xs d ρ e
  | [], i, ρ, h0, hs, hd => hd ρ h0
  | x :: xs, i, ρ, h0, hs, hd => hs 0 x ρ _ rfl h0 fun ρ' h1 => loop_inv Iv xs (i + 1) ρ' h1 (fun j x' ρ N e1 e2 e3 => by
      rw [show i + 1 + j = i + (j + 1) by omega] at e2 e3
      exact hs (j + 1) x' ρ N (by simpa using e1) e2 e3) fun ρ h => hd ρ (by rw [List.length_cons, show i + (xs.length + 1) = i + 1 + xs.length by omega]; exact h)
/-- [f(x, y) for x in xs for y in F(x)]: each x gives its own row -/
theorem lc2_flat {g : MG} {i1 : MI} {g1 : MG} {t1 : MT} {x : ME} {vs vs1 : List Nat} {ρ : Ev} {e : XD} {q : List D → Prop} (F : D → List D) : ∀ (xs acc : List D), acc.length + (xs.flatMap F).length ≤ 100000 →
    (∀ d ∈ xs, ∀ (acc : List D) (Q : List D → Prop), acc.length + (F d).length ≤ 100000 → Q (acc ++ F d) → g d (wipeD ρ vs) fun ρ2 => i1 ρ2 (fun ys => mLcL g1 t1 x vs1 ρ2 e ys acc Q) e) → q (acc ++ xs.flatMap F) → mLc2O g mYes i1 g1 t1 x vs vs1 ρ e xs acc q
  | [], acc, _, _, h => by
    rw [List.flatMap_nil, List.append_nil] at h
    exact h
  | d :: ds, acc, hl, hs, h => by
    rw [List.flatMap_cons, List.length_append] at hl
    refine hs d (List.mem_cons_self ..) acc _ (by omega) ?_
    refine lc2_flat F ds _ (by rw [List.length_append]; omega) (fun d' hd => hs d' (List.mem_cons_of_mem _ hd)) ?_
    rw [List.flatMap_cons] at h
    rw [List.append_assoc]
    exact h
/-- [f(x, y) for x in xs if p(x) for y in F(x)] -/
theorem lc2_flatF {g : MG} {t : MT} {i1 : MI} {g1 : MG} {t1 : MT} {x : ME} {vs vs1 : List Nat} {ρ : Ev} {e : XD} {q : List D → Prop} (F : D → List D) : ∀ (xs acc : List D), acc.length + (xs.flatMap F).length ≤ 100000 →
    (∀ d ∈ xs, ∀ (acc : List D) (Q : List D → Prop), acc.length + (F d).length ≤ 100000 → Q (acc ++ F d) → g d (wipeD ρ vs) fun ρ2 => t ρ2 (fun b => if b = true then i1 ρ2 (fun ys => mLcL g1 t1 x vs1 ρ2 e ys acc Q) e else Q acc) e) → q (acc ++ xs.flatMap F) → mLc2O g t i1 g1 t1 x vs vs1 ρ e xs acc q
  | [], acc, _, _, h => by
    rw [List.flatMap_nil, List.append_nil] at h
    exact h
  | d :: ds, acc, hl, hs, h => by
    rw [List.flatMap_cons, List.length_append] at hl
    refine hs d (List.mem_cons_self ..) acc _ (by omega) ?_
    refine lc2_flatF F ds _ (by rw [List.length_append]; omega) (fun d' hd => hs d' (List.mem_cons_of_mem _ hd)) ?_
    rw [List.flatMap_cons] at h
    rw [List.append_assoc]
    exact h
theorem go_p0 {p : PP} {q : KD} (h : q (.int p.1)) : fIx (pairD p) (.int 0) q := ⟨_, _, _, .inl rfl, rfl, rfl, h⟩
theorem go_p1 {p : PP} {q : KD} (h : q (.int p.2)) : fIx (pairD p) (.int 1) q := ⟨_, _, _, .inl rfl, rfl, rfl, h⟩
theorem isPair_ok {n m : Nat} {p : PP} (h : InP n m p) : isPairD n m (pairD p) = true := by unfold isPairD; rw [pairOf_pair h]; rfl
theorem go_ixIT {ns : List Int} {i : Int} {q : KD} (h0 : 0 ≤ i) (h1 : i < ns.length) (h : q (.int (ns.getD i.toNat 0))) : fIx (intsD ns) (.int i) q := by
  obtain ⟨n, rfl⟩ := Int.eq_ofNat_of_zero_le h0
  have e : ns[n]? = some (ns.getD n 0) := by
    rw [List.getD_eq_getElem?_getD, List.getElem?_eq_getElem (by omega)]
    rfl
  exact go_ixT (by rw [List.getElem?_map, e]; rfl) h
theorem op_repeat {X : Cx} : OpR X (binaryOp .Mult) rRep := op_rep
def fRepL (x y : D) (q : KD) : Prop := match x, y with
  | .lst ds, .int k => -(2 ^ 63) ≤ k ∧ k < 2 ^ 63 ∧ ds.length * k.toNat ≤ sizeLine ∧ q (.lst (List.replicate k.toNat ds).flatten)
  | _, _ => False
theorem sr_repL : SimR rRep fRepL := fun W H x y dx dy Q q k hx hy h hk => by
  cases hx with
  | lst a t =>
    cases hy with
    | int i =>
      obtain ⟨h1, h2, h3, h⟩ := h
      exact ⟨_, i, _, rfl, rfl, k.f _ _ a, h1, h2, by rw [t.length]; exact h3, fun p hp => hk _ _ _ _ (.put k hp) (.lst (upd_same (H := W.F)) ((t.rep _).mono (Go.put k hp).le)) h⟩
    | _ => exact h.elim
  | _ => exact h.elim
theorem cut_take {xs : List D} {a : Int} (h : 0 ≤ a) : cutD xs none (some a) = xs.take a.toNat := by
  unfold cutD
  rw [HT.sIx_none, List.drop_zero, Nat.sub_zero]
  show xs.take (if a < 0 then (a + (xs.length : Int)).toNat else min a.toNat xs.length) = _
  rw [if_neg (by omega)]
  by_cases c : a.toNat ≤ xs.length
  · rw [Nat.min_eq_left c]
  · rw [Nat.min_eq_right (by omega), List.take_length, List.take_of_length_le (by omega)]
theorem rep_pairs (n : Nat) (p : PP) : (List.replicate n [pairD p]).flatten = (List.replicate n p).map pairD := by
  induction n with
  | zero => rfl
  | succ n ih => rw [List.replicate_succ, List.replicate_succ, List.flatten_cons, ih]; rfl
theorem at_ev {N : Ev → Prop} {ρ ρ' : Ev} (h : ρ = ρ') (g : N ρ') : N ρ := by rw [h]; exact g
theorem go_takeL {xs ys : List D} {a : Int} {q : KD} (e : cutD xs none (some a) = ys) (h : q (.lst ys)) : fSl (.lst xs) none (some a) q := by
  show q (.lst (cutD xs none (some a)))
  rw [e]; exact h
end Dt
set_option Elab.async false
set_option linter.all false
set_option maxRecDepth 100000
set_option maxHeartbeats 4000000
namespace Dt
open PySem PySem.Spec PyProof.Rows L2 Com Gn StV Sd
open Dt (pairD)
variable [Dt.Tb]
/-- a list of pairs sorted -/
def fSrtP (xs : List D) (q : KD) : Prop := ∃ L : List PP, xs = [.lst (L.map pairD)] ∧ q (.lst ((srt L).map pairD))
theorem sc_srtP {K : PySem.W.Frag} : SimC (rSrtP K) fSrtP := fun W H xs ds Q q k hx h hk => by
  obtain ⟨L, rfl, h⟩ := h
  obtain ⟨v, rfl, hv⟩ := one_of hx
  obtain ⟨a, vs, rfl, f, hh, t⟩ := lst_of k hv rfl
  refine ⟨a, vs, L, rfl, SqL.of hh, vd_pairs k t, fun us p hus hp => ?_⟩
  have k0 := go_same k (Same.refl H)
  have g1 : Go W H ((W.all H).put p (.lst us)) (upd H p (.lst us)) := k0.trans k (.put k0.ok hp)
  exact hk _ _ _ _ g1 (.lst (upd_same (H := (W.all H).F)) ((all_pairs k.f hus).mono (Go.put k0.ok hp).le)) h
/-- a comprehension by steps, the rest unknown -/
theorem lcL_step {g : MG} {t : MT} {x : ME} {vs : List Nat} {ρ : Ev} {e : XD} (Iv : Nat → List D → Prop) {q : List D → Prop} : ∀ (xs : List D) (i : Nat) (acc : List D), Iv i acc →
    (∀ (j : Nat) (d : D) (acc : List D) (N : List D → Prop), xs[j]? = some d → Iv (i + j) acc → (∀ acc', Iv (i + j + 1) acc' → N acc') → g d (wipeD ρ vs) fun ρ2 => t ρ2 (fun b => if b = true then x ρ2 (fun y => acc.length < sizeLine ∧ N (acc ++ [y])) e else N acc) e) →
    (∀ acc, Iv (i + xs.length) acc → q acc) → mLcL g t x vs ρ e xs acc q
  | [], i, acc, h0, hs, hd => hd acc h0
  | d :: ds, i, acc, h0, hs, hd => hs 0 d acc (fun a => mLcL g t x vs ρ e ds a q) rfl h0 fun acc' h1 => lcL_step Iv ds (i + 1) acc' h1 (fun j d' acc2 N e1 e2 e3 => by
      rw [show i + 1 + j = i + (j + 1) by omega] at e2 e3
      exact hs (j + 1) d' acc2 N (by simpa using e1) e2 e3) fun acc2 e1 => hd acc2 (by rw [List.length_cons, show i + (ds.length + 1) = i + 1 + ds.length by omega]; exact e1)
theorem cut_drop {xs : List D} {a : Int} (h : 0 ≤ a) (h2 : a ≤ xs.length) : cutD xs (some a) none = xs.drop a.toNat := by
  obtain ⟨n, rfl⟩ := Int.eq_ofNat_of_zero_le h
  unfold cutD
  have e1 : HT.sIx xs.length 0 (some ((n : Nat) : Int)) = n := by
    show (if ((n : Nat) : Int) < 0 then (((n : Nat) : Int) + (xs.length : Int)).toNat else min ((n : Nat) : Int).toNat xs.length) = n
    rw [if_neg (by omega)]
    omega
  have e2 : HT.sIx xs.length xs.length none = xs.length := rfl
  rw [e1, e2, Int.toNat_natCast]
  exact List.take_of_length_le (by rw [List.length_drop]; omega)
end Dt
set_option Elab.async false
set_option linter.all false
set_option maxRecDepth 100000
set_option maxHeartbeats 4000000
namespace Com
open PySem PySem.Spec PyProof.Rows L2
end Com
set_option Elab.async false
set_option linter.all false
set_option maxRecDepth 100000
set_option maxHeartbeats 4000000
namespace Dt
open PySem PySem.Spec PyProof.Rows L2 Com Gn StV Sd
open Dt (pairD)
variable [Dt.Tb]
section
variable {E : XK} {K : PySem.W.Frag} {te tl : TE} {me ml : ME} {aa : TA} {na : MA} {n : Nat}
theorem VdA.reverse {W : Wd} : ∀ {vs : List V} {ds : List D}, VdA W vs ds → VdA W vs.reverse ds.reverse
  | _, _, .nil => .nil
  | _, _, .cons h t => by
    rw [List.reverse_cons, List.reverse_cons]
    exact (VdA.reverse t).append (.one h)
end
end Dt
set_option Elab.async false
set_option linter.all false
set_option maxRecDepth 100000
set_option maxHeartbeats 4000000
namespace Dt
open PySem PySem.Spec PyProof.Rows L2 Com Gn
variable [Dt.Tb]
section
variable {P : Program} {w : World} {K : PySem.W.Frag} {mg : Str → Option Value} {base : Heap} {x qual : Str} {C : Addr} {st : Stmt} {ps N : List Str} {k : Nat} {sp : SpD}
theorem DefAtX.ok (D : DefAt K mg x st ps) (S : FnScope N ps (defScope st)) (len : ∀ ds q e, sp ds q e → ds.length = ps.length)
    (hbody : ∀ (f : Addr) (cdv : Value) (A : Around) (outer : List Env) (s : Shared) (H : Hp) (E : XK), Room k (A.deeper (envOfC x (defScope st) s.heap.objs.size f cdv)) →
      ∃ t m, PSs (cxOf (L2.CX P w) P w K mg base N x (defScope st) f cdv A outer s H E) (defBody st) t ∧ SimS E t m ∧ ∀ ds q e, sp ds q e → m (endD q) (startD N ds) e) : DefOk P w K mg base (L2.CX P w) (k + 1) x (spOf sp) := by
  refine D.okX S (fun vs H Q E h => ?_) (fun f cdv A outer s H vs Q E hr h => ?_)
  · obtain ⟨W, ds, q, e, k0, t, h, _⟩ := h
    rw [t.length, len ds q e h]
  obtain ⟨W, ds, q, e, k0, t, h, kq, kx⟩ := h
  obtain ⟨t', m, p, sm, hm⟩ := hbody f cdv A outer s H E hr
  exact ⟨t', p, sm W H W H _ _ _ (endD q) e k0 (.refl k0) (rep_start k0 t) (hm ds q e h) (ct_end (E := E) (e := e) kq _ rfl rfl) kx⟩
theorem MethAtX.ok (D : MethAt K C x qual st ps) (S : FnScope N ps (defScope st)) (len : ∀ ds q e, sp ds q e → ds.length = ps.length)
    (hbody : ∀ (f : Addr) (cdv : Value) (A : Around) (outer : List Env) (s : Shared) (H : Hp) (E : XK), Room k (A.deeper (envOfC qual (defScope st) s.heap.objs.size f cdv)) →
      ∃ t m, PSs (cxOf (L2.CX P w) P w K mg base N qual (defScope st) f cdv A outer s H E) (defBody st) t ∧ SimS E t m ∧ ∀ ds q e, sp ds q e → m (endD q) (startD N ds) e) : MethOk P w K mg base (L2.CX P w) (k + 1) C x (spOf sp) := by
  refine D.fnX S (fun vs H Q E h => ?_) (fun f cdv A outer s H vs Q E hr h => ?_)
  · obtain ⟨W, ds, q, e, k0, t, h, _⟩ := h
    rw [t.length, len ds q e h]
  obtain ⟨W, ds, q, e, k0, t, h, kq, kx⟩ := h
  obtain ⟨t', m, p, sm, hm⟩ := hbody f cdv A outer s H E hr
  exact ⟨t', p, sm W H W H _ _ _ (endD q) e k0 (.refl k0) (rep_start k0 t) (hm ds q e h) (ct_end (E := E) (e := e) kq _ rfl rfl) kx⟩
end
section
variable {te : WX → TE} {me : ME} {aa : TA} {na : MA} {n : Nat} {sp : SpD} {K : PySem.W.Frag}
/-- a clause: its class, the field read, the tag -/
structure ClD where
  C : Addr
  f : Str
  tag : Option Str
def ClD.cl (i x : Nat) (c : ClD) : Cl := match c.tag with
  | some t => ⟨.ref c.C, i, fun a cls d => tAsg (tTup (tCons (tC (.str t)) (tCons (tXf a cls d c.C c.f (tVar i)) tNil))) (gName x)⟩
  | none => ⟨.ref c.C, i, fun a cls d => tAsg (tXf a cls d c.C c.f (tVar i)) (gName x)⟩
end
end Dt
set_option Elab.async false
set_option linter.all false
set_option maxRecDepth 100000
set_option maxHeartbeats 4000000
namespace Dt
open PySem PySem.Spec PyProof.Rows L2 Com Gn StV Sd
open Dt (pairD)
end Dt
set_option Elab.async false
set_option linter.all false
set_option maxRecDepth 100000
set_option maxHeartbeats 4000000
namespace Et
open PySem PySem.Spec PyProof.Rows L2 Com Dt Nd
variable [Dt.Tb]
/-- a value: data that stand, or something of one's own that may change -/
inductive U where
  | d (x : D)
  | lst (us : List U)
  | obj (C : Addr) (ks : List Str) (us : List U)
  | dct (w : World) (nk : Bool) (ks : List NestedKey) (us : List U)
abbrev Ev := List (Option U)
mutual
inductive RU (W : Wd) (H : Hp) : V → U → List Addr → Prop
  | d {v : V} {x : D} : Vd W v x → RU W H v (.d x) []
  | lst {a : Addr} {vs : List V} {us : List U} {fp : List Addr} : H a = some (.lst vs) → RUs W H vs us fp → W.F a = none → ¬ W.G a → RU W H (.ref a) (.lst us) (a :: fp)
  | obj {a C dx : Addr} {ks : List Str} {vs : List V} {us : List U} {fp : List Addr} : H a = some (.ins C dx (ks.zip vs)) → ks.length = vs.length → RUs W H vs us fp → W.F a = none → ¬ W.G a → RU W H (.ref a) (.obj C ks us) (a :: fp)
  | dctN {a : Addr} {w : World} {xs : List NX} {ks : List NestedKey} {us : List U} {fp : List Addr} : H a = some (DN w a xs) → xs.map (·.1) = ks → VdA W (xs.map fun x => .ref x.2.1) (dOfA ks) → RUs W H (xs.map (·.2.2)) us fp → W.F a = none → ¬ W.G a → RU W H (.ref a) (.dct w true ks us) (a :: fp)
  | dctK {a : Addr} {w : World} {xs : List (Key × V)} {ks : List NestedKey} {us : List U} {fp : List Addr} : H a = some (.dK xs) → xs.map (fun x => nkK x.1) = ks → RUs W H (xs.map (·.2)) us fp → W.F a = none → ¬ W.G a → RU W H (.ref a) (.dct w false ks us) (a :: fp)
inductive RUs (W : Wd) (H : Hp) : List V → List U → List Addr → Prop
  | nil : RUs W H [] [] []
  | cons {v : V} {vs : List V} {u : U} {us : List U} {fp fq : List Addr} : RU W H v u fp → RUs W H vs us fq → RUs W H (v :: vs) (u :: us) (fp ++ fq)
end
/-- at a stands something that may change -/
def Nod (W : Wd) (H : Hp) (a : Addr) : Prop := (∃ o, H a = some o ∧ ¬ Dt.Still a o) ∧ W.F a = none ∧ ¬ W.G a
mutual
theorem RU.nod {W : Wd} {H : Hp} : ∀ {v : V} {u : U} {fp : List Addr}, RU W H v u fp → ∀ a ∈ fp, Nod W H a
  | _, _, _, .d _, a, h => nomatch h
  | _, _, _, .lst h t f g, a, m => by
    rcases List.mem_cons.mp m with rfl | m
    · exact ⟨⟨_, h, Dt.still_lst⟩, f, g⟩
    · exact RUs.nod t a m
  | _, _, _, .obj h _ t f g, a, m => by
    rcases List.mem_cons.mp m with rfl | m
    · exact ⟨⟨_, h, Dt.still_ins⟩, f, g⟩
    · exact RUs.nod t a m
  | _, _, _, .dctN h _ _ t f g, a, m => by
    rcases List.mem_cons.mp m with rfl | m
    · exact ⟨⟨_, h, Dt.still_dn⟩, f, g⟩
    · exact RUs.nod t a m
  | _, _, _, .dctK h _ t f g, a, m => by
    rcases List.mem_cons.mp m with rfl | m
    · exact ⟨⟨_, h, Dt.still_dK⟩, f, g⟩
    · exact RUs.nod t a m
theorem RUs.nod {W : Wd} {H : Hp} : ∀ {vs : List V} {us : List U} {fp : List Addr}, RUs W H vs us fp → ∀ a ∈ fp, Nod W H a
  | _, _, _, .nil, a, h => nomatch h
  | _, _, _, .cons h t, a, m => (List.mem_append.mp m).elim (RU.nod h a) (RUs.nod t a)
end
/-- what a tree leans on stays -/
def Keep (W : Wd) (H : Hp) (W' : Wd) (H' : Hp) (fp : List Addr) : Prop := Le W W' ∧ ∀ a ∈ fp, (∀ o, H a = some o → H' a = some o) ∧ W'.F a = none ∧ ¬ W'.G a
theorem Keep.l {W W' : Wd} {H H' : Hp} {fp fq : List Addr} (k : Keep W H W' H' (fp ++ fq)) : Keep W H W' H' fp := ⟨k.1, fun a h => k.2 a (List.mem_append_left _ h)⟩
theorem Keep.r {W W' : Wd} {H H' : Hp} {fp fq : List Addr} (k : Keep W H W' H' (fp ++ fq)) : Keep W H W' H' fq := ⟨k.1, fun a h => k.2 a (List.mem_append_right _ h)⟩
theorem Keep.t {W W' : Wd} {H H' : Hp} {a : Addr} {fp : List Addr} (k : Keep W H W' H' (a :: fp)) : Keep W H W' H' fp := ⟨k.1, fun b h => k.2 b (List.mem_cons_of_mem _ h)⟩
mutual
theorem RU.stay {W W' : Wd} {H H' : Hp} : ∀ {v : V} {u : U} {fp : List Addr}, RU W H v u fp → Keep W H W' H' fp → RU W' H' v u fp
  | _, _, _, .d h, k => .d (h.mono k.1)
  | _, _, _, .lst h t f g, k => have z := k.2 _ (List.mem_cons_self ..); .lst (z.1 _ h) (RUs.stay t k.t) z.2.1 z.2.2
  | _, _, _, .obj h e t f g, k => have z := k.2 _ (List.mem_cons_self ..); .obj (z.1 _ h) e (RUs.stay t k.t) z.2.1 z.2.2
  | _, _, _, .dctN h e d t f g, k => have z := k.2 _ (List.mem_cons_self ..); .dctN (z.1 _ h) e (d.mono k.1) (RUs.stay t k.t) z.2.1 z.2.2
  | _, _, _, .dctK h e t f g, k => have z := k.2 _ (List.mem_cons_self ..); .dctK (z.1 _ h) e (RUs.stay t k.t) z.2.1 z.2.2
theorem RUs.stay {W W' : Wd} {H H' : Hp} : ∀ {vs : List V} {us : List U} {fp : List Addr}, RUs W H vs us fp → Keep W H W' H' fp → RUs W' H' vs us fp
  | _, _, _, .nil, _ => .nil
  | _, _, _, .cons h t, k => .cons (RU.stay h k.l) (RUs.stay t k.r)
end
section
variable {W : Wd} {H : Hp}
theorem RUs.len : ∀ {vs : List V} {us : List U} {fp : List Addr}, RUs W H vs us fp → vs.length = us.length
  | _, _, _, .nil => rfl
  | _, _, _, .cons _ t => by rw [List.length_cons, List.length_cons, RUs.len t]
theorem RUs.app : ∀ {vs vs' : List V} {us us' : List U} {fp fq : List Addr}, RUs W H vs us fp → RUs W H vs' us' fq → RUs W H (vs ++ vs') (us ++ us') (fp ++ fq)
  | _, _, _, _, _, _, .nil, h => h
  | _, _, _, _, _, _, .cons h t, g => by
    rw [List.append_assoc]
    exact .cons h (RUs.app t g)
theorem RUs.one {v : V} {u : U} {fp : List Addr} (h : RU W H v u fp) : RUs W H [v] [u] fp := by
  have := RUs.cons h (RUs.nil (W := W) (H := H))
  rwa [List.append_nil] at this
theorem RUs.ofVdA : ∀ {vs : List V} {ds : List D}, VdA W vs ds → RUs W H vs (ds.map .d) []
  | _, _, .nil => .nil
  | _, _, .cons h t => .cons (fp := []) (.d h) (RUs.ofVdA t)
/-- one of them, and what replaces it -/
theorem RUs.at : ∀ {vs : List V} {us : List U} {fp : List Addr} {n : Nat} {u : U}, RUs W H vs us fp → us[n]? = some u → ∃ v f1 f2 f3, vs[n]? = some v ∧ RU W H v u f2 ∧ fp = f1 ++ f2 ++ f3 ∧
    ∀ {W' : Wd} {H' : Hp} {v' : V} {u' : U} {g : List Addr}, Keep W H W' H' (f1 ++ f3) → RU W' H' v' u' g → RUs W' H' (vs.set n v') (us.set n u') (f1 ++ g ++ f3)
  | _, _, _, 0, _, .cons (fq := fq) h t, e => by
    rw [List.getElem?_cons_zero] at e
    cases e
    exact ⟨_, [], _, fq, rfl, h, rfl, fun k r => .cons r (t.stay k)⟩
  | _, _, _, n + 1, _, .cons (fp := f0) h t, e => by
    rw [List.getElem?_cons_succ] at e
    obtain ⟨v, f1, f2, f3, a, b, c, r⟩ := RUs.at t e
    refine ⟨v, f0 ++ f1, f2, f3, by rw [List.getElem?_cons_succ]; exact a, b, by rw [c]; simp only [List.append_assoc], fun k q => ?_⟩
    rw [List.append_assoc] at k
    have := r k.r q
    rw [List.set_cons_succ, List.set_cons_succ, show ∀ g : List Addr, f0 ++ f1 ++ g ++ f3 = f0 ++ (f1 ++ g ++ f3) from fun g => by simp only [List.append_assoc]]
    exact .cons (h.stay k.l) this
theorem RUs.d_of {vs : List V} : ∀ {ds : List D} {fp : List Addr}, RUs W H vs (ds.map .d) fp → VdA W vs ds ∧ fp = [] := fun {ds} => by
  induction ds generalizing vs with
  | nil => intro fp h; cases h; exact ⟨.nil, rfl⟩
  | cons d ds ih =>
    intro fp h
    cases h with
    | cons h t =>
      cases h with
      | d h =>
        obtain ⟨a, rfl⟩ := ih t
        exact ⟨.cons h a, rfl⟩
end
structure GoB (B : Addr → Prop) (W : Wd) (H : Hp) (W' : Wd) (H' : Hp) : Prop where
  le : Le W W'
  gn : ∀ a, W'.G a → W.G a ∨ H a = none
  fn : ∀ a o, W'.F a = some o → W.F a = some o ∨ H a = none ∨ (∃ u, H a = some u ∧ Dt.Still a u) ∨ B a
  p : ∀ b o, H b = some o → ¬ W.G b → ¬ B b → H' b = some o
  st : ∀ b, H' b = none → H b = none
  ok : Ok W' H'
section
variable {B B1 : Addr → Prop} {W W1 W2 : Wd} {H H1 H2 : Hp}
theorem GoB.refl (k : Ok W H) : GoB B W H W H := ⟨.refl W, fun _ h => .inl h, fun _ _ h => .inl h, fun _ _ h _ _ => h, fun _ h => h, k⟩
theorem GoB.trans (g : GoB B W H W1 H1) (g2 : GoB B1 W1 H1 W2 H2) (hb : ∀ a, B1 a → B a ∨ H a = none) : GoB B W H W2 H2 where
  le := g.le.trans g2.le
  gn := fun a h => (g2.gn a h).elim (g.gn a) fun e => .inr (g.st a e)
  fn := fun a o h => by
    rcases g2.fn a o h with h | h | ⟨u2, h, hs⟩ | h
    · exact g.fn a o h
    · exact .inr (.inl (g.st a h))
    · cases e : H a with
      | none => exact .inr (.inl rfl)
      | some u =>
        by_cases hg : W.G a
        · exact ((g.ok.g a (g.le.g a hg)).2.st h hs).elim
        · by_cases hB : B a
          · exact .inr (.inr (.inr hB))
          · have := g.p a u e hg hB
            rw [h] at this
            cases this
            exact .inr (.inr (.inl ⟨_, rfl, hs⟩))
    · rcases hb a h with h | h
      · exact .inr (.inr (.inr h))
      · exact .inr (.inl h)
  p := fun b o e n nb => by
    have n1 : ¬ W1.G b := fun h => by
      rcases g.gn b h with h | h
      · exact n h
      · rw [e] at h; cases h
    have n2 : ¬ B1 b := fun h => by
      rcases hb b h with h | h
      · exact nb h
      · rw [e] at h; cases h
    exact g2.p b o (g.p b o e n nb) n1 n2
  st := fun b h => g.st b (g2.st b h)
  ok := g2.ok
theorem GoB.of (k : Ok W H) (g : Go W H W1 H1) : GoB B W H W1 H1 := ⟨g.le, g.gn, fun a o h => (g.fn a o h).imp id fun z => z.imp id .inl, fun b o e n _ => g.p b o e n, fun b h => g.gone k h, g.ok⟩
theorem GoB.mono (g : GoB B W H W1 H1) (hb : ∀ a, B a → B1 a) : GoB B1 W H W1 H1 := ⟨g.le, g.gn, fun a o h => (g.fn a o h).imp id fun z => z.imp id fun z => z.imp id (hb a), fun b o e n nb => g.p b o e n fun h => nb (hb b h), g.st, g.ok⟩
/-- a tree apart from what changes stays -/
theorem GoB.keep (g : GoB B W H W1 H1) {fp : List Addr} (n : ∀ a ∈ fp, Nod W H a) (hb : ∀ a ∈ fp, ¬ B a) : Keep W H W1 H1 fp := ⟨g.le, fun a m => by
  obtain ⟨⟨o, e, ht⟩, f, ng⟩ := n a m
  refine ⟨fun u q => g.p a u q ng (hb a m), ?_, fun h => ?_⟩
  · cases q : W1.F a with
    | none => rfl
    | some u =>
      rcases g.fn a u q with h | h | ⟨u2, h, hs⟩ | h
      · rw [f] at h; cases h
      · rw [e] at h; cases h
      · rw [e] at h; cases h; exact absurd hs ht
      · exact absurd h (hb a m)
  · rcases g.gn a h with h | h
    · exact ng h
    · rw [e] at h; cases h⟩
end
structure Rep (W : Wd) (Z : Addr → Prop) (H : Hp) (σ : L2.St) (ρ : Ev) : Prop where
  ok : Ok W H
  len : σ.length = ρ.length
  ex : ∃ fp : Nat → List Addr, (∀ i u, ρ[i]? = some (some u) → ∃ v, σ[i]? = some (some v) ∧ RU W H v u (fp i)) ∧ (∀ i, (fp i).Nodup ∧ (∀ a ∈ fp i, Z a) ∧ ∀ a ∈ fp i, Nod W H a) ∧ ∀ i j a, i ≠ j → a ∈ fp i → a ∈ fp j → False
structure In0 where
  W : Wd
  H : Hp
  B : Addr → Prop
  s0 : L2.St
  ws : List Nat
def In0.Z (i : In0) : Addr → Prop := fun a => i.B a ∨ i.H a = none
structure At (i : In0) (W : Wd) (H : Hp) (σ : L2.St) (ρ : Ev) : Prop where
  k0 : Ok i.W i.H
  go : GoB i.B i.W i.H W H
  rep : Rep W i.Z H σ ρ
  un : ∀ k : Nat, k ∉ i.ws → σ[k]? = i.s0[k]?
section
variable {i : In0} {W W1 : Wd} {H H1 : Hp} {σ : L2.St} {ρ : Ev} {Z : Addr → Prop} {v : V} {d : D} {u : U} {j : Nat}
theorem Rep.go (R : Rep W Z H σ ρ) {B : Addr → Prop} (g : GoB B W H W1 H1) (hb : ∀ a, B a → H a = none) : Rep W1 Z H1 σ ρ := by
  obtain ⟨fp, h1, h2, h3⟩ := R.ex
  have kp : ∀ i, Keep W H W1 H1 (fp i) := fun i => g.keep (h2 i).2.2 fun a m b => by
    obtain ⟨⟨o, e, _⟩, _⟩ := (h2 i).2.2 a m
    rw [hb a b] at e
    cases e
  refine ⟨g.ok, R.len, fp, fun i u e => ?_, fun i => ⟨(h2 i).1, (h2 i).2.1, fun a m => ?_⟩, h3⟩
  · obtain ⟨v, e1, r⟩ := h1 i u e
    exact ⟨v, e1, r.stay (kp i)⟩
  · obtain ⟨⟨o, e, ht⟩, _, _⟩ := (h2 i).2.2 a m
    have z := (kp i).2 a m
    exact ⟨⟨o, z.1 o e, ht⟩, z.2.1, z.2.2⟩
theorem Rep.pure (R : Rep W Z H σ ρ) (g : Go W H W1 H1) : Rep W1 Z H1 σ ρ := R.go (B := fun _ => False) (.of R.ok g) fun _ h => h.elim
theorem At.pure (A : At i W H σ ρ) (g : Go W H W1 H1) : At i W1 H1 σ ρ := ⟨A.k0, A.go.trans (B1 := fun _ => False) (.of A.rep.ok g) fun _ h => h.elim, A.rep.pure g, A.un⟩
theorem Rep.var (R : Rep W Z H σ ρ) (h : ρ[j]? = some (some (.d d))) : ∃ v, σ[j]? = some (some v) ∧ Vd W v d := by
  obtain ⟨fp, h1, _⟩ := R.ex
  obtain ⟨v, e, r⟩ := h1 j _ h
  generalize hf : fp j = f at r
  cases r with
  | d r => exact ⟨v, e, r⟩
theorem Rep.set (R : Rep W Z H σ ρ) (h : Vd W v d) : Rep W Z H (σ.set j (some v)) (ρ.set j (some (.d d))) := by
  obtain ⟨fp, h1, h2, h3⟩ := R.ex
  refine ⟨R.ok, by rw [List.length_set, List.length_set, R.len], fun k => if k = j then [] else fp k, fun k u e => ?_, fun k => ?_, fun k l a n m1 m2 => ?_⟩
  · rcases getset e with ⟨rfl, e1, l⟩ | ⟨n, e⟩
    · cases e1
      exact ⟨v, List.getElem?_set_self (by rw [R.len]; exact l), by dsimp only; rw [if_pos rfl]; exact .d h⟩
    · obtain ⟨w, e1, r⟩ := h1 k u e
      exact ⟨w, by rw [List.getElem?_set_ne (fun z => n z.symm)]; exact e1, by dsimp only; rw [if_neg n]; exact r⟩
  · dsimp only
    by_cases c : k = j
    · rw [if_pos c]; exact ⟨.nil, (fun _ h => nomatch h), fun _ h => nomatch h⟩
    · rw [if_neg c]; exact h2 k
  · dsimp only at m1 m2
    by_cases c : k = j
    · rw [if_pos c] at m1; cases m1
    · by_cases c2 : l = j
      · rw [if_pos c2] at m2; cases m2
      · rw [if_neg c] at m1; rw [if_neg c2] at m2; exact h3 k l a n m1 m2
theorem Rep.wipe1 (R : Rep W Z H σ ρ) : Rep W Z H (σ.set j none) (ρ.set j none) := by
  obtain ⟨fp, h1, h2, h3⟩ := R.ex
  refine ⟨R.ok, by rw [List.length_set, List.length_set, R.len], fp, fun k u e => ?_, h2, h3⟩
  rcases getset e with ⟨_, e1, _⟩ | ⟨n, e⟩
  · cases e1
  · obtain ⟨w, e1, r⟩ := h1 k u e
    exact ⟨w, by rw [List.getElem?_set_ne (fun z => n z.symm)]; exact e1, r⟩
def wipeU (ρ : Ev) : List Nat → Ev
  | [] => ρ
  | v :: vs => (wipeU ρ vs).set v none
theorem Rep.wipe (R : Rep W Z H σ ρ) : ∀ vs : List Nat, Rep W Z H (L2.wipe σ vs) (wipeU ρ vs)
  | [] => R
  | v :: vs => by
    unfold L2.wipe wipeU
    exact (Rep.wipe R vs).wipe1
theorem un_set {i : In0} {σ : L2.St} {j : Nat} {o : Option V} (h : ∀ k : Nat, k ∉ i.ws → σ[k]? = i.s0[k]?) (hj : j ∈ i.ws) : ∀ k : Nat, k ∉ i.ws → (σ.set j o)[k]? = i.s0[k]? := fun k hk => by
  rw [List.getElem?_set_ne (fun z : j = k => hk (by rw [← z]; exact hj))]
  exact h k hk
theorem At.set (A : At i W H σ ρ) (hj : j ∈ i.ws) (h : Vd W v d) : At i W H (σ.set j (some v)) (ρ.set j (some (.d d))) := ⟨A.k0, A.go, A.rep.set h, un_set A.un hj⟩
/-- something new of one's own -/
structure New (i : In0) (W : Wd) (H : Hp) (σ : L2.St) (ρ : Ev) (v : V) (u : U) : Prop where
  k0 : Ok i.W i.H
  go : GoB i.B i.W i.H W H
  rep : Rep W i.Z H (σ ++ [some v]) (ρ ++ [some u])
  un : ∀ k : Nat, k ∉ i.ws → σ[k]? = i.s0[k]?
theorem Rep.fst {vs : List (Option V)} {us : Ev} (R : Rep W Z H (σ ++ vs) (ρ ++ us)) (hl : σ.length = ρ.length) : Rep W Z H σ ρ := by
  obtain ⟨fp, h1, h2, h3⟩ := R.ex
  refine ⟨R.ok, hl, fp, fun k u e => ?_, h2, h3⟩
  have kl := (List.getElem?_eq_some_iff.mp e).1
  obtain ⟨w, e1, r⟩ := h1 k u (by rw [List.getElem?_append_left kl]; exact e)
  rw [List.getElem?_append_left (by rw [hl]; exact kl)] at e1
  exact ⟨w, e1, r⟩
theorem New.hl (N : New i W H σ ρ v u) : σ.length = ρ.length := by
  have := N.rep.len
  simpa using this
theorem New.at (N : New i W H σ ρ v u) : At i W H σ ρ := ⟨N.k0, N.go, N.rep.fst N.hl, N.un⟩
theorem New.tree (N : New i W H σ ρ v u) : ∃ fp : Nat → List Addr, ∃ f0, RU W H v u f0 ∧ f0.Nodup ∧ (∀ a ∈ f0, i.Z a) ∧ (∀ i u, ρ[i]? = some (some u) → ∃ v, σ[i]? = some (some v) ∧ RU W H v u (fp i)) ∧ (∀ j, (fp j).Nodup ∧ (∀ a ∈ fp j, i.Z a) ∧ ∀ a ∈ fp j, Nod W H a) ∧ (∀ i j a, i ≠ j → a ∈ fp i → a ∈ fp j → False) ∧ ∀ j a, a ∈ f0 → a ∈ fp j → False := by
  obtain ⟨fp, h1, h2, h3⟩ := N.rep.ex
  have hl := N.hl
  obtain ⟨w, e1, r⟩ := h1 ρ.length u (by rw [List.getElem?_append_right (Nat.le_refl _), Nat.sub_self]; rfl)
  rw [← hl, List.getElem?_append_right (Nat.le_refl _), Nat.sub_self] at e1
  cases e1
  refine ⟨fun k => if k = ρ.length then [] else fp k, fp ρ.length, r, (h2 _).1, (h2 _).2.1, fun k u e => ?_, fun k => ?_, fun k l a n m1 m2 => ?_, fun k a m0 m1 => ?_⟩
  · have kl := (List.getElem?_eq_some_iff.mp e).1
    obtain ⟨w, e1, r⟩ := h1 k u (by rw [List.getElem?_append_left kl]; exact e)
    rw [List.getElem?_append_left (by rw [hl]; exact kl)] at e1
    exact ⟨w, e1, by dsimp only; rw [if_neg (by omega)]; exact r⟩
  · dsimp only
    by_cases c : k = ρ.length
    · rw [if_pos c]; exact ⟨.nil, (fun _ h => nomatch h), fun _ h => nomatch h⟩
    · rw [if_neg c]; exact h2 k
  · dsimp only at m1 m2
    by_cases c : k = ρ.length
    · rw [if_pos c] at m1; cases m1
    · by_cases c2 : l = ρ.length
      · rw [if_pos c2] at m2; cases m2
      · rw [if_neg c] at m1; rw [if_neg c2] at m2; exact h3 k l a n m1 m2
  · dsimp only at m1
    by_cases c : k = ρ.length
    · rw [if_pos c] at m1; cases m1
    · rw [if_neg c] at m1; exact h3 _ k a (fun z => c z.symm) m0 m1
/-- it is kept in a slot -/
theorem New.set (N : New i W H σ ρ v u) (hj : j ∈ i.ws) : At i W H (σ.set j (some v)) (ρ.set j (some u)) := by
  obtain ⟨fp, f0, r, nd, hz, h1, h2, h3, h4⟩ := N.tree
  have A := N.at
  refine ⟨A.k0, A.go, ⟨A.rep.ok, by rw [List.length_set, List.length_set, A.rep.len], ?_⟩, un_set A.un hj⟩
  refine ⟨fun k => if k = j then f0 else fp k, fun k u e => ?_, fun k => ?_, fun k l a n m1 m2 => ?_⟩
  · rcases getset e with ⟨rfl, e1, l⟩ | ⟨n, e⟩
    · cases e1
      exact ⟨v, List.getElem?_set_self (by rw [A.rep.len]; exact l), by dsimp only; rw [if_pos rfl]; exact r⟩
    · obtain ⟨w, e1, r⟩ := h1 k u e
      exact ⟨w, by rw [List.getElem?_set_ne (fun z => n z.symm)]; exact e1, by dsimp only; rw [if_neg n]; exact r⟩
  · dsimp only
    by_cases c : k = j
    · rw [if_pos c]; exact ⟨nd, hz, r.nod⟩
    · rw [if_neg c]; exact h2 k
  · dsimp only at m1 m2
    by_cases c : k = j
    · by_cases c2 : l = j
      · exact n (c.trans c2.symm)
      · rw [if_pos c] at m1; rw [if_neg c2] at m2; exact h4 l a m1 m2
    · by_cases c2 : l = j
      · rw [if_neg c] at m1; rw [if_pos c2] at m2; exact h4 k a m2 m1
      · rw [if_neg c] at m1; rw [if_neg c2] at m2; exact h3 k l a n m1 m2
end
def U.kids : U → List U
  | .d _ => []
  | .lst us => us
  | .obj _ _ us => us
  | .dct _ _ _ us => us
def U.withKids : U → List U → U
  | .d x, _ => .d x
  | .lst _, us => .lst us
  | .obj C ks _, us => .obj C ks us
  | .dct w n ks _, us => .dct w n ks us
def U.at : U → List Nat → Option U
  | u, [] => some u
  | u, n :: p => match u.kids[n]? with
    | some t => t.at p
    | none => none
def U.put : U → List Nat → U → U
  | _, [], t => t
  | u, n :: p, t => match u.kids[n]? with
    | some s => u.withKids (u.kids.set n (s.put p t))
    | none => u
/-- what stands at a path of a slot -/
def Foc (i : In0) (W : Wd) (H : Hp) (σ : L2.St) (ρ : Ev) (s : Nat) (p : List Nat) (t : U) (v : V) : Prop :=
  ∃ (fp : Nat → List Addr) (u : U) (v0 : V) (f1 f2 f3 : List Addr), ρ[s]? = some (some u) ∧ σ[s]? = some (some v0) ∧ u.at p = some t ∧ fp s = f1 ++ f2 ++ f3 ∧ RU W H v t f2 ∧
    (∀ i u, ρ[i]? = some (some u) → ∃ v, σ[i]? = some (some v) ∧ RU W H v u (fp i)) ∧ (∀ j, (fp j).Nodup ∧ (∀ a ∈ fp j, i.Z a) ∧ ∀ a ∈ fp j, Nod W H a) ∧ (∀ i j a, i ≠ j → a ∈ fp i → a ∈ fp j → False) ∧
    ∀ {W' : Wd} {H' : Hp} {t' : U} {g : List Addr}, Keep W H W' H' (f1 ++ f3) → RU W' H' v t' g → RU W' H' v0 (u.put p t') (f1 ++ g ++ f3)
section
variable {i : In0} {W W1 : Wd} {H H1 : Hp} {σ : L2.St} {ρ : Ev} {s n : Nat} {p : List Nat} {t t1 : U} {v : V}
theorem At.foc {u : U} (A : At i W H σ ρ) (h : ρ[s]? = some (some u)) : ∃ v, σ[s]? = some (some v) ∧ Foc i W H σ ρ s [] u v := by
  obtain ⟨fp, h1, h2, h3⟩ := A.rep.ex
  obtain ⟨v, e, r⟩ := h1 s u h
  exact ⟨v, e, fp, u, v, [], fp s, [], h, e, rfl, by simp, r, h1, h2, h3, fun _ r => by rw [List.nil_append, List.append_nil]; exact r⟩
/-- other things happen -/
theorem Foc.pure (k0 : Ok W H) (f : Foc i W H σ ρ s p t v) (g : Go W H W1 H1) : Foc i W1 H1 σ ρ s p t v := by
  obtain ⟨fp, u, v0, f1, f2, f3, h1, h2, h3, h4, r, q1, q2, q3, back⟩ := f
  have gb : GoB (fun _ => False) W H W1 H1 := .of k0 g
  have kp : ∀ i, Keep W H W1 H1 (fp i) := fun i => gb.keep (q2 i).2.2 fun _ _ h => h
  have ks := kp s
  rw [h4] at ks
  refine ⟨fp, u, v0, f1, f2, f3, h1, h2, h3, h4, r.stay ks.l.r, fun k u e => ?_, fun k => ⟨(q2 k).1, (q2 k).2.1, fun a m => ?_⟩, q3, fun {W' H' t' g'} k r' => back ⟨gb.le.trans k.1, fun a m => ?_⟩ r'⟩
  · obtain ⟨v, e1, r⟩ := q1 k u e
    exact ⟨v, e1, r.stay (kp k)⟩
  · obtain ⟨⟨o, e, ht⟩, _, _⟩ := (q2 k).2.2 a m
    have z := (kp k).2 a m
    exact ⟨⟨o, z.1 o e, ht⟩, z.2.1, z.2.2⟩
  · have z := k.2 a m
    have y := ks.2 a (by simp at m ⊢; rcases m with m | m <;> simp [m])
    exact ⟨fun o e => z.1 o (y.1 o e), z.2⟩
/-- it changes: the node's own object alone, perhaps with new things below -/
theorem Foc.mutR (hlen : σ.length = ρ.length) (f : Foc i W H σ ρ s p t v) : ∃ f2, RU W H v t f2 ∧ (∀ a ∈ f2, i.Z a) ∧ f2.Nodup ∧
    ∀ {X : Addr → Prop} {t' : U} {W' : Wd} {H' : Hp} {g : List Addr}, (∀ a, X a → ¬ i.Z a) → RU W' H' v t' g → g.Nodup → (∀ a ∈ g, a ∈ f2 ∨ H a = none ∨ X a) → (∀ a ∈ g, i.Z a ∨ X a) → GoB (fun a => a ∈ f2) W H W' H' →
    Rep W' (fun a => i.Z a ∨ X a) H' σ (match ρ[s]? with | some (some u) => ρ.set s (some (u.put p t')) | _ => ρ) := by
  obtain ⟨fp, u, v0, f1, f2, f3, h1, h2, h3, h4, r, q1, q2, q3, back⟩ := f
  rw [h1]
  have nd := (q2 s).1
  have hz := (q2 s).2.1
  rw [h4] at nd hz
  have nd2 : f2.Nodup := (List.nodup_append.mp (List.nodup_append.mp nd).1).2.1
  refine ⟨f2, r, fun a m => hz a (by simp [m]), nd2, fun {X t' W' H' g} hX r' ng gs gz go => ?_⟩
  have dis : ∀ a, a ∈ f2 → a ∈ f1 ++ f3 → False := fun a m m' => by
    rw [List.nodup_append] at nd
    rcases List.mem_append.mp m' with m' | m'
    · have := (List.nodup_append.mp nd.1).2.2 a m' a m
      exact this rfl
    · exact nd.2.2 a (by simp [m]) a m' rfl
  have k13 : Keep W H W' H' (f1 ++ f3) := go.keep (fun a m => (q2 s).2.2 a (by rw [h4]; simp at m ⊢; rcases m with m | m <;> simp [m])) fun a m m' => dis a m' m
  have kp : ∀ k, k ≠ s → Keep W H W' H' (fp k) := fun k n => go.keep (q2 k).2.2 fun a m m' => q3 k s a n m (by rw [h4]; simp [m'])
  have rn := back k13 r'
  have gnot : ∀ a, a ∈ g → ∀ k, k ≠ s → a ∈ fp k → False := fun a m k n m' => by
    rcases gs a m with m | m | m
    · exact q3 k s a n m' (by rw [h4]; simp [m])
    · obtain ⟨⟨o, e, _⟩, _⟩ := (q2 k).2.2 a m'
      rw [m] at e; cases e
    · exact hX a m ((q2 k).2.1 a m')
  have gnot2 : ∀ a, a ∈ g → a ∈ f1 ++ f3 → False := fun a m m' => by
    rcases gs a m with m | m | m
    · exact dis a m m'
    · obtain ⟨⟨o, e, _⟩, _⟩ := (q2 s).2.2 a (by rw [h4]; simp at m' ⊢; rcases m' with m' | m' <;> simp [m'])
      rw [m] at e; cases e
    · exact hX a m (hz a (by simp at m' ⊢; rcases m' with m' | m' <;> simp [m']))
  refine ⟨go.ok, by rw [List.length_set]; exact hlen, ?_⟩
  refine ⟨fun k => if k = s then f1 ++ g ++ f3 else fp k, fun k u' e => ?_, fun k => ?_, fun k l a n m1 m2 => ?_⟩
  · rcases getset e with ⟨rfl, e1, l⟩ | ⟨n, e⟩
    · cases e1
      exact ⟨v0, h2, by dsimp only; rw [if_pos rfl]; exact rn⟩
    · obtain ⟨w, e1, r⟩ := q1 k u' e
      exact ⟨w, e1, by dsimp only; rw [if_neg n]; exact r.stay (kp k n)⟩
  · dsimp only
    by_cases c : k = s
    · rw [if_pos c]
      refine ⟨?_, fun a m => ?_, rn.nod⟩
      · rw [List.nodup_append] at nd ⊢
        obtain ⟨n1, n3, n13⟩ := nd
        rw [List.nodup_append] at n1 ⊢
        refine ⟨⟨n1.1, ng, fun a m b m' z => gnot2 b m' (by subst z; simp [m])⟩, n3, fun a m b m' z => ?_⟩
        subst z
        rcases List.mem_append.mp m with m | m
        · exact n13 a (by simp [m]) a m' rfl
        · exact gnot2 a m (by simp [m'])
      · simp at m
        rcases m with m | m | m
        · exact .inl (hz a (by simp [m]))
        · exact gz a m
        · exact .inl (hz a (by simp [m]))
    · rw [if_neg c]
      refine ⟨(q2 k).1, fun a m => .inl ((q2 k).2.1 a m), fun a m => ?_⟩
      obtain ⟨⟨o, e, ht⟩, _, _⟩ := (q2 k).2.2 a m
      have z := (kp k c).2 a m
      exact ⟨⟨o, z.1 o e, ht⟩, z.2.1, z.2.2⟩
  · dsimp only at m1 m2
    by_cases c : k = s
    · rw [if_pos c] at m1
      have c2 : l ≠ s := fun z => n (c.trans z.symm)
      rw [if_neg c2] at m2
      simp at m1
      rcases m1 with m1 | m1 | m1
      · exact q3 l s a c2 m2 (by rw [h4]; simp [m1])
      · exact gnot a m1 l c2 m2
      · exact q3 l s a c2 m2 (by rw [h4]; simp [m1])
    · rw [if_neg c] at m1
      by_cases c2 : l = s
      · rw [if_pos c2] at m2
        simp at m2
        rcases m2 with m2 | m2 | m2
        · exact q3 k s a c m1 (by rw [h4]; simp [m2])
        · exact gnot a m2 k c m1
        · exact q3 k s a c m1 (by rw [h4]; simp [m2])
      · rw [if_neg c2] at m2
        exact q3 k l a n m1 m2
theorem Foc.mut (A : At i W H σ ρ) (f : Foc i W H σ ρ s p t v) : ∃ f2, RU W H v t f2 ∧ (∀ a ∈ f2, i.Z a) ∧ f2.Nodup ∧
    ∀ {t' : U} {W' : Wd} {H' : Hp} {g : List Addr}, RU W' H' v t' g → g.Nodup → (∀ a ∈ g, a ∈ f2 ∨ H a = none) → (∀ a ∈ g, i.Z a) → GoB (fun a => a ∈ f2) W H W' H' →
    At i W' H' σ (match ρ[s]? with | some (some u) => ρ.set s (some (u.put p t')) | _ => ρ) := by
  obtain ⟨f2, r, hz, nd, back⟩ := f.mutR A.rep.len
  refine ⟨f2, r, hz, nd, fun {t' W' H' g} r' ng gs gz go => ⟨A.k0, A.go.trans go fun a m => hz a m, ?_, A.un⟩⟩
  have R := back (X := fun _ => False) (fun _ h => h.elim) r' ng (fun a m => (gs a m).imp id .inl) (fun a m => .inl (gz a m)) go
  obtain ⟨fp, h1, h2, h3⟩ := R.ex
  exact ⟨R.ok, R.len, fp, h1, fun k => ⟨(h2 k).1, fun a m => ((h2 k).2.1 a m).elim id fun z => z.elim, (h2 k).2.2⟩, h3⟩
/-- data beside the slots -/
theorem New.ofD (A : At i W H σ ρ) {v : V} {d : D} (h : Vd W v d) : New i W H σ ρ v (.d d) := by
  obtain ⟨fp, h1, h2, h3⟩ := A.rep.ex
  have hl := A.rep.len
  refine ⟨A.k0, A.go, ⟨A.rep.ok, by simp [hl], fun k => if k < ρ.length then fp k else [], fun k u e => ?_, fun k => ?_, fun k l a n m1 m2 => ?_⟩, A.un⟩
  · by_cases c : k < ρ.length
    · rw [List.getElem?_append_left c] at e
      obtain ⟨w, e1, r⟩ := h1 k u e
      exact ⟨w, by rw [List.getElem?_append_left (by rw [hl]; exact c)]; exact e1, by dsimp only; rw [if_pos c]; exact r⟩
    · rw [List.getElem?_append_right (by omega)] at e
      have k0 : k - ρ.length = 0 := by
        have := (List.getElem?_eq_some_iff.mp e).1
        simp at this
        omega
      rw [k0] at e
      cases e
      exact ⟨v, by rw [List.getElem?_append_right (by omega), hl, k0]; rfl, by dsimp only; rw [if_neg c]; exact .d h⟩
  · dsimp only
    by_cases c : k < ρ.length
    · rw [if_pos c]; exact h2 k
    · rw [if_neg c]; exact ⟨.nil, (fun _ h => nomatch h), fun _ h => nomatch h⟩
  · dsimp only at m1 m2
    by_cases c : k < ρ.length
    · by_cases c2 : l < ρ.length
      · rw [if_pos c] at m1; rw [if_pos c2] at m2; exact h3 k l a n m1 m2
      · rw [if_neg c2] at m2; cases m2
    · rw [if_neg c] at m1; cases m1
/-- a new thing of one's own beside the slots: none of its nodes stood at the start of this step -/
theorem New.of (A : At i W H σ ρ) {W' : Wd} {H' : Hp} {v : V} {u : U} {f0 : List Addr} (g : GoB (fun _ => False) W H W' H') (r : RU W' H' v u f0) (nd : f0.Nodup) (nw : ∀ a ∈ f0, H a = none) : New i W' H' σ ρ v u := by
  have hl := A.rep.len
  have R := A.rep.go g fun _ h => h.elim
  obtain ⟨fp, h1, h2, h3⟩ := A.rep.ex
  have kp : ∀ i, Keep W H W' H' (fp i) := fun i => g.keep (h2 i).2.2 fun _ _ h => h
  have dis : ∀ k a, a ∈ f0 → a ∈ fp k → False := fun k a m m' => by
    obtain ⟨⟨o, e, _⟩, _⟩ := (h2 k).2.2 a m'
    rw [nw a m] at e; cases e
  refine ⟨A.k0, A.go.trans g fun _ h => h.elim, ⟨g.ok, by simp [hl], fun k => if k < ρ.length then fp k else if k = ρ.length then f0 else [], fun k u' e => ?_, fun k => ?_, fun k l a n m1 m2 => ?_⟩, A.un⟩
  · by_cases c : k < ρ.length
    · rw [List.getElem?_append_left c] at e
      obtain ⟨w, e1, r⟩ := h1 k u' e
      exact ⟨w, by rw [List.getElem?_append_left (by rw [hl]; exact c)]; exact e1, by dsimp only; rw [if_pos c]; exact r.stay (kp k)⟩
    · rw [List.getElem?_append_right (by omega)] at e
      have k0 : k - ρ.length = 0 := by
        have := (List.getElem?_eq_some_iff.mp e).1
        simp at this
        omega
      rw [k0] at e
      cases e
      exact ⟨v, by rw [List.getElem?_append_right (by omega), hl, k0]; rfl, by dsimp only; rw [if_neg c, if_pos (by omega)]; exact r⟩
  · dsimp only
    by_cases c : k < ρ.length
    · rw [if_pos c]
      refine ⟨(h2 k).1, (h2 k).2.1, fun a m => ?_⟩
      obtain ⟨⟨o, e, ht⟩, _, _⟩ := (h2 k).2.2 a m
      have z := (kp k).2 a m
      exact ⟨⟨o, z.1 o e, ht⟩, z.2.1, z.2.2⟩
    · rw [if_neg c]
      by_cases c2 : k = ρ.length
      · rw [if_pos c2]
        exact ⟨nd, fun a m => .inr (A.go.st a (nw a m)), r.nod⟩
      · rw [if_neg c2]; exact ⟨.nil, (fun _ h => nomatch h), fun _ h => nomatch h⟩
  · dsimp only at m1 m2
    by_cases c : k < ρ.length
    · rw [if_pos c] at m1
      by_cases c2 : l < ρ.length
      · rw [if_pos c2] at m2; exact h3 k l a n m1 m2
      · rw [if_neg c2] at m2
        by_cases c3 : l = ρ.length
        · rw [if_pos c3] at m2; exact dis k a m2 m1
        · rw [if_neg c3] at m2; cases m2
    · rw [if_neg c] at m1
      by_cases c4 : k = ρ.length
      · rw [if_pos c4] at m1
        by_cases c2 : l < ρ.length
        · rw [if_pos c2] at m2; exact dis l a m1 m2
        · rw [if_neg c2] at m2
          by_cases c3 : l = ρ.length
          · exact n (c4.trans c3.symm)
          · rw [if_neg c3] at m2; cases m2
      · rw [if_neg c4] at m1; cases m1
end
end Et
set_option Elab.async false
set_option linter.all false
set_option maxRecDepth 100000
set_option maxHeartbeats 4000000
namespace Et
open PySem PySem.Spec PyProof.Rows L2 Com Nd
open Dt (D Wd Vd VdA Le Ok Go Kv Ka Kb Kx KD XD SpD spOf SimR SimC SimSl SimE SimT SimA SimO SimI SimN En)
variable [Dt.Tb]
abbrev KU := U → Prop
abbrev CE := Ev → KU → XD → Prop
abbrev CT := Ev → Prop → Prop → XD → Prop
abbrev CA := Ev → (List D → Prop) → XD → Prop
def br (c : Bool) (A B : Prop) : Prop := match c with | true => A | false => B
theorem br_dec {p : Prop} [Decidable p] {A B : Prop} (h1 : p → A) (h2 : ¬ p → B) : br (decide p) A B := by
  by_cases c : p
  · rw [decide_eq_true c]; exact h1 c
  · rw [decide_eq_false c]; exact h2 c
def Ku (W : Wd) (H : Hp) (Q : VK) (q : KU) : Prop := ∀ W' v u fp H', Go W H W' H' → RU W' H' v u fp → q u → Q v H'
theorem Ku.go {W W1 : Wd} {H H1 : Hp} {Q : VK} {q : KU} (k : Ok W H) (h : Ku W H Q q) (g : Go W H W1 H1) : Ku W1 H1 Q q := fun W' v d fp H' g1 => h W' v d fp H' (g.trans k g1)
theorem Ku.d {W : Wd} {H : Hp} {Q : VK} {q : KU} (h : Ku W H Q q) : Kv W H Q (fun d => q (.d d)) := fun W' v d H' g hv hq => h W' v _ _ H' g (.d hv) hq
theorem RU.pure {W W1 : Wd} {H H1 : Hp} {v : V} {u : U} {fp : List Addr} (k : Ok W H) (r : RU W H v u fp) (g : Go W H W1 H1) : RU W1 H1 v u fp := r.stay ((GoB.of (B := fun _ => False) k g).keep r.nod fun _ _ h => h)
def SE (E : XK) (te : TE) (m : CE) : Prop := ∀ W Z H σ ρ Q q e, Rep W Z H σ ρ → m ρ q e → Ku W H Q q → Kx W H E e → te σ H Q
def ST (E : XK) (tt : TT) (m : CT) : Prop := ∀ W Z H σ ρ (Q : Bool → Hp → Prop) A B e, Rep W Z H σ ρ → m ρ A B e → (∀ W' H', Go W H W' H' → A → Q true H') → (∀ W' H', Go W H W' H' → B → Q false H') → Kx W H E e → tt σ H Q
def SA (E : XK) (n : Nat) (ta : TA) (m : CA) : Prop := ∀ W Z H σ ρ Q q e, Rep W Z H σ ρ → m ρ q e → Ka n W H Q q → Kx W H E e → ta σ H Q
def onD (u : U) (k : D → Prop) : Prop := match u with
  | .d x => k x
  | _ => False
theorem onD_of {W : Wd} {H : Hp} {v : V} {u : U} {fp : List Addr} {k : D → Prop} (r : RU W H v u fp) (h : onD u k) : ∃ d, u = .d d ∧ Vd W v d ∧ k d := by
  cases u with
  | d x => cases r with | d r => exact ⟨x, rfl, r, h⟩
  | _ => exact h.elim
def oe1 : Option U → Option En
  | some (.d x) => some (.d x)
  | _ => none
def oe (ρ : Ev) : Dt.Ev := ρ.map oe1
theorem Rep.old {W : Wd} {Z : Addr → Prop} {H : Hp} {σ : L2.St} {ρ : Ev} (R : Rep W Z H σ ρ) : Dt.Rep W H H σ (oe ρ) where
  ok := R.ok
  len := by unfold oe; rw [List.length_map, R.len]
  at_ := fun i e h => by
    unfold oe at h
    rw [List.getElem?_map] at h
    cases q : ρ[i]? with
    | none => rw [q] at h; cases h
    | some o =>
      rw [q] at h
      cases o with
      | none => cases h
      | some u =>
        cases u with
        | d x =>
          cases h
          exact R.var q
        | _ => cases h
  sep := fun i j ds es v h => by
    unfold oe at h
    rw [List.getElem?_map] at h
    cases q : ρ[i]? with
    | none => rw [q] at h; cases h
    | some o =>
      rw [q] at h
      cases o with
      | none => cases h
      | some u => cases u <;> cases h
abbrev cVar (i : Nat) : CE := fun ρ q _ => match ρ[i]? with
  | some (some u) => q u
  | _ => False
abbrev cC (d : D) : CE := fun _ q _ => q (.d d)
abbrev cOp (f : D → D → KD → Prop) (a b : CE) : CE := fun ρ q e => a ρ (fun x => onD x fun x => b ρ (fun y => onD y fun y => f x y fun z => q (.d z)) e) e
abbrev cNil : CA := fun _ q _ => q []
abbrev cCons (a : CE) (r : CA) : CA := fun ρ q e => a ρ (fun x => onD x fun x => r ρ (fun xs => q (x :: xs)) e) e
abbrev cTup (a : CA) : CE := fun ρ q e => a ρ (fun ds => q (.d (.tup ds))) e
abbrev cCB (f : List D → KD → Prop) (a : CA) : CE := fun ρ q e => a ρ (fun ds => f ds fun z => q (.d z)) e
def onB (d : U) (A B : Prop) : Prop := match d with
  | .d (.bl c) => br c A B
  | _ => False
abbrev cBoo (a : CE) : CT := fun ρ A B e => a ρ (fun x => onB x A B) e
abbrev cOr (a b : CT) : CT := fun ρ A B e => a ρ A (b ρ A B e) e
abbrev cDef (sp : SpD) (a : CA) : CE := fun ρ q e => a ρ (fun ds => sp ds (fun z => q (.d z)) e) e
/-- a field of an object -/
def lookU (f : Str) : List Str → List U → Option U
  | k :: ks, d :: ds => if (f == k) = true then some d else lookU f ks ds
  | _, _ => none
def fldD (C : Addr) (f : Str) (x : U) (q : KU) : Prop := match x with
  | .d (.obj C' ks ds) => C' = C ∧ (match Dt.lookD f ks ds with
    | some d => q (.d d)
    | none => False)
  | .obj C' ks us => C' = C ∧ (match lookU f ks us with
    | some u => q u
    | none => False)
  | _ => False
abbrev cFld (C : Addr) (f : Str) (a : CE) : CE := fun ρ q e => a ρ (fun x => fldD C f x q) e
theorem onB_of {W : Wd} {H : Hp} {v : V} {u : U} {fp : List Addr} {A B : Prop} (h : RU W H v u fp) (o : onB u A B) : ∃ c, v = .bl c ∧ br c A B := by
  cases u with
  | d x =>
    cases x with
    | bl c => cases h with | d h => cases h; exact ⟨c, rfl, o⟩
    | _ => exact o.elim
  | _ => exact o.elim
theorem look_zipU {W : Wd} {H : Hp} {f : Str} : ∀ {ks : List Str} {vs : List V} {us : List U} {fp : List Addr} {u : U}, ks.length = vs.length → RUs W H vs us fp → lookU f ks us = some u → ∃ v fq, (ks.zip vs).lookup f = some v ∧ RU W H v u fq
  | [], _, _, _, _, _, _, h => by
    unfold lookU at h
    cases h
  | k :: ks, [], _, _, _, l, _, _ => by cases l
  | k :: ks, v :: vs, _, _, d, l, .cons h t, e => by
    unfold lookU at e
    rw [List.zip_cons_cons, List.lookup_cons]
    by_cases z : (f == k) = true
    · rw [if_pos z] at e
      cases e
      rw [z]
      exact ⟨v, _, rfl, h⟩
    · rw [if_neg z] at e
      have z2 : (f == k) = false := by simpa using z
      rw [z2]
      exact look_zipU (by simpa using l) t e
section
variable {E : XK} {ta tb tc te : TE} {ma mb mc me : CE} {tt tu : TT} {mt mu : CT} {aa ab : TA} {na nb : CA} {r r' : R2} {f f' : D → D → KD → Prop} {K : PySem.W.Frag} {n n' : Nat}
theorem e_var {i : Nat} : SE E (tVar i) (cVar i) := fun W Z H σ ρ Q q e R h k _ => by
  have h : (match ρ[i]? with | some (some u) => q u | _ => False) := h
  split at h
  · rename_i u e1
    obtain ⟨fp, h1, _⟩ := R.ex
    obtain ⟨v, e2, hv⟩ := h1 i u e1
    exact ⟨v, e2, k W v u _ H (.refl R.ok) hv h⟩
  · exact h.elim
theorem e_int {i : Int} : SE E (tC (.int i)) (cC (.int i)) := fun W Z H σ ρ Q q e R h k _ => k.d W _ _ H (.refl R.ok) (.int i) h
theorem e_bl {b : Bool} : SE E (tC (.bl b)) (cC (.bl b)) := fun W Z H σ ρ Q q e R h k _ => k.d W _ _ H (.refl R.ok) (.bl b) h
theorem e_op (ha : SE E ta ma) (hb : SE E tb mb) (hr : SimR r f) : SE E (tOp r ta tb) (cOp f ma mb) := fun W Z H σ ρ Q q e R h k kx =>
  ha W Z H σ ρ _ _ e R h (fun W1 x ux fx H1 g1 rx h1 => by
    obtain ⟨dx, rfl, hx, h1⟩ := onD_of rx h1
    refine hb W1 Z H1 σ ρ _ _ e (R.pure g1) h1 (fun W2 y uy fy H2 g2 ry h2 => ?_) (kx.go R.ok g1)
    obtain ⟨dy, rfl, hy, h2⟩ := onD_of ry h2
    exact hr W2 H2 x y dx dy Q _ g2.ok (hx.mono g2.le) hy h2 (k.go R.ok (g1.trans R.ok g2)).d) kx
theorem e_nil : SA E 0 tNil cNil := fun W Z H σ ρ Q q e R h k _ => k W _ _ H (.refl R.ok) .nil rfl h
theorem e_cons (ha : SE E ta ma) (hr : SA E n aa na) : SA E (n + 1) (tCons ta aa) (cCons ma na) := fun W Z H σ ρ Q q e R h k kx =>
  ha W Z H σ ρ _ _ e R h (fun W1 x ux fx H1 g1 rx h1 => by
    obtain ⟨dx, rfl, hx, h1⟩ := onD_of rx h1
    exact hr W1 Z H1 σ ρ _ _ e (R.pure g1) h1 (fun W2 xs ds H2 g2 hy hl h2 => k W2 _ _ H2 (g1.trans R.ok g2) (.cons (hx.mono g2.le) hy) (by rw [List.length_cons, hl]) h2) (kx.go R.ok g1)) kx
theorem e_tup (ha : SA E n aa na) (hn : n ≤ 1000 := by decide) : SE E (tTup aa) (cTup na) := fun W Z H σ ρ Q q e R h k kx =>
  ha W Z H σ ρ _ _ e R h (fun W1 xs ds H1 g1 hx hl1 h1 => ⟨by rw [hx.length, hl1]; exact Nat.le_trans hn (by decide), fun p hp => k.d _ _ _ _ (g1.trans R.ok (.put g1.ok hp)) (.tup (upd_same (H := W1.F)) (hx.mono (Go.put g1.ok hp).le)) h1⟩) kx
theorem e_cb {r : List V → Hp → VK → Prop} {f : List D → KD → Prop} (ha : SA E n aa na) (hr : SimC r f) : SE E (tCB r aa) (cCB f na) := fun W Z H σ ρ Q q e R h k kx =>
  ha W Z H σ ρ _ _ e R h (fun W1 xs ds H1 g1 hx hl1 h1 => hr W1 H1 xs ds Q _ g1.ok hx h1 (k.go R.ok g1).d) kx
theorem e_test (ha : SE E ta ma) : ST E (tTest ta) (cBoo ma) := fun W Z H σ ρ Q A B e R h k1 k2 kx =>
  ha W Z H σ ρ _ _ e R h (fun W1 x ux fx H1 g1 hx h1 => by
    obtain ⟨c, e1, h1⟩ := onB_of hx h1
    refine ⟨c, e1, ?_⟩
    cases c
    · exact k2 W1 H1 g1 h1
    · exact k1 W1 H1 g1 h1) kx
theorem e_or (ha : ST E tt mt) (hb : ST E tu mu) : ST E (tOr tt tu) (cOr mt mu) := fun W Z H σ ρ Q A B e R h k1 k2 kx =>
  ha W Z H σ ρ _ _ _ e R h (fun W1 H1 g1 h1 => (k1 W1 H1 g1 h1 : Q true H1)) (fun W1 H1 g1 h1 => (hb W1 Z H1 σ ρ _ _ _ e (R.pure g1) h1 (fun W2 H2 g2 => k1 W2 H2 (g1.trans R.ok g2)) (fun W2 H2 g2 => k2 W2 H2 (g1.trans R.ok g2)) (kx.go R.ok g1) : tu σ H1 Q)) kx
theorem e_def {sp : SpD} (ha : SA E n aa na) : SE E (tDef (spOf sp) E aa) (cDef sp na) := fun W Z H σ ρ Q q e R h k kx =>
  ha W Z H σ ρ _ _ e R h (fun W1 xs ds H1 g1 hx hl1 h1 => ⟨W1, ds, _, e, g1.ok, hx, h1, (k.go R.ok g1).d, kx.go R.ok g1⟩) kx
theorem e_fld {C : Addr} {x : Str} (cl : Cls K C) (na : NoAttr K C x) (ha : SE E ta ma) : SE E (tFld K ta x) (cFld C x ma) := fun W Z H σ ρ Q q e R h k kx =>
  ha W Z H σ ρ _ _ e R h (fun W1 v ux fx H1 g1 hx h1 => by
    cases ux with
    | d dx =>
      cases dx with
      | obj C' ks ds =>
        obtain ⟨rfl, h1⟩ := h1
        cases e2 : Dt.lookD x ks ds with
        | none => rw [e2] at h1; exact h1.elim
        | some d =>
          rw [e2] at h1
          cases hx with
          | d hx =>
            obtain ⟨a, dx, vs, e3, e4, l, t⟩ := Dt.obj_of g1.ok hx rfl
            obtain ⟨u, e5, hu⟩ := Dt.look_zip l t e2
            exact ⟨a, C', dx, _, u, e3, e4, cl, na, e5, k.d W1 u d H1 g1 hu h1⟩
      | _ => exact h1.elim
    | obj C' ks us =>
      obtain ⟨rfl, h1⟩ := h1
      cases e2 : lookU x ks us with
      | none => rw [e2] at h1; exact h1.elim
      | some d =>
        rw [e2] at h1
        cases hx with
        | obj e4 l t _ _ =>
          obtain ⟨u, fq, e5, hu⟩ := look_zipU l t e2
          exact ⟨_, C', _, _, u, rfl, e4, cl, na, e5, k W1 u d fq H1 g1 hu h1⟩
    | _ => exact h1.elim) kx
end
end Et
set_option Elab.async false
set_option linter.all false
set_option maxRecDepth 100000
set_option maxHeartbeats 4000000
namespace Et
open PySem PySem.Spec PyProof.Rows L2 Com Nd
open Dt (D Wd Vd VdA Le Ok Go Kv Ka Kb Kx KD XD SpD spOf SimR SimC SimSl SimE SimT SimA SimO SimI SimN En toPy toPyA dOf dOfA nkK fEq fIn rIxU ixU rNotInU op_notInU)
variable [Dt.Tb]
mutual
/-- data as a key -/
def nkOf : D → Option NestedKey
  | .non => some .none
  | .int i => some (.num i)
  | .str s => some (.text s)
  | .tup ds => match nkOfA ds with
    | some ks => some (.tup ks)
    | none => none
  | .vry _ d => nkOf d
  | _ => none
def nkOfA : List D → Option (List NestedKey)
  | [] => some []
  | d :: ds => match nkOf d with
    | some k => match nkOfA ds with
      | some ks => some (k :: ks)
      | none => none
    | none => none
end
mutual
theorem nk_is {W : Wd} {H : Hp} (k0 : Ok W H) : ∀ {v : V} {d : D} {k : NestedKey}, Vd W v d → nkOf d = some k → NIs H k v
  | _, _, _, .non, e => by rw [nkOf] at e; cases e; exact .none
  | _, _, _, .bl _, e => by rw [nkOf] at e; cases e; all_goals (intros; rename_i z; cases z)
  | _, _, _, .int i, e => by rw [nkOf] at e; cases e; exact .num i
  | _, _, _, .str s, e => by rw [nkOf] at e; cases e; exact .text s
  | _, _, _, .tup (ds := ds) h t, e => by
    rw [nkOf] at e
    cases q : nkOfA ds with
    | none => rw [q] at e; cases e
    | some ks => rw [q] at e; cases e; exact .tup (k0.f _ _ h) (nk_isA k0 t q)
  | _, _, _, .lst _ _, e => by rw [nkOf] at e; cases e; all_goals (intros; rename_i z; cases z)
  | _, _, _, .obj _ _ _, e => by rw [nkOf] at e; cases e; all_goals (intros; rename_i z; cases z)
  | _, _, _, .flow _ _, e => by rw [nkOf] at e; cases e; all_goals (intros; rename_i z; cases z)
  | _, _, _, .scr _, e => by rw [nkOf] at e; cases e; all_goals (intros; rename_i z; cases z)
  | _, _, _, .dict0 _, e => by rw [nkOf] at e; cases e; all_goals (intros; rename_i z; cases z)
  | _, _, _, .dctN _ _ _ _, e => by rw [nkOf] at e; cases e; all_goals (intros; rename_i z; cases z)
  | _, _, _, .dctK _ _ _, e => by rw [nkOf] at e; cases e; all_goals (intros; rename_i z; cases z)
  | _, _, _, .vry h, e => by rw [nkOf] at e; exact nk_is k0 h e
theorem nk_isA {W : Wd} {H : Hp} (k0 : Ok W H) : ∀ {vs : List V} {ds : List D} {ks : List NestedKey}, VdA W vs ds → nkOfA ds = some ks → NIsA H ks vs
  | _, _, _, .nil, e => by rw [nkOfA] at e; cases e; exact .nil
  | _, _, _, .cons (d := d) (ds := ds) h t, e => by
    rw [nkOfA] at e
    cases q : nkOf d with
    | none => rw [q] at e; cases e
    | some k =>
      cases q2 : nkOfA ds with
      | none => rw [q, q2] at e; cases e
      | some ks => rw [q, q2] at e; cases e; exact .cons (nk_is k0 h q) (nk_isA k0 t q2)
end
mutual
theorem dof_is {W : Wd} {H : Hp} (k0 : Ok W H) : ∀ {k : NestedKey} {v : V}, Vd W v (dOf k) → NIs H k v
  | .none, _, h => by rw [dOf] at h; cases h; exact .none
  | .num i, _, h => by rw [dOf] at h; cases h; exact .num i
  | .text s, _, h => by rw [dOf] at h; cases h; exact .text s
  | .tup ks, _, h => by
    rw [dOf] at h
    cases h with
    | tup h t => exact .tup (k0.f _ _ h) (dof_isA k0 t)
theorem dof_isA {W : Wd} {H : Hp} (k0 : Ok W H) : ∀ {ks : List NestedKey} {vs : List V}, VdA W vs (dOfA ks) → NIsA H ks vs
  | [], _, h => by rw [dOfA] at h; cases h; exact .nil
  | k :: ks, _, h => by
    rw [dOfA] at h
    cases h with
    | cons h t => exact .cons (dof_is k0 h) (dof_isA k0 t)
end
theorem all_keys {W : Wd} {H : Hp} (k0 : Ok W H) : ∀ {xs : List NX}, VdA W (xs.map fun x => .ref x.2.1) (dOfA (xs.map (·.1))) → AllK H xs
  | [], _ => fun _ h => nomatch h
  | x :: xs, h => by
    rw [List.map_cons, List.map_cons, dOfA] at h
    cases h with
    | cons h t =>
      intro y hy
      rcases List.mem_cons.mp hy with rfl | hy
      · exact dof_is k0 h
      · exact all_keys k0 t y hy
theorem all_keys2 {W : Wd} {H : Hp} (k0 : Ok W H) {xs : List NX} {ks : List NestedKey} (h : VdA W (xs.map fun x => .ref x.2.1) (dOfA ks)) (e : xs.map (·.1) = ks) : AllK H xs := by subst e; exact all_keys k0 h
def lookK {α : Type} : List NestedKey → List α → NestedKey → Option α
  | k :: ks, d :: ds, j => if k = j then some d else lookK ks ds j
  | _, _, _ => none
theorem look_lkN {W : Wd} {j : NestedKey} {d : D} : ∀ {xs : List NX} {ds : List D}, VdA W (xs.map (·.2.2)) ds → lookK (xs.map (·.1)) ds j = some d → ∃ v, lkN xs j = some v ∧ Vd W v d
  | [], _, h, e => by cases h; cases e
  | x :: xs, _, .cons h t, e => by
    rw [List.map_cons] at e
    unfold lookK at e
    unfold lkN
    rw [List.find?_cons]
    by_cases c : x.1 = j
    · rw [if_pos c] at e; cases e
      rw [decide_eq_true c]
      exact ⟨_, rfl, h⟩
    · rw [if_neg c] at e
      rw [decide_eq_false c]
      exact look_lkN t e
theorem look_mem {α : Type} {j : NestedKey} {d : α} : ∀ {ks : List NestedKey} {ds : List α}, lookK ks ds j = some d → j ∈ ks
  | k :: ks, d' :: ds, h => by
    unfold lookK at h
    by_cases c : k = j
    · exact List.mem_cons.mpr (.inl c.symm)
    · rw [if_neg c] at h; exact List.mem_cons_of_mem _ (look_mem h)
  | [], _, h => by cases h
  | _ :: _, [], h => by cases h
theorem look_isSome {α : Type} {j : NestedKey} : ∀ {ks : List NestedKey} {ds : List α}, ks.length = ds.length → (lookK ks ds j).isSome = decide (j ∈ ks)
  | [], [], _ => rfl
  | k :: ks, d :: ds, h => by
    unfold lookK
    by_cases c : k = j
    · rw [if_pos c]; subst c; simp
    · rw [if_neg c, look_isSome (by simpa using h)]
      have : ¬ j = k := fun z => c z.symm
      simp [this]
theorem lkN_isSome {j : NestedKey} (xs : List NX) : (lkN xs j).isSome = decide (j ∈ xs.map (·.1)) := by
  have : lkN xs j = lookK (xs.map (·.1)) (xs.map (·.2.2)) j := by
    induction xs with
    | nil => rfl
    | cons x xs ih =>
      unfold lkN
      rw [List.map_cons, List.map_cons, lookK, List.find?_cons]
      by_cases c : x.1 = j
      · rw [decide_eq_true c, if_pos c]; rfl
      · rw [decide_eq_false c, if_neg c, ← ih]; rfl
  rw [this, look_isSome (by simp)]
/-- keys that are ints or texts -/
theorem nkK_of {W : Wd} {v : V} : ∀ {d : D} {k : Key}, Vd W v d → nkOf d = some (nkK k) → v = kV k
  | .non, k, h, e => by rw [nkOf] at e; cases k <;> cases e
  | .int i, k, h, e => by
    rw [nkOf] at e
    cases k with
    | inl j => cases e; cases h; rfl
    | inr j => cases e
  | .str i, k, h, e => by
    rw [nkOf] at e
    cases k with
    | inl j => cases e
    | inr j => cases e; cases h; rfl
  | .tup ds, k, h, e => by
    rw [nkOf] at e
    cases q : nkOfA ds with
    | none => rw [q] at e; cases e
    | some ks => rw [q] at e; cases k <;> cases e
  | .vry _ d, k, h, e => by
    rw [nkOf] at e
    cases h with
    | vry h => exact nkK_of h e
  | .bl _, k, h, e => by rw [nkOf] at e; cases e; all_goals (intros; rename_i z; cases z)
  | .lst _, k, h, e => by rw [nkOf] at e; cases e; all_goals (intros; rename_i z; cases z)
  | .obj _ _ _, k, h, e => by rw [nkOf] at e; cases e; all_goals (intros; rename_i z; cases z)
  | .flow _, k, h, e => by rw [nkOf] at e; cases e; all_goals (intros; rename_i z; cases z)
  | .scr _ _, k, h, e => by rw [nkOf] at e; cases e; all_goals (intros; rename_i z; cases z)
  | .dict0, k, h, e => by rw [nkOf] at e; cases e; all_goals (intros; rename_i z; cases z)
  | .dct _ _ _ _, k, h, e => by rw [nkOf] at e; cases e; all_goals (intros; rename_i z; cases z)
theorem nkK_inj {a b : Key} (e : nkK a = nkK b) : a = b := by
  cases a <;> cases b <;> cases e <;> rfl
theorem look_valV {W : Wd} {k : Key} {d : D} : ∀ {xs : List (Key × V)} {ds : List D}, VdA W (xs.map (·.2)) ds → lookK (xs.map fun x => nkK x.1) ds (nkK k) = some d → ∃ v, valV xs k = some v ∧ Vd W v d
  | [], _, h, e => by cases h; cases e
  | x :: xs, _, .cons h t, e => by
    rw [List.map_cons] at e
    unfold lookK at e
    by_cases c : x.1 = k
    · rw [if_pos (by rw [c])] at e; cases e
      rw [valV_pos c]
      exact ⟨_, rfl, h⟩
    · rw [if_neg (fun z => c (nkK_inj z))] at e
      rw [valV_neg c]
      exact look_valV t e
theorem valV_isSome {k : Key} : ∀ xs : List (Key × V), (valV xs k).isSome = decide (nkK k ∈ xs.map fun x => nkK x.1)
  | [] => rfl
  | x :: xs => by
    by_cases c : x.1 = k
    · rw [valV_pos c]; simp [c]
    · rw [valV_neg c, valV_isSome xs]
      have : ¬ nkK k = nkK x.1 := fun z => c (nkK_inj z).symm
      simp [this]
def fIxU (w : World) (x y : D) (q : KD) : Prop := match x with
  | .tup ds | .lst ds => (match y with
    | .int i => (match atI ds i with
      | some d => q d
      | none => False)
    | _ => False)
  | .dct w' _ ks ds => w' = w ∧ (match nkOf y with
    | some k => (match lookK ks ds k with
      | some d => q d
      | none => False)
    | none => False)
  | _ => False
def rIxA (K : PySem.W.Frag) (w : World) : R2 := fun x y H Q => rIxU K x y H Q ∨ rNIx w x y H Q ∨ rKIx x y H Q
theorem ixA {X : Cx} (K : PySem.W.Frag) (hu : room X) (hK : X.K = K := by rfl) : IxR X (rIxA K X.w) := by
  intro value slice pins s σ H x y v u Q I rx ry h he
  rcases h with h | h | h
  · exact ixU K hK value slice pins s σ H x y v u Q I rx ry h he
  · exact ix_n hu value slice pins s σ H x y v u Q I rx ry h he
  · exact ix_k (by unfold room at hu; omega) value slice pins s σ H x y v u Q I rx ry h he
theorem look_key {W : Wd} {xs : List (Key × V)} {ds : List D} {j : NestedKey} {d : D} (t : VdA W (xs.map (·.2)) ds) (e : lookK (xs.map fun x => nkK x.1) ds j = some d) : ∃ k, j = nkK k := by
  induction xs generalizing ds with
  | nil => cases t; cases e
  | cons x xs ih =>
    cases t with
    | cons h t =>
      rw [List.map_cons] at e
      unfold lookK at e
      by_cases c : nkK x.1 = j
      · exact ⟨x.1, c.symm⟩
      · rw [if_neg c] at e
        exact ih t e
theorem r_ixU {K : PySem.W.Frag} {w : World} : SimR (rIxA K w) (fIxU w) := fun W H x y dx dy Q q k hx hy h hk => by
  cases hx with
  | tup a t =>
    unfold fIxU at h
    cases dy with
    | int i =>
      dsimp only at h
      cases e : atI _ i with
      | none => rw [e] at h; exact h.elim
      | some d => rw [e] at h; exact .inl (Dt.sr_ix W H _ _ _ _ Q q k (.tup a t) hy ⟨_, _, _, .inl rfl, rfl, e, h⟩ hk)
    | _ => exact h.elim
  | lst a t =>
    unfold fIxU at h
    cases dy with
    | int i =>
      dsimp only at h
      cases e : atI _ i with
      | none => rw [e] at h; exact h.elim
      | some d => rw [e] at h; exact .inl (Dt.sr_ix W H _ _ _ _ Q q k (.lst a t) hy ⟨_, _, _, .inr rfl, rfl, e, h⟩ hk)
    | _ => exact h.elim
  | dctN a e1 t1 t2 =>
    unfold fIxU at h
    dsimp only at h
    obtain ⟨rfl, h⟩ := h
    subst e1
    cases e : nkOf dy with
    | none => rw [e] at h; exact h.elim
    | some j =>
      rw [e] at h
      dsimp only at h
      cases e2 : lookK _ _ j with
      | none => rw [e2] at h; exact h.elim
      | some d =>
        rw [e2] at h
        obtain ⟨v, l1, hv⟩ := look_lkN t2 e2
        have nj := nk_is k hy e
        have : ∃ b, y = .ref b := by
          have : ∃ b ks, j = .tup ks ∧ y = .ref b := by
            obtain ⟨x, hx, rfl⟩ := List.mem_map.mp (look_mem e2)
            have := all_keys k t1 x hx
            generalize x.1 = kk at this nj
            cases this with
            | tup h1 h2 => cases nj with | tup g1 g2 => exact ⟨_, _, rfl, rfl⟩
          obtain ⟨b, _, _, e⟩ := this
          exact ⟨b, e⟩
        obtain ⟨b, rfl⟩ := this
        exact .inr (.inl ⟨_, b, _, j, v, rfl, rfl, k.f _ _ a, all_keys k t1, nj, l1, hk W v d H (.refl k) hv h⟩)
  | dctK a e1 t =>
    unfold fIxU at h
    dsimp only at h
    obtain ⟨rfl, h⟩ := h
    subst e1
    cases e : nkOf dy with
    | none => rw [e] at h; exact h.elim
    | some j =>
      rw [e] at h
      dsimp only at h
      cases e2 : lookK _ _ j with
      | none => rw [e2] at h; exact h.elim
      | some d =>
        rw [e2] at h
        obtain ⟨kk, rfl⟩ := look_key t e2
        obtain ⟨v, l1, hv⟩ := look_valV t e2
        exact .inr (.inr ⟨_, _, kk, v, rfl, nkK_of hy e, k.f _ _ a, l1, hk W v d H (.refl k) hv h⟩)
  | vry _ => exact h.elim
  | non => exact h.elim
  | bl _ => exact h.elim
  | int _ => exact h.elim
  | str _ => exact h.elim
  | obj _ _ _ => exact h.elim
  | flow _ => exact h.elim
  | scr _ => exact h.elim
  | dict0 _ => exact h.elim
/-- how data told by f are compared -/
structure EqE {α : Type} [DecidableEq α] (k : Nat) (f : α → D) : Prop where
  ex : ∃ py : α → PyData, (∀ a, toPy (f a) = some (py a)) ∧ (∀ a, PyData.canLay0 (py a) = true ∧ PyData.depth (py a) ≤ k) ∧ ∀ a b, PyData.eqv (py a) (py b) = decide (a = b)
theorem EqE.int : EqE 0 (fun i : Int => D.int i) := ⟨PyData.int, fun _ => rfl, fun _ => ⟨rfl, Nat.le_refl _⟩, fun a b => Dt.eqv_int a b⟩
theorem toPyA_map {α : Type} {f : α → D} {py : α → PyData} (h : ∀ a, toPy (f a) = some (py a)) : ∀ L : List α, toPyA (L.map f) = some (L.map py)
  | [] => by rw [List.map_nil, toPyA]; rfl
  | a :: L => by rw [List.map_cons, toPyA, h a, toPyA_map h L]; rfl
theorem lay_map {α : Type} {py : α → PyData} {k : Nat} (h : ∀ a, PyData.canLay0 (py a) = true ∧ PyData.depth (py a) ≤ k) : ∀ L : List α, PyData.canLayAll0 (L.map py) = true ∧ PyData.depthAll (L.map py) ≤ k
  | [] => by rw [List.map_nil, PyData.canLayAll0, PyData.depthAll]; exact ⟨rfl, Nat.zero_le _⟩
  | a :: L => by
    obtain ⟨i, j⟩ := lay_map h L
    obtain ⟨p, q⟩ := h a
    rw [List.map_cons, PyData.canLayAll0, PyData.depthAll, i, p]
    exact ⟨rfl, by omega⟩
theorem eqv_map {α : Type} [DecidableEq α] {py : α → PyData} (h : ∀ a b, PyData.eqv (py a) (py b) = decide (a = b)) : ∀ L M : List α, PyData.eqvAll (L.map py) (M.map py) = decide (L = M)
  | [], [] => by rw [List.map_nil, PyData.eqvAll]; simp
  | [], b :: M => by rw [List.map_nil, List.map_cons, PyData.eqvAll]; simp
  | a :: L, [] => by rw [List.map_nil, List.map_cons, PyData.eqvAll]; simp
  | a :: L, b :: M => by
    rw [List.map_cons, List.map_cons, PyData.eqvAll, h a b, eqv_map h L M]
    by_cases c : a = b <;> by_cases c2 : L = M <;> simp [c, c2]
theorem EqE.tup {α : Type} [DecidableEq α] {k : Nat} {f : α → D} (h : EqE k f) : EqE (k + 1) (fun L : List α => D.tup (L.map f)) := by
  obtain ⟨py, h1, h2, h3⟩ := h.ex
  refine ⟨fun L => .tuple (L.map py), fun L => by rw [toPy, toPyA_map h1], fun L => ?_, fun L M => by rw [PyData.eqv, eqv_map h3]⟩
  obtain ⟨i, j⟩ := lay_map h2 L
  rw [PyData.canLay0, PyData.depth]
  exact ⟨i, by omega⟩
theorem EqE.lst {α : Type} [DecidableEq α] {k : Nat} {f : α → D} (h : EqE k f) : EqE (k + 1) (fun L : List α => D.lst (L.map f)) := by
  obtain ⟨py, h1, h2, h3⟩ := h.ex
  refine ⟨fun L => .list (L.map py), fun L => by rw [toPy, toPyA_map h1], fun L => ?_, fun L M => by rw [PyData.eqv, eqv_map h3]⟩
  obtain ⟨i, j⟩ := lay_map h2 L
  rw [PyData.canLay0, PyData.depth]
  exact ⟨i, by omega⟩
theorem EqE.pair : EqE 1 Dt.pairD := by
  refine ⟨fun p => .tuple [.int p.1, .int p.2], fun _ => rfl, fun p => ⟨rfl, Nat.le_refl _⟩, fun p q => ?_⟩
  rw [PyData.eqv, PyData.eqvAll, PyData.eqvAll, PyData.eqvAll, Dt.eqv_int, Dt.eqv_int]
  by_cases c : p.1 = q.1 <;> by_cases c2 : p.2 = q.2 <;> simp [c, c2, Prod.ext_iff]
theorem EqE.ld : EqE 2 Dt.ldD := EqE.pair.tup
theorem EqE.st : EqE 3 Dt.stD := EqE.ld.tup
section
variable {α : Type} [DecidableEq α] {k : Nat} {f : α → D} {a b : α} {q : KD} {L : List α}
theorem shaped_of {p : PyData} (h1 : PyData.canLay0 p = true) (h2 : PyData.depth p ≤ 64) : SeqAt.shaped p = true := by
  show (PyData.canLay0 p && decide (PyData.depth p ≤ 64)) = true
  rw [h1, decide_eq_true h2]
  rfl
theorem EqE.eq (h : EqE k f) (hk : k ≤ 60 := by decide) (hq : q (.bl (decide (a = b)))) : fEq false (f a) (f b) q := by
  obtain ⟨py, h1, h2, h3⟩ := h.ex
  refine ⟨py a, py b, h1 a, h1 b, shaped_of (h2 a).1 (by have := (h2 a).2; omega), shaped_of (h2 b).1 (by have := (h2 b).2; omega), ?_⟩
  rw [h3]
  exact hq
end
end Et
set_option Elab.async false
set_option linter.all false
set_option maxRecDepth 100000
set_option maxHeartbeats 4000000
namespace Et
open PySem PySem.Spec PyProof.Rows L2 Com Nd
open Dt (D Wd Vd VdA Le Ok Go Kv Ka Kb Kx KD XD SpD spOf SimR SimC SimSl SimE SimT SimA SimO SimI SimN En toPy toPyA dOf dOfA nkK fEq fIn rIxU ixU rNotInU op_notInU)
variable [Dt.Tb]
theorem RUs.get : ∀ {W : Wd} {H : Hp} {vs : List V} {us : List U} {fp : List Addr} {n : Nat} {u : U}, RUs W H vs us fp → us[n]? = some u → ∃ v fq, vs[n]? = some v ∧ RU W H v u fq := fun r e => let ⟨v, _, f2, _, e1, r1, _⟩ := r.at e; ⟨v, f2, e1, r1⟩
theorem atI_ru {W : Wd} {H : Hp} {vs : List V} {us : List U} {fp : List Addr} {i : Int} {u : U} (t : RUs W H vs us fp) (h : atI us i = some u) : ∃ v fq, atI vs i = some v ∧ RU W H v u fq := by
  unfold atI at h ⊢
  rw [t.len]
  cases e : ixN us.length i with
  | none => rw [e] at h; cases h
  | some j => rw [e] at h; exact t.get h
theorem look_lkU {W : Wd} {H : Hp} {j : NestedKey} {d : U} : ∀ {xs : List NX} {us : List U} {fp : List Addr}, RUs W H (xs.map (·.2.2)) us fp → lookK (xs.map (·.1)) us j = some d → ∃ v fq, lkN xs j = some v ∧ RU W H v d fq
  | [], _, _, h, e => by cases h; cases e
  | x :: xs, _, _, .cons h t, e => by
    rw [List.map_cons] at e
    unfold lookK at e
    unfold lkN
    rw [List.find?_cons]
    by_cases c : x.1 = j
    · rw [if_pos c] at e; cases e
      rw [decide_eq_true c]
      exact ⟨_, _, rfl, h⟩
    · rw [if_neg c] at e
      rw [decide_eq_false c]
      exact look_lkU t e
theorem look_valU {W : Wd} {H : Hp} {k : Key} {d : U} : ∀ {xs : List (Key × V)} {us : List U} {fp : List Addr}, RUs W H (xs.map (·.2)) us fp → lookK (xs.map fun x => nkK x.1) us (nkK k) = some d → ∃ v fq, valV xs k = some v ∧ RU W H v d fq
  | [], _, _, h, e => by cases h; cases e
  | x :: xs, _, _, .cons h t, e => by
    rw [List.map_cons] at e
    unfold lookK at e
    by_cases c : x.1 = k
    · rw [if_pos (by rw [c])] at e; cases e
      rw [valV_pos c]
      exact ⟨_, _, rfl, h⟩
    · rw [if_neg (fun z => c (nkK_inj z))] at e
      rw [valV_neg c]
      exact look_valU t e
theorem look_keyU {W : Wd} {H : Hp} {xs : List (Key × V)} {us : List U} {fp : List Addr} {j : NestedKey} {d : U} (t : RUs W H (xs.map (·.2)) us fp) (e : lookK (xs.map fun x => nkK x.1) us j = some d) : ∃ k, j = nkK k := by
  obtain ⟨x, _, rfl⟩ := List.mem_map.mp (look_mem e)
  exact ⟨x.1, rfl⟩
/-- a key that is a tuple stands at an address -/
theorem nis_ref {H : Hp} {j : NestedKey} {v : V} {a : Addr} (h : NIs H j v) (g : NIs H j (.ref a)) : ∃ b, v = .ref b := by
  cases g with
  | tup g1 g2 => cases h with | tup h1 h2 => exact ⟨_, rfl⟩
@[irreducible] def ixV (w : World) (x y : U) (q : KU) : Prop := match x, y with
  | .d x, .d y => fIxU w x y fun z => q (.d z)
  | .lst us, .d (.int i) => (match atI us i with
    | some u => q u
    | none => False)
  | .dct w' _ ks us, .d y => w' = w ∧ (match nkOf y with
    | some k => (match lookK ks us k with
      | some u => q u
      | none => False)
    | none => False)
  | _, _ => False
abbrev cIx (w : World) (a b : CE) : CE := fun ρ q e => a ρ (fun x => b ρ (fun y => ixV w x y q) e) e
section
variable {E : XK} {ta tb te : TE} {ma mb me : CE} {K : PySem.W.Frag} {w : World}
theorem e_ix (ha : SE E ta ma) (hb : SE E tb mb) : SE E (tOp (rIxA K w) ta tb) (cIx w ma mb) := fun W Z H σ ρ Q q e R h k kx =>
  ha W Z H σ ρ _ _ e R h (fun W1 x ux fx H1 g1 rx h1 => hb W1 Z H1 σ ρ _ _ e (R.pure g1) h1 (fun W2 y uy fy H2 g2 ry h2 => by
    have rx := rx.pure g1.ok g2
    have k2 := k.go R.ok (g1.trans R.ok g2)
    have k0 := g2.ok
    unfold ixV at h2
    split at h2
    · cases rx with
      | d hx => cases ry with | d hy => exact r_ixU W2 H2 _ _ _ _ _ _ k0 hx hy h2 k2.d
    · rename_i us i _
      cases ry with
      | d hy =>
        cases hy
        cases rx with
        | lst hh t f n =>
          cases e1 : atI us i with
          | none => rw [e1] at h2; exact h2.elim
          | some u =>
            rw [e1] at h2
            obtain ⟨v, fq, e2, r⟩ := atI_ru t e1
            exact .inl (.inl ⟨_, _, i, v, rfl, rfl, SqL.of hh, e2, k2 W2 v u fq H2 (.refl k0) r h2⟩)
    · rename_i w' nb ks us y' _
      obtain ⟨rfl, h2⟩ := h2
      cases ry with
      | d hy =>
        cases e1 : nkOf y' with
        | none => rw [e1] at h2; exact h2.elim
        | some j =>
          rw [e1] at h2
          dsimp only at h2
          cases e2 : lookK ks us j with
          | none => rw [e2] at h2; exact h2.elim
          | some u =>
            rw [e2] at h2
            cases rx with
            | dctN hh ek t1 t2 f n =>
              subst ek
              obtain ⟨v, fq, l1, r⟩ := look_lkU t2 e2
              have nj := nk_is k0 hy e1
              have ak := all_keys k0 t1
              obtain ⟨x, hx, rfl⟩ := List.mem_map.mp (look_mem e2)
              obtain ⟨b, rfl⟩ := nis_ref nj (ak x hx)
              exact .inr (.inl ⟨_, b, _, _, v, rfl, rfl, hh, ak, nj, l1, k2 W2 v u fq H2 (.refl k0) r h2⟩)
            | dctK hh ek t2 f n =>
              subst ek
              obtain ⟨kk, rfl⟩ := look_keyU t2 e2
              obtain ⟨v, fq, l1, r⟩ := look_valU t2 e2
              exact .inr (.inr ⟨_, _, kk, v, rfl, nkK_of hy e1, hh, l1, k2 W2 v u fq H2 (.refl k0) r h2⟩)
    · exact h2.elim) (kx.go R.ok g1)) kx
def rLenA (K : PySem.W.Frag) (w : World) : List V → Hp → VK → Prop := fun vs H Q => Com.rLen K vs H Q ∨ rLenN w vs H Q ∨ ∃ a kvs, vs = [V.ref a] ∧ H a = some (.dK kvs) ∧ Q (.int kvs.length) H
theorem cl_lenA {X : Cx} (K : PySem.W.Frag) (hK : X.K = K := by rfl) : CallR X (.builtin "len") (rLenA K X.w) := by
  intro pins s σ H xs us Q I r h
  rcases h with h | h | h
  · exact cl_len K hK pins s σ H xs us Q I r h
  · exact call_lenN pins s σ H xs us Q I r h
  · exact call_lenD pins s σ H xs us Q I r h
def lenU (K : PySem.W.Frag) (w : World) (x : U) (q : Int → Prop) : Prop := match x with
  | .d (.tup ds) => q (ds.length : Nat)
  | .d (.lst ds) => q (ds.length : Nat)
  | .d (.scr K' ns) => K' = K ∧ q (ns.length : Nat)
  | .d (.dct w' _ ks _) => w' = w ∧ q (ks.length : Nat)
  | .lst us => q (us.length : Nat)
  | .dct w' _ ks _ => w' = w ∧ q (ks.length : Nat)
  | _ => False
abbrev cLen (K : PySem.W.Frag) (w : World) (a : CE) : CE := fun ρ q e => a ρ (fun x => lenU K w x fun n => q (.d (.int n))) e
theorem e_len (ha : SE E ta ma) : SE E (tCB (rLenA K w) (tCons ta tNil)) (cLen K w ma) := fun W Z H σ ρ Q q e R h k kx =>
  ha W Z H σ ρ _ _ e R h (fun W1 x ux fx H1 g1 rx h1 => by
    have k1 := (k.go R.ok g1).d
    have k0 := g1.ok
    unfold lenU at h1
    split at h1
    · cases rx with
      | d hx =>
        obtain ⟨a, vs, rfl, f, hh, t⟩ := Dt.tup_of k0 hx rfl
        exact .inl ⟨a, vs, rfl, .inr (SqT.of hh), by rw [t.length]; exact k1 W1 _ _ H1 (.refl k0) (.int _) h1⟩
    · cases rx with
      | d hx =>
        obtain ⟨a, vs, rfl, f, hh, t⟩ := Dt.lst_of k0 hx rfl
        exact .inl ⟨a, vs, rfl, .inl (SqL.of hh), by rw [t.length]; exact k1 W1 _ _ H1 (.refl k0) (.int _) h1⟩
    · obtain ⟨rfl, h1⟩ := h1
      cases rx with
      | d hx =>
        cases hx with
        | scr g => exact .inl ⟨_, _, rfl, .inl (g H1 k0.f), by rw [List.length_map]; exact k1 W1 _ _ H1 (.refl k0) (.int _) h1⟩
    · obtain ⟨rfl, h1⟩ := h1
      cases rx with
      | d hx =>
        cases hx with
        | dctN f ek t1 t2 => exact .inr (.inl ⟨_, _, rfl, k0.f _ _ f, all_keys2 k0 t1 ek, by rw [← ek, List.length_map] at h1; exact k1 W1 _ _ H1 (.refl k0) (.int _) h1⟩)
        | dctK f ek t => exact .inr (.inr ⟨_, _, rfl, k0.f _ _ f, by rw [← ek, List.length_map] at h1; exact k1 W1 _ _ H1 (.refl k0) (.int _) h1⟩)
    · cases rx with
      | lst hh t f n => exact .inl ⟨_, _, rfl, .inl (SqL.of hh), by rw [t.len]; exact k1 W1 _ _ H1 (.refl k0) (.int _) h1⟩
    · obtain ⟨rfl, h1⟩ := h1
      cases rx with
      | dctN hh ek t1 t2 f n => exact .inr (.inl ⟨_, _, rfl, hh, all_keys2 k0 t1 ek, by rw [← ek, List.length_map] at h1; exact k1 W1 _ _ H1 (.refl k0) (.int _) h1⟩)
      | dctK hh ek t f n => exact .inr (.inr ⟨_, _, rfl, hh, by rw [← ek, List.length_map] at h1; exact k1 W1 _ _ H1 (.refl k0) (.int _) h1⟩)
    · exact h1.elim) kx
end
theorem dp_own {W : Wd} {H : Hp} {K : PySem.W.Frag} (k0 : Ok W H) {v : V} {ds : List D} {fp : List Addr} {p : PyData} (r : RU W H v (.lst (ds.map .d)) fp) (e : toPy (.lst ds) = some p) : Dp K H v p := by
  cases r with
  | lst hh t f n =>
    obtain ⟨t, _⟩ := RUs.d_of t
    rw [toPy] at e
    cases q : toPyA ds with
    | none => rw [q] at e; cases e
    | some ps =>
      rw [q] at e
      cases e
      exact .lst (SqL.of hh) (Dt.dpA_of k0 t q)
/-- x in y -/
def inU (w : World) (neg : Bool) (x y : U) (q : D → Prop) : Prop := match x, y with
  | .d x, .d (.dct w' nb ks _) => w' = w ∧ keyIn neg nb x ks q
  | .d x, .dct w' nb ks _ => w' = w ∧ keyIn neg nb x ks q
  | .d x, .d y => fIn neg x y q
  | .d x, .lst us => ∃ ds : List D, us = ds.map .d ∧ fIn neg x (.lst ds) q
  | _, _ => False
where keyIn (neg nb : Bool) (x : D) (ks : List NestedKey) (q : D → Prop) : Prop := match nb, nkOf x with
  | true, some (.tup t) => (NestedKey.tup t).depth ≤ 8 ∧ q (.bl (if neg then !decide (NestedKey.tup t ∈ ks) else decide (NestedKey.tup t ∈ ks)))
  | false, some (.num i) => q (.bl (if neg then !decide (NestedKey.num i ∈ ks) else decide (NestedKey.num i ∈ ks)))
  | false, some (.text i) => q (.bl (if neg then !decide (NestedKey.text i ∈ ks) else decide (NestedKey.text i ∈ ks)))
  | _, _ => False
def rNotInA (K : PySem.W.Frag) (w : World) : R2 := fun x y H Q => rNotInU K x y H Q ∨ rNIn w true x y H Q ∨ rKIn true x y H Q
theorem op_notInA {X : Cx} (K : PySem.W.Frag) (hu : room X) (hu5 : X.A.units + 65 < cLine) (hK : X.K = K := by rfl) : OpR X (compareOp .NotIn) (rNotInA K X.w) := by
  intro pins s σ H x y v u Q I rx ry h
  rcases h with h | h | h
  · exact op_notInU K hu5 hK pins s σ H x y v u Q I rx ry h
  · exact op_nnotin hu pins s σ H x y v u Q I rx ry h
  · exact op_knotin (by unfold room at hu; omega) pins s σ H x y v u Q I rx ry h
abbrev cIn (w : World) (neg : Bool) (a b : CE) : CE := fun ρ q e => a ρ (fun x => b ρ (fun y => inU w neg x y fun z => q (.d z)) e) e
section
variable {E : XK} {ta tb te : TE} {ma mb me : CE} {K : PySem.W.Frag} {w : World}
/-- the look into a dict -/
theorem key_run {W : Wd} {H : Hp} (k0 : Ok W H) {neg nb : Bool} {x y : V} {dx : D} {ks : List NestedKey} {q : D → Prop} (hx : Vd W x dx) (h : inU.keyIn neg nb dx ks q)
    (hy : (∃ a xs, nb = true ∧ y = .ref a ∧ H a = some (DN w a xs) ∧ AllK H xs ∧ xs.map (·.1) = ks) ∨ ∃ a, ∃ xs : List (Key × V), nb = false ∧ y = .ref a ∧ H a = some (.dK xs) ∧ xs.map (fun x => nkK x.1) = ks) {Q : VK} (k : ∀ b, q (.bl b) → Q (.bl b) H) : rNIn w neg x y H Q ∨ rKIn neg x y H Q := by
  unfold inU.keyIn at h
  split at h
  · rename_i t e
    rcases hy with ⟨a, xs, e1, rfl, ha, hk, ek⟩ | ⟨a, xs, e1, _⟩
    · have nj := nk_is k0 hx e
      have : ∃ b, x = .ref b := by cases nj with | tup g1 g2 => exact ⟨_, rfl⟩
      obtain ⟨b, rfl⟩ := this
      refine .inl ⟨a, b, xs, _, rfl, rfl, ha, hk, ⟨nj, h.1⟩, ?_⟩
      rw [lkN_isSome, ek]
      exact k _ h.2
    · cases e1
  · rename_i i e
    rcases hy with ⟨a, xs, e1, _⟩ | ⟨a, xs, e1, rfl, ha, ek⟩
    · cases e1
    · refine .inr ⟨a, xs, .inl i, rfl, nkK_of (k := .inl i) hx e, ha, ?_⟩
      rw [valV_isSome, ek]
      exact k _ h
  · rename_i i e
    rcases hy with ⟨a, xs, e1, _⟩ | ⟨a, xs, e1, rfl, ha, ek⟩
    · cases e1
    · refine .inr ⟨a, xs, .inr i, rfl, nkK_of (k := .inr i) hx e, ha, ?_⟩
      rw [valV_isSome, ek]
      exact k _ h
  · exact h.elim
theorem in_run {W : Wd} {H : Hp} (k0 : Ok W H) {neg : Bool} {x y : V} {ux uy : U} {fx fy : List Addr} {q : D → Prop} (rx : RU W H x ux fx) (ry : RU W H y uy fy) (h : inU w neg ux uy q) {Q : VK} (k : ∀ b, q (.bl b) → Q (.bl b) H) :
    (∃ d ds, Dp K H x d ∧ (Dp K H y (.tuple ds) ∨ Dp K H y (.list ds)) ∧ SeqAt.shaped d = true ∧ SeqAt.shaped (.list ds) = true ∧ Q (.bl (if neg then !ds.any (fun z => PyData.eqv z d) else ds.any fun z => PyData.eqv z d)) H) ∨ rNIn w neg x y H Q ∨ rKIn neg x y H Q := by
  unfold inU at h
  split at h
  · obtain ⟨rfl, h⟩ := h
    cases rx with
    | d hx =>
      cases ry with
      | d hy =>
        refine .inr (key_run k0 hx h ?_ k)
        cases hy with
        | dctN f ek t1 t2 => exact .inl ⟨_, _, rfl, rfl, k0.f _ _ f, all_keys2 k0 t1 ek, ek⟩
        | dctK f ek t => exact .inr ⟨_, _, rfl, rfl, k0.f _ _ f, ek⟩
  · obtain ⟨rfl, h⟩ := h
    cases rx with
    | d hx =>
      refine .inr (key_run k0 hx h ?_ k)
      cases ry with
      | dctN hh ek t1 t2 f n => exact .inl ⟨_, _, rfl, rfl, hh, all_keys2 k0 t1 ek, ek⟩
      | dctK hh ek t f n => exact .inr ⟨_, _, rfl, rfl, hh, ek⟩
  · obtain ⟨p, ds, ps, e1, e2, e3, s1, s2, h⟩ := h
    cases rx with
    | d hx =>
      cases ry with
      | d hy =>
        refine .inl ⟨p, ps, Dt.dp_of k0 hx e1, ?_, s1, s2, k _ h⟩
        rcases e2 with rfl | rfl
        · exact .inl (Dt.dp_of k0 hy (by rw [toPy, e3]))
        · exact .inr (Dt.dp_of k0 hy (by rw [toPy, e3]))
  · obtain ⟨es, rfl, p, ds, ps, e1, e2, e3, s1, s2, h⟩ := h
    cases rx with
    | d hx =>
      rcases e2 with e2 | e2
      · cases e2
      · cases e2
        exact .inl ⟨p, ps, Dt.dp_of k0 hx e1, .inr (dp_own k0 ry (by rw [toPy, e3])), s1, s2, k _ h⟩
  · exact h.elim
theorem e_notin (ha : SE E ta ma) (hb : SE E tb mb) : SE E (tOp (rNotInA K w) ta tb) (cIn w true ma mb) := fun W Z H σ ρ Q q e R h k kx =>
  ha W Z H σ ρ _ _ e R h (fun W1 x ux fx H1 g1 rx h1 => hb W1 Z H1 σ ρ _ _ e (R.pure g1) h1 (fun W2 y uy fy H2 g2 ry h2 => by
    rcases in_run (K := K) g2.ok (rx.pure g1.ok g2) ry h2 (Q := Q) (fun b hb => (k.go R.ok (g1.trans R.ok g2)).d W2 _ _ H2 (.refl g2.ok) (.bl b) hb) with ⟨d, ds, a, b | b, c⟩ | h
    · exact .inl (.inl ⟨d, ds, a, b, c⟩)
    · exact .inl (.inr ⟨d, ds, a, b, c⟩)
    · exact .inr h) (kx.go R.ok g1)) kx
end
end Et
set_option Elab.async false
set_option linter.all false
set_option maxRecDepth 100000
set_option maxHeartbeats 4000000
namespace Et
open PySem PySem.Spec PyProof.Rows L2 Com Nd
open Dt (D Wd Vd VdA Le Ok Go Kv Ka Kb Kx KD XD SpD spOf SimR SimC SimSl SimE SimT SimA SimO SimI SimN SimIp ItD En toPy toPyA dOf dOfA nkK fEq fIn)
variable [Dt.Tb]
abbrev XU := Addr → Str → D → Ev → Prop
structure EndsU where
  nx : Ev → Prop
  rt : U → Ev → Prop
  bk : Ev → Prop
  ct : Ev → Prop
abbrev CS := EndsU → Ev → XU → Prop
abbrev CG := D → Ev → (Ev → Prop) → Prop
abbrev CGs := List D → Ev → (Ev → Prop) → Prop
abbrev CI := Ev → (List D → Prop) → XD → Prop
def KxS (i : In0) (W : Wd) (E : XK) (e : XU) : Prop := ∀ W' H' σ' ρ' C dx f v d, Le W W' → At i W' H' σ' ρ' → H' dx = some (.xd [(f, v)]) → Vd W' v d → e C f d ρ' → E (.ref C) (some dx) H'
structure CtU (i : In0) (W : Wd) (D : Ends) (d : EndsU) : Prop where
  nx : ∀ W' H' σ' ρ', Le W W' → At i W' H' σ' ρ' → d.nx ρ' → D.nx σ' H'
  rt : ∀ W' H' σ' ρ' v u, Le W W' → New i W' H' σ' ρ' v u → d.rt u ρ' → D.rt v H'
  bk : ∀ W' H' σ' ρ', Le W W' → At i W' H' σ' ρ' → d.bk ρ' → D.bk σ' H'
  ct : ∀ W' H' σ' ρ', Le W W' → At i W' H' σ' ρ' → d.ct ρ' → D.ct σ' H'
def SS (ws : List Nat) (E : XK) (ts : TS) (m : CS) : Prop := ∀ i W H σ ρ D d e, i.ws = ws → At i W H σ ρ → m d ρ e → CtU i W D d → KxS i W E e → ts D σ H
def Unc (is : List Nat) (σ σ' : L2.St) : Prop := ∀ k : Nat, k ∉ is → σ'[k]? = σ[k]?
def SG (g : TG) (m : CG) (is : List Nat) : Prop := ∀ W Z H v d σ ρ (Q : L2.St → Hp → Prop) (q : Ev → Prop), Rep W Z H σ ρ → Vd W v d → m d ρ q → (∀ σ' ρ', Rep W Z H σ' ρ' → (∀ vs : List Nat, (∀ k ∈ is, k ∈ vs) → wipe σ' vs = wipe σ vs) → Unc is σ σ' → q ρ' → Q σ' H) → g v σ H Q
def SI (E : XK) (ti : TI) (m : CI) : Prop := ∀ W Z H σ ρ R q e, Rep W Z H σ ρ → m ρ q e → (∀ W' J xs H', Go W H W' H' → ItD W' J xs → q xs → R J H') → Kx W H E e → ti σ H R
theorem CtU.up {i : In0} {W W1 : Wd} {D : Ends} {d : EndsU} (h : CtU i W D d) (l : Le W W1) : CtU i W1 D d := ⟨fun W' H' σ' ρ' l1 => h.nx W' H' σ' ρ' (l.trans l1), fun W' H' σ' ρ' v u l1 => h.rt W' H' σ' ρ' v u (l.trans l1), fun W' H' σ' ρ' l1 => h.bk W' H' σ' ρ' (l.trans l1), fun W' H' σ' ρ' l1 => h.ct W' H' σ' ρ' (l.trans l1)⟩
theorem KxS.up {i : In0} {W W1 : Wd} {E : XK} {e : XU} (h : KxS i W E e) (l : Le W W1) : KxS i W1 E e := fun W' H' σ' ρ' C dx f v d l1 => h W' H' σ' ρ' C dx f v d (l.trans l1)
theorem KxS.kx {i : In0} {W : Wd} {H : Hp} {σ : L2.St} {ρ : Ev} {E : XK} {e : XU} (h : KxS i W E e) (A : At i W H σ ρ) : Kx W H E (fun C f d => e C f d ρ) := fun W' H' C dx f v d g e1 hv h1 => h W' H' σ ρ C dx f v d g.le (A.pure g) e1 hv h1
abbrev cgN (i : Nat) : CG := fun d ρ q => q (ρ.set i (some (.d d)))
section
variable {E : XK} {K : PySem.W.Frag} {is js ws : List Nat} {g : TG} {gs : TGs} {mg : CG} {mgs : CGs} {te : TE} {me : CE} {tt : TT} {mt : CT} {ta : TA} {ma : CA} {ti : TI} {mi : CI} {ts tu : TS} {ms mu : CS} {n : Nat}
theorem t_name {i : Nat} : SG (gName i) (cgN i) [i] := fun W Z H v d σ ρ Q q A hv h k => k _ _ (A.set hv) (fun vs hvs => Dt.wipe_in (hvs i (by simp))) (fun k hk => List.getElem?_set_ne (fun z => hk (by simp [z]))) h
theorem At.unc {i : In0} {W : Wd} {H : Hp} {σ σ' : L2.St} {ρ ρ' : Ev} {is : List Nat} (A : At i W H σ ρ) (R : Rep W i.Z H σ' ρ') (hi : ∀ k ∈ is, k ∈ i.ws) (u : Unc is σ σ') : At i W H σ' ρ' := ⟨A.k0, A.go, R, fun k hk => by rw [u k (fun z => hk (hi k z))]; exact A.un k hk⟩
abbrev cSeq (a : CE) : CI := fun ρ q e => a ρ (fun x => match x with
  | .d (.tup xs) => q xs
  | .d (.lst xs) => q xs
  | _ => False) e
theorem i_seq (ha : SE E te me) : SI E (Gn.iSeq K te) (cSeq me) := fun W Z H σ ρ R q e Rp h k kx =>
  ha W Z H σ ρ _ _ e Rp h (fun W1 v u fp H1 g1 rv h1 => by
    split at h1
    · cases rv with
      | d hv =>
        obtain ⟨a, vs, e2, f, hh, t⟩ := Dt.tup_of g1.ok hv rfl
        exact ⟨a, e2, .inr ⟨vs, SqT.of hh, k W1 _ _ H1 g1 (Dt.it_tup f t) h1⟩⟩
    · cases rv with
      | d hv =>
        obtain ⟨a, vs, e2, f, hh, t⟩ := Dt.lst_of g1.ok hv rfl
        exact ⟨a, e2, .inl ⟨vs, SqL.of hh, k W1 _ _ H1 g1 (Dt.it_list f t) h1⟩⟩
    · exact h1.elim) kx
abbrev cRng1 (a : CA) : CI := fun ρ q e => a ρ (fun ds => match ds with
  | [.int n] => n ≤ 1000000 ∧ -1000000 ≤ n ∧ q ((List.range n.toNat).map fun (i : Nat) => .int (i : Int))
  | _ => False) e
theorem i_rng1 (ha : SA E n ta ma) : SI E (iRng1 ta) (cRng1 ma) := fun W Z H σ ρ R q e Rp h k kx =>
  ha W Z H σ ρ _ _ e Rp h (fun W1 vs ds H1 g1 hv _ h1 => by
    split at h1
    · rename_i n _
      obtain ⟨b1, b2, h1⟩ := h1
      have := hv.of_ints (ns := [n])
      refine ⟨n, this, by omega, by omega, k W1 _ _ H1 g1 Dt.it_rng ?_⟩
      have e : ((List.range n.toNat).map fun (i : Nat) => D.int (0 + (i : Int))) = (List.range n.toNat).map fun (i : Nat) => D.int (i : Int) := by
        congr 1
        funext i
        rw [Int.zero_add]
      rw [e]
      exact h1
    · exact h1.elim) kx
abbrev sNx : CS := fun d ρ _ => d.nx ρ
abbrev sBrk : CS := fun d ρ _ => d.bk ρ
abbrev sSeq (a b : CS) : CS := fun d ρ e => a { d with nx := fun ρ' => b d ρ' e } ρ e
abbrev xat (e : XU) (ρ : Ev) : XD := fun C f d => e C f d ρ
abbrev sIf (t : CT) (a b : CS) : CS := fun d ρ e => t ρ (a d ρ e) (b d ρ e) (xat e ρ)
abbrev sRet (a : CE) : CS := fun d ρ e => a ρ (fun x => onD x fun x => d.rt (.d x) ρ) (xat e ρ)
def sLoop (g : CG) (b : CS) : List D → CS
  | [] => fun d ρ _ => d.nx ρ
  | x :: xs => fun d ρ e => g x ρ fun ρ' => b { nx := fun ρ2 => sLoop g b xs d ρ2 e, rt := d.rt, bk := d.nx, ct := fun ρ2 => sLoop g b xs d ρ2 e } ρ' e
abbrev sFor (i : CI) (g : CG) (b : CS) : CS := fun d ρ e => i ρ (fun xs => sLoop g b xs d ρ e) (xat e ρ)
theorem s_nx : SS ws E tNext sNx := fun i W H σ ρ D d e hw A h c _ => c.nx W H σ ρ (.refl W) A h
theorem s_brk : SS ws E tBreak sBrk := fun i W H σ ρ D d e hw A h c _ => c.bk W H σ ρ (.refl W) A h
theorem s_seq (h1 : SS ws E ts ms) (h2 : SS ws E tu mu) : SS ws E (tSeq ts tu) (sSeq ms mu) := fun i W H σ ρ D d e hw A h c kx =>
  h1 i W H σ ρ _ _ e hw A h ⟨fun W' H' σ' ρ' l A' h' => h2 i W' H' σ' ρ' D d e hw A' h' (c.up l) (kx.up l), c.rt, c.bk, c.ct⟩ kx
theorem s_if (ht : ST E tt mt) (h1 : SS ws E ts ms) (h2 : SS ws E tu mu) : SS ws E (tIfS tt ts tu) (sIf mt ms mu) := fun i W H σ ρ D d e hw A h c kx =>
  ht W i.Z H σ ρ _ _ _ _ A.rep h (fun W1 H1 g1 hb => (h1 i W1 H1 σ ρ D d e hw (A.pure g1) hb (c.up g1.le) (kx.up g1.le) : ts D σ H1)) (fun W1 H1 g1 hb => (h2 i W1 H1 σ ρ D d e hw (A.pure g1) hb (c.up g1.le) (kx.up g1.le) : tu D σ H1)) (kx.kx A)
theorem s_ret (ha : SE E te me) : SS ws E (tRet te) (sRet me) := fun i W H σ ρ D d e hw A h c kx =>
  ha W i.Z H σ ρ _ _ _ A.rep h (fun W1 v u fp H1 g1 rv h1 => by
    obtain ⟨x, rfl, hv, h1⟩ := onD_of rv h1
    exact c.rt W1 H1 σ ρ v _ g1.le (.ofD (A.pure g1) hv) h1) (kx.kx A)
theorem s_for (hi : SI E ti mi) (hg : SG g mg is) (hb : SS ws E ts ms) (his : ∀ k ∈ is, k ∈ ws := by decide) : SS ws E (tFor ti g ts) (sFor mi mg ms) := fun i0 W H σ ρ D d e hw A h c kx =>
  hi W i0.Z H σ ρ _ _ _ A.rep h (fun W1 J xs H1 g1 hJ h1 => by
    refine ⟨fun i m σ H => m = xs.length - i ∧ i ≤ xs.length ∧ ∃ W2 ρ, Le W1 W2 ∧ At i0 W2 H σ ρ ∧ sLoop mg ms (xs.drop i) d ρ e, ⟨xs.length, by simp, Nat.zero_le _, W1, ρ, .refl W1, A.pure g1, h1⟩, ?_⟩
    rintro i m σ2 H2 ⟨rfl, hi, W2, ρ2, l2, A2, h2⟩
    by_cases hlt : i < xs.length
    · rw [List.drop_eq_getElem_cons hlt] at h2
      obtain ⟨j1, j2⟩ := (hJ i W2 H2 l2 A2.rep.ok).1 xs[i] (List.getElem?_eq_getElem hlt)
      refine .inr ⟨j1, fun σ3 H3 => ∃ W3 ρ3, Le W1 W3 ∧ At i0 W3 H3 σ3 ρ3 ∧ sLoop mg ms (xs.drop (i + 1)) d ρ3 e, fun σ3 H3 ⟨W3, ρ3, z⟩ => ⟨xs.length - (i + 1), by omega, rfl, hlt, W3, ρ3, z⟩, fun v H3 y => ?_⟩
      obtain ⟨W3, g3, hv⟩ := j2 v H3 y
      refine hg W3 i0.Z H3 v xs[i] σ2 ρ2 _ _ (A2.pure g3).rep hv h2 fun σ4 ρ4 R4 _ u4 h4 => ?_
      have A4 := (A2.pure g3).unc R4 (by rw [hw]; exact his) u4
      have l3 := (g1.le.trans l2).trans g3.le
      exact hb i0 W3 H3 σ4 ρ4 _ _ e hw A4 h4 ⟨fun W5 H5 σ5 ρ5 l5 A5 h5 => ⟨W5, ρ5, (l2.trans g3.le).trans l5, A5, h5⟩, fun W5 H5 σ5 ρ5 v u l5 => c.rt W5 H5 σ5 ρ5 v u (l3.trans l5), fun W5 H5 σ5 ρ5 l5 => c.nx W5 H5 σ5 ρ5 (l3.trans l5), fun W5 H5 σ5 ρ5 l5 A5 h5 => ⟨W5, ρ5, (l2.trans g3.le).trans l5, A5, h5⟩⟩ (kx.up l3)
    · have e1 : i = xs.length := by omega
      subst e1
      rw [List.drop_length] at h2
      exact .inl ⟨(hJ xs.length W2 H2 l2 A2.rep.ok).2 (Nat.le_refl _), c.nx W2 H2 σ2 ρ2 (g1.le.trans l2) A2 h2⟩) (kx.kx A)
def SN (E : XK) (te : TE) (m : CA) : Prop := ∀ W Z H σ ρ Q q e, Rep W Z H σ ρ → m ρ q e → Dt.Kn W H Q q → Kx W H E e → te σ H Q
theorem n_lst (ha : SA E n ta ma) (hn : n ≤ 1000 := by decide) : SN E (tLst ta) ma := fun W Z H σ ρ Q q e R h k kx =>
  ha W Z H σ ρ _ _ e R h (fun W1 xs ds H1 g1 hx hl h1 => ⟨by rw [hx.length, hl]; exact Nat.le_trans hn (by decide), fun p hp => k W1 _ p xs ds (g1.trans R.ok (.own g1.ok hp)) (g1.gone R.ok hp) upd_same (g1.ok.no hp).1 (g1.ok.no hp).2 hx h1⟩) kx
end
end Et
set_option Elab.async false
set_option linter.all false
set_option maxRecDepth 100000
set_option maxHeartbeats 4000000
namespace Et
open PySem PySem.Spec PyProof.Rows L2 Com Nd
open Dt (D Wd Vd VdA Le Ok Go Kv Ka Kb Kx KD XD SpD spOf SimR SimC SimSl SimE SimT SimA SimO SimI SimN SimIp ItD En toPy toPyA dOf dOfA nkK fEq fIn)
variable [Dt.Tb]
mutual
/-- the data of a tree -/
def er : U → D
  | .d x => x
  | .lst us => .lst (ers us)
  | .obj C ks us => .obj C ks (ers us)
  | .dct w n ks us => .dct w n ks (ers us)
def ers : List U → List D
  | [] => []
  | u :: us => er u :: ers us
end
theorem ers_d : ∀ ds : List D, ers (ds.map .d) = ds
  | [] => by rw [List.map_nil, ers]
  | d :: ds => by rw [List.map_cons, ers, er, ers_d ds]
/-- a tree is part of what stands -/
def sealW (W : Wd) (H : Hp) (fp : List Addr) : Wd := ⟨fun b => if b ∈ fp then H b else W.F b, W.G, W.T⟩
mutual
theorem RU.er {W W' : Wd} {H : Hp} (l : Le W W') : ∀ {v : V} {u : U} {fp : List Addr}, RU W H v u fp → (∀ a ∈ fp, W'.F a = H a) → Vd W' v (er u)
  | _, _, _, .d h, _ => by rw [Et.er]; exact h.mono l
  | _, _, _, .lst h t f g, k => by rw [Et.er]; exact .lst ((k _ (List.mem_cons_self ..)).trans h) (RUs.er l t fun a m => k a (List.mem_cons_of_mem _ m))
  | _, _, _, .obj h e t f g, k => by rw [Et.er]; exact .obj ((k _ (List.mem_cons_self ..)).trans h) e (RUs.er l t fun a m => k a (List.mem_cons_of_mem _ m))
  | _, _, _, .dctN h e d t f g, k => by rw [Et.er]; exact .dctN ((k _ (List.mem_cons_self ..)).trans h) e (d.mono l) (RUs.er l t fun a m => k a (List.mem_cons_of_mem _ m))
  | _, _, _, .dctK h e t f g, k => by rw [Et.er]; exact .dctK ((k _ (List.mem_cons_self ..)).trans h) e (RUs.er l t fun a m => k a (List.mem_cons_of_mem _ m))
theorem RUs.er {W W' : Wd} {H : Hp} (l : Le W W') : ∀ {vs : List V} {us : List U} {fp : List Addr}, RUs W H vs us fp → (∀ a ∈ fp, W'.F a = H a) → VdA W' vs (ers us)
  | _, _, _, .nil, _ => by rw [ers]; exact .nil
  | _, _, _, .cons h t, k => by rw [ers]; exact .cons (RU.er l h fun a m => k a (List.mem_append_left _ m)) (RUs.er l t fun a m => k a (List.mem_append_right _ m))
end
section
variable {i : In0} {W W1 : Wd} {H H1 : Hp} {σ : L2.St} {ρ : Ev} {s n j : Nat} {p : List Nat} {t t1 u : U} {v : V} {Z : Addr → Prop}
theorem seal_le {fp : List Addr} (h : ∀ a ∈ fp, Nod W H a) : Le W (sealW W H fp) := ⟨fun b o e => by
  show (if b ∈ fp then H b else W.F b) = some o
  by_cases c : b ∈ fp
  · rw [(h b c).2.1] at e; cases e
  · rw [if_neg c]; exact e, fun _ h => h, rfl⟩
theorem seal_ok {fp : List Addr} (k : Ok W H) (h : ∀ a ∈ fp, Nod W H a) : Ok (sealW W H fp) H := ⟨fun b o e => by
  have e : (if b ∈ fp then H b else W.F b) = some o := e
  by_cases c : b ∈ fp
  · rw [if_pos c] at e; exact e
  · rw [if_neg c] at e; exact k.f b o e, fun a g => ⟨by
    show (if a ∈ fp then H a else W.F a) = none
    by_cases c : a ∈ fp
    · exact absurd g (h a c).2.2
    · rw [if_neg c]; exact (k.g a g).1, (k.g a g).2.mono (seal_le h).f rfl fun _ e => e⟩, k.t⟩
theorem Rep.sealW (R : Rep W Z H σ ρ) (h : ρ[j]? = some (some u)) : ∃ fp, (∀ a ∈ fp, Nod W H a ∧ Z a) ∧ Rep (sealW W H fp) Z H σ (ρ.set j (some (.d (er u)))) := by
  obtain ⟨fp, h1, h2, h3⟩ := R.ex
  obtain ⟨v, e1, r⟩ := h1 j u h
  have hn := (h2 j).2.2
  have l := seal_le hn
  refine ⟨fp j, fun a m => ⟨hn a m, (h2 j).2.1 a m⟩, seal_ok R.ok hn, by rw [List.length_set, R.len], fun k => if k = j then [] else fp k, fun k u' e => ?_, fun k => ?_, fun k l' a n m1 m2 => ?_⟩
  · rcases Dt.getset e with ⟨rfl, e2, _⟩ | ⟨n, e⟩
    · cases e2
      refine ⟨v, e1, ?_⟩
      dsimp only
      rw [if_pos rfl]
      exact .d (r.er l fun a m => by show (if a ∈ fp k then H a else W.F a) = H a; rw [if_pos m])
    · obtain ⟨w, e3, r3⟩ := h1 k u' e
      refine ⟨w, e3, ?_⟩
      dsimp only
      rw [if_neg n]
      refine r3.stay ⟨l, fun a m => ⟨fun o e => e, ?_, ((h2 k).2.2 a m).2.2⟩⟩
      show (if a ∈ fp j then H a else W.F a) = none
      rw [if_neg fun z => h3 k j a n m z]
      exact ((h2 k).2.2 a m).2.1
  · dsimp only
    by_cases c : k = j
    · rw [if_pos c]; exact ⟨.nil, (fun _ h => nomatch h), fun _ h => nomatch h⟩
    · rw [if_neg c]
      refine ⟨(h2 k).1, (h2 k).2.1, fun a m => ⟨((h2 k).2.2 a m).1, ?_, ((h2 k).2.2 a m).2.2⟩⟩
      show (if a ∈ fp j then H a else W.F a) = none
      rw [if_neg fun z => h3 k j a c m z]
      exact ((h2 k).2.2 a m).2.1
  · dsimp only at m1 m2
    by_cases c : k = j
    · rw [if_pos c] at m1; cases m1
    · by_cases c2 : l' = j
      · rw [if_pos c2] at m2; cases m2
      · rw [if_neg c] at m1; rw [if_neg c2] at m2; exact h3 k l' a n m1 m2
theorem At.freeze (A : At i W H σ ρ) (h : ρ[j]? = some (some u)) : ∃ W', Le W W' ∧ At i W' H σ (ρ.set j (some (.d (er u)))) := by
  obtain ⟨fp, hn, R⟩ := A.rep.sealW h
  have l : Le W (sealW W H fp) := seal_le fun a m => (hn a m).1
  refine ⟨_, l, A.k0, ⟨A.go.le.trans l, A.go.gn, fun a o e => ?_, A.go.p, A.go.st, R.ok⟩, R, A.un⟩
  have e : (if a ∈ fp then H a else W.F a) = some o := e
  by_cases c : a ∈ fp
  · rcases (hn a c).2 with z | z
    · exact .inr (.inr (.inr z))
    · exact .inr (.inl z)
  · rw [if_neg c] at e
    exact A.go.fn a o e
/-- from here on it stays as it is -/
abbrev sFrz (j : Nat) (m : CS) : CS := fun d ρ e => match ρ[j]? with
  | some (some u) => m d (ρ.set j (some (.d (er u)))) e
  | _ => False
theorem s_frz {ws : List Nat} {E : XK} {ts : TS} {ms : CS} (h : SS ws E ts ms) : SS ws E ts (sFrz j ms) := fun i W H σ ρ D d e hw A hm c kx => by
  have hm : (match ρ[j]? with | some (some u) => ms d (ρ.set j (some (.d (er u)))) e | _ => False) := hm
  split at hm
  · rename_i u e1
    obtain ⟨W', l, A'⟩ := A.freeze e1
    exact h i W' H σ _ D d e hw A' hm (c.up l) (kx.up l)
  · exact hm.elim
/-- a slot's thing is taken out -/
theorem At.take (A : At i W H σ ρ) (h : ρ[j]? = some (some u)) : ∃ v, σ[j]? = some (some v) ∧ New i W H σ (ρ.set j none) v u := by
  obtain ⟨fp, h1, h2, h3⟩ := A.rep.ex
  obtain ⟨v, e1, r⟩ := h1 j u h
  have hl := A.rep.len
  refine ⟨v, e1, A.k0, A.go, ⟨A.rep.ok, by simp [hl], fun k => if k = j then [] else if k = ρ.length then fp j else if k < ρ.length then fp k else [], fun k u' e => ?_, fun k => ?_, fun k l a n m1 m2 => ?_⟩, A.un⟩
  · have lj := (List.getElem?_eq_some_iff.mp h).1
    by_cases c : k < ρ.length
    · rw [List.getElem?_append_left (by rw [List.length_set]; exact c)] at e
      rcases Dt.getset e with ⟨_, e2, _⟩ | ⟨n, e⟩
      · cases e2
      · obtain ⟨w, e3, r3⟩ := h1 k u' e
        exact ⟨w, by rw [List.getElem?_append_left (by rw [hl]; exact c)]; exact e3, by dsimp only; rw [if_neg n, if_neg (by omega), if_pos c]; exact r3⟩
    · rw [List.getElem?_append_right (by rw [List.length_set]; omega), List.length_set] at e
      have k0 : k - ρ.length = 0 := by
        have := (List.getElem?_eq_some_iff.mp e).1
        simp at this
        omega
      rw [k0] at e
      cases e
      exact ⟨v, by rw [List.getElem?_append_right (by omega), hl, k0]; rfl, by dsimp only; rw [if_neg (by omega), if_pos (by omega)]; exact r⟩
  · dsimp only
    split
    · exact ⟨.nil, (fun _ h => nomatch h), fun _ h => nomatch h⟩
    · split
      · exact h2 j
      · split
        · exact h2 k
        · exact ⟨.nil, (fun _ h => nomatch h), fun _ h => nomatch h⟩
  · dsimp only at m1 m2
    split at m1
    · cases m1
    · split at m2
      · cases m2
      · split at m1
        · split at m2
          · omega
          · split at m2
            · exact h3 j l a (fun z => by omega) m1 m2
            · cases m2
        · split at m2
          · split at m1
            · exact h3 j k a (fun z => by omega) m2 m1
            · cases m1
          · split at m1
            · split at m2
              · exact h3 k l a n m1 m2
              · cases m2
            · cases m1
/-- a new list of one's own beside the slots -/
theorem New.lst (A : At i W H σ ρ) {W' : Wd} {H' : Hp} {p : Addr} {vs : List V} {ds : List D} (g : Go W H W' H') (hp : H p = none) (e : H' p = some (.lst vs)) (f : W'.F p = none) (n : ¬ W'.G p) (t : VdA W' vs ds) : New i W' H' σ ρ (.ref p) (.lst (ds.map .d)) :=
  .of A (.of A.rep.ok g) (.lst e (RUs.ofVdA t) f n) (by simp) fun a m => by rw [List.mem_singleton.mp m]; exact hp
end
end Et
set_option Elab.async false
set_option linter.all false
set_option maxRecDepth 100000
set_option maxHeartbeats 4000000
namespace Et
open PySem PySem.Spec PyProof.Rows L2 Com Nd
open Dt (D Wd Vd VdA Le Ok Go Kv Ka Kb Kx KD XD SpD spOf SimR SimC SimSl SimE SimT SimA SimO SimI SimN SimIp ItD En toPy toPyA dOf dOfA nkK fEq fIn)
variable [Dt.Tb]
abbrev CP := Ev → (Nat → List Nat → U → Prop) → XD → Prop
def SP (E : XK) (te : TE) (m : CP) : Prop := ∀ i W H σ ρ Q q e, At i W H σ ρ → m ρ q e → (∀ W' H' s p t v, Go W H W' H' → Foc i W' H' σ ρ s p t v → q s p t → Q v H') → Kx W H E e → te σ H Q
abbrev pVar (s : Nat) : CP := fun ρ q _ => match ρ[s]? with
  | some (some u) => q s [] u
  | _ => False
/-- a slot's tree with something changed below -/
def putU (ρ : Ev) (s : Nat) (p : List Nat) (t : U) : Ev := match ρ[s]? with
  | some (some u) => ρ.set s (some (u.put p t))
  | _ => ρ
section
variable {E : XK} {te ta ti to : TE} {me ma mi : CE} {mp : CP} {K : PySem.W.Frag} {w : World} {ws : List Nat}
theorem p_var {s : Nat} : SP E (tVar s) (pVar s) := fun i W H σ ρ Q q e A h k _ => by
  have h : (match ρ[s]? with | some (some u) => q s [] u | _ => False) := h
  split at h
  · rename_i u e1
    obtain ⟨v, e2, f⟩ := A.foc e1
    exact ⟨v, e2, k W H s [] u v (.refl A.rep.ok) f h⟩
  · exact h.elim
end
section
variable {i : In0} {W : Wd} {H : Hp} {σ : L2.St} {ρ : Ev} {s : Nat} {p : List Nat} {v : V} {us : List U}
theorem go_upd {a : Addr} {o : HO} {fq : List Addr} (k : Ok W H) (n : Nod W H a) (m : a ∈ fq) : GoB (fun b => b ∈ fq) W H W (upd H a o) := by
  obtain ⟨⟨u, e, _⟩, f, g⟩ := n
  refine ⟨.refl W, fun _ h => .inl h, fun _ _ h => .inl h, fun b w q _ nb => ?_, fun b q => ?_, ⟨fun b w q => ?_, fun b gb => ?_, k.t⟩⟩
  · rw [upd_ne (fun z => nb (by rw [z]; exact m))]; exact q
  · by_cases c : b = a
    · rw [c, upd_same] at q; cases q
    · rw [upd_ne c] at q; exact q
  · rw [upd_ne (ne_of_none q f)]; exact k.f b w q
  · have nb : b ≠ a := fun z => g (z ▸ gb)
    exact ⟨(k.g b gb).1, (k.g b gb).2.mono (fun _ _ e => e) rfl fun u e1 => by rw [upd_ne nb]; exact e1⟩
theorem keep_upd {a : Addr} {o : HO} {fq : List Addr} (h : ∀ b ∈ fq, Nod W H b) (m : a ∉ fq) : Keep W H W (upd H a o) fq := ⟨.refl W, fun b hb => ⟨fun u e => by rw [upd_ne (fun z => m (by rw [← z]; exact hb))]; exact e, (h b hb).2⟩⟩
/-- a list changes -/
theorem Foc.lst (A : At i W H σ ρ) (f : Foc i W H σ ρ s p (.lst us) v) : ∃ a vs fq, v = .ref a ∧ H a = some (.lst vs) ∧ W.F a = none ∧ ¬ W.G a ∧ RUs W H vs us fq ∧ fq.Nodup ∧ (∀ b ∈ fq, Nod W H b) ∧ a ∉ fq ∧
    ∀ {vs' : List V} {us' : List U} {g : List Addr}, RUs W (upd H a (.lst vs')) vs' us' g → g.Nodup → (∀ b ∈ g, b ∈ fq) → At i W (upd H a (.lst vs')) σ (putU ρ s p (.lst us')) := by
  obtain ⟨f2, r, hz, nd, back⟩ := f.mut A
  cases r with
  | lst hh t ff gg =>
    rename_i a vs fq
    rw [List.nodup_cons] at nd
    refine ⟨a, vs, fq, rfl, hh, ff, gg, t, nd.2, t.nod, nd.1, fun {vs' us' g} rg ng sg => ?_⟩
    exact back (.lst upd_same rg ff gg) (List.nodup_cons.mpr ⟨fun z => nd.1 (sg a z), ng⟩) (fun b m => .inl ((List.mem_cons.mp m).elim (fun z => z ▸ List.mem_cons_self ..) fun z => List.mem_cons_of_mem _ (sg b z)))
      (fun b m => hz b ((List.mem_cons.mp m).elim (fun z => z ▸ List.mem_cons_self ..) fun z => List.mem_cons_of_mem _ (sg b z))) (go_upd A.rep.ok ⟨⟨_, hh, Dt.still_lst⟩, ff, gg⟩ (List.mem_cons_self ..))
/-- the attributes of an object change -/
theorem Foc.obj {C : Addr} {ks : List Str} (A : At i W H σ ρ) (f : Foc i W H σ ρ s p (.obj C ks us) v) : ∃ a dx vs fq, v = .ref a ∧ H a = some (.ins C dx (ks.zip vs)) ∧ ks.length = vs.length ∧ W.F a = none ∧ ¬ W.G a ∧ RUs W H vs us fq ∧ fq.Nodup ∧ (∀ b ∈ fq, Nod W H b) ∧ a ∉ fq ∧
    ∀ {dx' : Addr} {ks' : List Str} {vs' : List V} {us' : List U} {g : List Addr}, ks'.length = vs'.length → RUs W (upd H a (.ins C dx' (ks'.zip vs'))) vs' us' g → g.Nodup → (∀ b ∈ g, b ∈ fq) → At i W (upd H a (.ins C dx' (ks'.zip vs'))) σ (putU ρ s p (.obj C ks' us')) := by
  obtain ⟨f2, r, hz, nd, back⟩ := f.mut A
  cases r with
  | obj hh el t ff gg =>
    rename_i a dx vs fq
    rw [List.nodup_cons] at nd
    refine ⟨a, dx, vs, fq, rfl, hh, el, ff, gg, t, nd.2, t.nod, nd.1, fun {dx' ks' vs' us' g} el' rg ng sg => ?_⟩
    exact back (.obj upd_same el' rg ff gg) (List.nodup_cons.mpr ⟨fun z => nd.1 (sg a z), ng⟩) (fun b m => .inl ((List.mem_cons.mp m).elim (fun z => z ▸ List.mem_cons_self ..) fun z => List.mem_cons_of_mem _ (sg b z)))
      (fun b m => hz b ((List.mem_cons.mp m).elim (fun z => z ▸ List.mem_cons_self ..) fun z => List.mem_cons_of_mem _ (sg b z))) (go_upd A.rep.ok ⟨⟨_, hh, Dt.still_ins⟩, ff, gg⟩ (List.mem_cons_self ..))
/-- a dict changes -/
theorem Foc.dct {w : World} {nk : Bool} {ks : List NestedKey} (A : At i W H σ ρ) (f : Foc i W H σ ρ s p (.dct w nk ks us) v) : (∃ a xs fq, nk = true ∧ v = .ref a ∧ H a = some (DN w a xs) ∧ xs.map (·.1) = ks ∧ VdA W (xs.map fun x => .ref x.2.1) (dOfA ks) ∧ W.F a = none ∧ ¬ W.G a ∧ RUs W H (xs.map (·.2.2)) us fq ∧ fq.Nodup ∧ (∀ b ∈ fq, Nod W H b) ∧ a ∉ fq ∧
      ∀ {xs' : List NX} {us' : List U} {g : List Addr}, VdA W (xs'.map fun x => .ref x.2.1) (dOfA (xs'.map (·.1))) → RUs W (upd H a (DN w a xs')) (xs'.map (·.2.2)) us' g → g.Nodup → (∀ b ∈ g, b ∈ fq) → At i W (upd H a (DN w a xs')) σ (putU ρ s p (.dct w true (xs'.map (·.1)) us'))) ∨
    ∃ a, ∃ xs : List (Key × V), ∃ fq, nk = false ∧ v = .ref a ∧ H a = some (.dK xs) ∧ xs.map (fun x => nkK x.1) = ks ∧ W.F a = none ∧ ¬ W.G a ∧ RUs W H (xs.map (·.2)) us fq ∧ fq.Nodup ∧ (∀ b ∈ fq, Nod W H b) ∧ a ∉ fq ∧
      ∀ {xs' : List (Key × V)} {us' : List U} {g : List Addr}, RUs W (upd H a (.dK xs')) (xs'.map (·.2)) us' g → g.Nodup → (∀ b ∈ g, b ∈ fq) → At i W (upd H a (.dK xs')) σ (putU ρ s p (.dct w false (xs'.map fun x => nkK x.1) us')) := by
  obtain ⟨f2, r, hz, nd, back⟩ := f.mut A
  cases r with
  | dctN hh ek d t ff gg =>
    rename_i a xs fq
    rw [List.nodup_cons] at nd
    refine .inl ⟨a, xs, fq, rfl, rfl, hh, ek, d, ff, gg, t, nd.2, t.nod, nd.1, fun {xs' us' g} d' rg ng sg => ?_⟩
    exact back (.dctN upd_same rfl d' rg ff gg) (List.nodup_cons.mpr ⟨fun z => nd.1 (sg a z), ng⟩) (fun b m => .inl ((List.mem_cons.mp m).elim (fun z => z ▸ List.mem_cons_self ..) fun z => List.mem_cons_of_mem _ (sg b z)))
      (fun b m => hz b ((List.mem_cons.mp m).elim (fun z => z ▸ List.mem_cons_self ..) fun z => List.mem_cons_of_mem _ (sg b z))) (go_upd A.rep.ok ⟨⟨_, hh, Dt.still_dn⟩, ff, gg⟩ (List.mem_cons_self ..))
  | dctK hh ek t ff gg =>
    rename_i a xs fq
    rw [List.nodup_cons] at nd
    refine .inr ⟨a, xs, fq, rfl, rfl, hh, ek, ff, gg, t, nd.2, t.nod, nd.1, fun {xs' us' g} rg ng sg => ?_⟩
    exact back (.dctK upd_same rfl rg ff gg) (List.nodup_cons.mpr ⟨fun z => nd.1 (sg a z), ng⟩) (fun b m => .inl ((List.mem_cons.mp m).elim (fun z => z ▸ List.mem_cons_self ..) fun z => List.mem_cons_of_mem _ (sg b z)))
      (fun b m => hz b ((List.mem_cons.mp m).elim (fun z => z ▸ List.mem_cons_self ..) fun z => List.mem_cons_of_mem _ (sg b z))) (go_upd A.rep.ok ⟨⟨_, hh, Dt.still_dK⟩, ff, gg⟩ (List.mem_cons_self ..))
end
end Et
set_option Elab.async false
set_option linter.all false
set_option maxRecDepth 100000
set_option maxHeartbeats 4000000
namespace Et
open PySem PySem.Spec PyProof.Rows L2 Com Nd
open Dt (D Wd Vd VdA Le Ok Go Kv Ka Kb Kx KD XD SpD spOf SimR SimC SimSl SimE SimT SimA SimO SimI SimN SimIp ItD En toPy toPyA dOf dOfA nkK fEq fIn)
variable [Dt.Tb]
theorem keep_lst {W : Wd} {H : Hp} {a : Addr} {o : HO} {fq : List Addr} {vs : List V} {us : List U} (t : RUs W H vs us fq) (m : a ∉ fq) : RUs W (upd H a o) vs us fq := t.stay (keep_upd t.nod m)
theorem nd_cut {f1 f2 f3 : List Addr} (h : (f1 ++ f2 ++ f3).Nodup) : (f1 ++ [] ++ f3).Nodup := by
  rw [List.append_nil]
  rw [List.append_assoc, List.nodup_append] at h
  rw [List.nodup_append]
  obtain ⟨a, b, c⟩ := h
  rw [List.nodup_append] at b
  exact ⟨a, b.2.1, fun x hx y hy => c x hx y (List.mem_append_right _ hy)⟩
/-- one of the values becomes data -/
theorem RUs.setD {W : Wd} {H : Hp} {vs : List V} {us : List U} {fq : List Addr} {n : Nat} {u : U} {v : V} {d : D} (t : RUs W H vs us fq) (nd : fq.Nodup) (e : us[n]? = some u) (h : Vd W v d) : ∃ g, RUs W H (vs.set n v) (us.set n (.d d)) g ∧ g.Nodup ∧ ∀ b ∈ g, b ∈ fq := by
  obtain ⟨_, f1, f2, f3, _, _, rfl, back⟩ := t.at e
  refine ⟨f1 ++ [] ++ f3, back ⟨.refl W, fun a m => ⟨fun _ e => e, (t.nod a (by simp at m ⊢; rcases m with m | m <;> simp [m])).2⟩⟩ (.d h), nd_cut nd, fun b m => by simp at m ⊢; rcases m with m | m <;> simp [m]⟩
abbrev sApp (p : CP) (a : CE) : CS := fun d ρ e => p ρ (fun s pth t => match t with
  | .lst us => a ρ (fun y => onD y fun y => us.length < sizeLine ∧ d.nx (putU ρ s pth (.lst (us ++ [.d y])))) (xat e ρ)
  | _ => False) (xat e ρ)
section
variable {E : XK} {te ta ti to : TE} {me ma mi : CE} {mp : CP} {K : PySem.W.Frag} {w : World} {ws : List Nat}
theorem s_app (hp : SP E to mp) (ha : SE E te me) : SS ws E (tDrop (tBM K "list" rAppend to (tCons te tNil))) (sApp mp me) := fun i W H σ ρ D d e hw A h c kx =>
  hp i W H σ ρ _ _ _ A h (fun W1 H1 s p t v g f h1 => by
    cases t with
    | lst us =>
      obtain ⟨a, vs, fq, rfl, hh, _⟩ := f.lst (A.pure g)
      refine ⟨.inl ⟨rfl, vs, SqL.of hh⟩, ?_⟩
      refine ha W1 i.Z H1 σ ρ _ _ _ (A.pure g).rep h1 (fun W2 y uy fy H2 g2 ry h2 => ?_) ((kx.up g.le).kx (A.pure g))
      obtain ⟨dy, rfl, hy, h2⟩ := onD_of ry h2
      have A2 := (A.pure g).pure g2
      obtain ⟨a', vs', fq', e1, hh', ff, gg, t', nd, _, na, back⟩ := (f.pure g.ok g2).lst A2
      cases e1
      refine ⟨a, vs', y, rfl, rfl, hh', by rw [t'.len]; exact h2.1, ?_⟩
      refine c.nx W2 _ σ _ (g.le.trans g2.le) (back (g := fq' ++ []) ((keep_lst t' na).app (RUs.one (.d hy))) (by rw [List.append_nil]; exact nd) (fun b m => by rw [List.append_nil] at m; exact m)) h2.2
    | _ => exact h1.elim) (kx.kx A)
mutual
/-- a key that stands, as data -/
theorem vd_key {W : Wd} : ∀ {v : V} {d : D} {k : NestedKey}, Vd W v d → nkOf d = some k → Vd W v (dOf k)
  | _, _, _, .non, e => by rw [nkOf] at e; cases e; rw [dOf]; exact .non
  | _, _, _, .bl _, e => by rw [nkOf] at e; cases e; all_goals (intros; rename_i z; cases z)
  | _, _, _, .int i, e => by rw [nkOf] at e; cases e; rw [dOf]; exact .int i
  | _, _, _, .str s, e => by rw [nkOf] at e; cases e; rw [dOf]; exact .str s
  | _, _, _, .tup (ds := ds) h t, e => by
    rw [nkOf] at e
    cases q : nkOfA ds with
    | none => rw [q] at e; cases e
    | some ks => rw [q] at e; cases e; rw [dOf]; exact .tup h (vd_keyA t q)
  | _, _, _, .lst _ _, e => by rw [nkOf] at e; cases e; all_goals (intros; rename_i z; cases z)
  | _, _, _, .obj _ _ _, e => by rw [nkOf] at e; cases e; all_goals (intros; rename_i z; cases z)
  | _, _, _, .flow _ _, e => by rw [nkOf] at e; cases e; all_goals (intros; rename_i z; cases z)
  | _, _, _, .scr _, e => by rw [nkOf] at e; cases e; all_goals (intros; rename_i z; cases z)
  | _, _, _, .dict0 _, e => by rw [nkOf] at e; cases e; all_goals (intros; rename_i z; cases z)
  | _, _, _, .dctN _ _ _ _, e => by rw [nkOf] at e; cases e; all_goals (intros; rename_i z; cases z)
  | _, _, _, .dctK _ _ _, e => by rw [nkOf] at e; cases e; all_goals (intros; rename_i z; cases z)
  | _, _, _, .vry h, e => by rw [nkOf] at e; exact vd_key h e
theorem vd_keyA {W : Wd} : ∀ {vs : List V} {ds : List D} {ks : List NestedKey}, VdA W vs ds → nkOfA ds = some ks → VdA W vs (dOfA ks)
  | _, _, _, .nil, e => by rw [nkOfA] at e; cases e; rw [dOfA]; exact .nil
  | _, _, _, .cons (d := d) (ds := ds) h t, e => by
    rw [nkOfA] at e
    cases q : nkOf d with
    | none => rw [q] at e; cases e
    | some k =>
      cases q2 : nkOfA ds with
      | none => rw [q, q2] at e; cases e
      | some ks => rw [q, q2] at e; cases e; rw [dOfA]; exact .cons (vd_key h q) (vd_keyA t q2)
end
def putKs (j : NestedKey) (ks : List NestedKey) : List NestedKey := if j ∈ ks then ks else ks ++ [j]
def repl {α : Type} (j : NestedKey) (u : α) : List NestedKey → List α → List α
  | k :: ks, x :: us => (if k = j then u else x) :: repl j u ks us
  | _, _ => []
def putVs {α : Type} (j : NestedKey) (u : α) (ks : List NestedKey) (us : List α) : List α := if j ∈ ks then repl j u ks us else us ++ [u]
def keyOk (nb : Bool) (k : D) (q : NestedKey → Prop) : Prop := match nb, nkOf k with
  | true, some (.tup t) => (NestedKey.tup t).depth ≤ 8 ∧ q (.tup t)
  | false, some (.num i) => q (.num i)
  | false, some (.text i) => q (.text i)
  | _, _ => False
def rKSet : V → V → V → Hp → (Hp → Prop) → Prop := fun o i v H Q => ∃ a kvs k, o = .ref a ∧ i = kV k ∧ H a = some (.dK kvs) ∧ kvs.length < sizeLine ∧ Q (upd H a (.dK (putK kvs k v)))
def rSetA (w : World) : V → V → V → Hp → (Hp → Prop) → Prop := fun o i v H Q => rSetL o i v H Q ∨ rNSet w o i v H Q ∨ rKSet o i v H Q
theorem set_A {X : Cx} (hu : room X) : PSet X (rSetA X.w) := by
  intro pins s σ H o i v ov iv u Q I ro ri rv h
  rcases h with h | h | h
  · exact set_list pins s σ H o i v ov iv u Q I ro ri rv h
  · exact set_n hu pins s σ H o i v ov iv u Q I ro ri rv h
  · obtain ⟨a, kvs, k, rfl, rfl, ha, hl, q⟩ := h
    cases ro
    exact d_setItem (by unfold room at hu; omega) I (DPut.k (k := k) ha hl) ri rv fun s' I' => ⟨_, I', q⟩
theorem put_keys (xs : List NX) (j : NestedKey) (b : Addr) (v : V) : (putN xs j b v).map (·.1) = putKs j (xs.map (·.1)) ∧ (putN xs j b v).map (·.2.2) = putVs j v (xs.map (·.1)) (xs.map (·.2.2)) ∧ (putN xs j b v).map (fun x => V.ref x.2.1) = if j ∈ xs.map (·.1) then xs.map (fun x => V.ref x.2.1) else xs.map (fun x => V.ref x.2.1) ++ [.ref b] := by
  unfold putN putKs putVs
  rw [lkN_isSome]
  by_cases c : j ∈ xs.map (·.1)
  · rw [decide_eq_true c, if_pos rfl, if_pos c, if_pos c, if_pos c]
    clear c
    induction xs with
    | nil => exact ⟨rfl, rfl, rfl⟩
    | cons x xs ih =>
      obtain ⟨a, b, c⟩ := ih
      simp only [List.map_cons, repl]
      rw [a, b, c]
      by_cases c : x.1 = j <;> simp [c]
  · rw [decide_eq_false c, if_neg (by decide), if_neg c, if_neg c, if_neg c]
    simp
theorem put_keysK (xs : List (Key × V)) (k : Key) (v : V) : (putK xs k v).map (fun x => nkK x.1) = putKs (nkK k) (xs.map fun x => nkK x.1) ∧ (putK xs k v).map (·.2) = putVs (nkK k) v (xs.map fun x => nkK x.1) (xs.map (·.2)) := by
  unfold putK putKs putVs
  rw [valV_any, valV_isSome]
  by_cases c : nkK k ∈ xs.map fun x => nkK x.1
  · rw [decide_eq_true c, if_pos rfl, if_pos c, if_pos c]
    clear c
    induction xs with
    | nil => exact ⟨rfl, rfl⟩
    | cons x xs ih =>
      obtain ⟨a, b⟩ := ih
      simp only [List.map_cons, repl]
      rw [a, b]
      by_cases c : x.1 = k
      · simp [c]
      · have c2 : ¬ nkK x.1 = nkK k := fun z => c (nkK_inj z)
        simp [c, c2]
  · rw [decide_eq_false c, if_neg (by decide), if_neg c, if_neg c]
    simp
/-- the values behind a put -/
theorem RUs.replD {W : Wd} {H : Hp} {j : NestedKey} {v : V} {d : D} (h : Vd W v d) : ∀ {ks : List NestedKey} {vs : List V} {us : List U} {fq : List Addr}, RUs W H vs us fq → ks.length = vs.length → fq.Nodup → ∃ g, RUs W H (repl j v ks vs) (repl j (.d d) ks us) g ∧ g.Nodup ∧ ∀ b ∈ g, b ∈ fq
  | [], _, _, _, .nil, _, _ => ⟨[], .nil, .nil, fun _ m => nomatch m⟩
  | k :: ks, _, _, _, .cons (fp := fp) (fq := fq) r t, l, nd => by
    unfold repl
    rw [List.nodup_append] at nd
    obtain ⟨g, r2, n2, s2⟩ := RUs.replD h t (by simpa using l) nd.2.1
    by_cases c : k = j
    · rw [if_pos c, if_pos c]
      exact ⟨g, .cons (fp := []) (.d h) r2, n2, fun b m => List.mem_append_right _ (s2 b m)⟩
    · rw [if_neg c, if_neg c]
      refine ⟨fp ++ g, .cons r r2, ?_, fun b m => (List.mem_append.mp m).elim (List.mem_append_left _) fun m => List.mem_append_right _ (s2 b m)⟩
      rw [List.nodup_append]
      exact ⟨nd.1, n2, fun a ha b hb => nd.2.2 a ha b (s2 b hb)⟩
theorem RUs.putD {W : Wd} {H : Hp} {j : NestedKey} {v : V} {d : D} (h : Vd W v d) {ks : List NestedKey} {vs : List V} {us : List U} {fq : List Addr} (t : RUs W H vs us fq) (l : ks.length = vs.length) (nd : fq.Nodup) : ∃ g, RUs W H (putVs j v ks vs) (putVs j (.d d) ks us) g ∧ g.Nodup ∧ ∀ b ∈ g, b ∈ fq := by
  unfold putVs
  by_cases c : j ∈ ks
  · rw [if_pos c, if_pos c]; exact t.replD h l nd
  · rw [if_neg c, if_neg c]; exact ⟨fq ++ [], t.app (.one (.d h)), by rw [List.append_nil]; exact nd, fun b m => by rw [List.append_nil] at m; exact m⟩
def setQ (w : World) (ρ : Ev) (s : Nat) (pth : List Nat) (t : U) (k : U) (y : D) (q : Ev → Prop) : Prop := match t, k with
  | .lst us, .d (.int k) => (match ixN us.length k with
    | some n => q (putU ρ s pth (.lst (us.set n (.d y))))
    | none => False)
  | .dct w' nb ks us, .d k => w' = w ∧ us.length < 100000 ∧ keyOk nb k fun j => q (putU ρ s pth (.dct w nb (putKs j ks) (putVs j (.d y) ks us)))
  | _, _ => False
abbrev sSet (w : World) (p : CP) (b a : CE) : CS := fun d ρ e => a ρ (fun y => onD y fun y => p ρ (fun s pth t => b ρ (fun k => setQ w ρ s pth t k y d.nx) (xat e ρ)) (xat e ρ)) (xat e ρ)
theorem dofA_app : ∀ (a b : List NestedKey), dOfA (a ++ b) = dOfA a ++ dOfA b
  | [], b => by rw [List.nil_append, dOfA, List.nil_append]
  | k :: a, b => by rw [List.cons_append, dOfA, dOfA, dofA_app a b, List.cons_append]
theorem setQ_run {i : In0} {W : Wd} {H : Hp} {σ : L2.St} {ρ : Ev} {s : Nat} {pth : List Nat} {t : U} {o k v : V} {uk : U} {fk : List Addr} {y : D} {q : Ev → Prop} {Q : Hp → Prop} (A : At i W H σ ρ) (f : Foc i W H σ ρ s pth t o) (rk : RU W H k uk fk) (hv : Vd W v y) (h : setQ w ρ s pth t uk y q)
    (n : ∀ H' ρ', At i W H' σ ρ' → q ρ' → Q H') : rSetA w o k v H Q := by
  unfold setQ at h
  split at h
  · rename_i us kk
    cases rk with
    | d hk =>
      cases hk
      cases e1 : ixN us.length kk with
      | none => rw [e1] at h; exact h.elim
      | some m =>
        rw [e1] at h
        obtain ⟨a, vs, fq, rfl, hh, _, _, t', nd, _, na, back⟩ := f.lst A
        refine .inl ⟨a, vs, kk, m, rfl, rfl, hh, by rw [t'.len]; exact e1, ?_⟩
        have lm : m < us.length := by
          unfold ixN at e1
          split at e1 <;> split at e1 <;> first | (cases e1; done) | (injection e1 with e1; omega)
        obtain ⟨g, r, ng, sg⟩ := t'.setD nd (List.getElem?_eq_getElem lm) hv
        exact n _ _ (back (r.stay (keep_upd r.nod fun z => na (sg _ z))) ng sg) h
  · rename_i w' nb ks us y'
    obtain ⟨rfl, hl, h⟩ := h
    cases rk with
    | d hk =>
      rcases f.dct A with ⟨a, xs, fq, rfl, rfl, hh, ek, dk, _, _, t', nd, _, na, back⟩ | ⟨a, xs, fq, rfl, rfl, hh, ek, _, _, t', nd, _, na, back⟩
      · unfold keyOk at h
        split at h
        · rename_i tt _ e1
          obtain ⟨hd, h⟩ := h
          subst ek
          have nj := nk_is A.rep.ok hk e1
          have : ∃ b, k = .ref b := by cases nj with | tup g1 g2 => exact ⟨_, rfl⟩
          obtain ⟨b, rfl⟩ := this
          have hl2 : xs.length = us.length := by have := t'.len; rwa [List.length_map] at this
          refine .inr (.inl ⟨a, b, xs, _, rfl, rfl, hh, all_keys A.rep.ok dk, ⟨nj, hd⟩, by rw [hl2]; exact Nat.lt_of_lt_of_le hl (by decide), ?_⟩)
          obtain ⟨p1, p2, p3⟩ := put_keys xs (.tup tt) b v
          obtain ⟨g, r, ng, sg⟩ := t'.putD (j := .tup tt) (ks := xs.map (·.1)) hv (by simp) nd
          have := back (xs' := putN xs (.tup tt) b v) (us' := putVs (.tup tt) (.d y) (xs.map (·.1)) us) (g := g) (by
            rw [p3, p1]
            unfold putKs
            by_cases c : NestedKey.tup tt ∈ xs.map (·.1)
            · rw [if_pos c, if_pos c]; exact dk
            · rw [if_neg c, if_neg c, dofA_app]
              refine dk.append ?_
              rw [dOfA, dOfA]
              exact .one (vd_key hk e1)) (by rw [p2]; exact r.stay (keep_upd r.nod fun z => na (sg _ z))) ng sg
          rw [p1] at this
          exact n _ _ this h
        · rename_i e _; cases e
        · rename_i e _; cases e
        · exact h.elim
      · have go : ∀ kk : Key, k = kV kk → q (putU ρ s pth (.dct w' false (putKs (nkK kk) ks) (putVs (nkK kk) (.d y) ks us))) → rSetA w' (.ref a) k v H Q := fun kk ek2 h => by
          subst ek ek2
          have hl2 : xs.length = us.length := by have := t'.len; rwa [List.length_map] at this
          refine .inr (.inr ⟨a, xs, kk, rfl, rfl, hh, by rw [hl2]; exact Nat.lt_of_lt_of_le hl (by decide), ?_⟩)
          obtain ⟨p1, p2⟩ := put_keysK xs kk v
          obtain ⟨g, r, ng, sg⟩ := t'.putD (j := nkK kk) (ks := xs.map fun x => nkK x.1) hv (by simp) nd
          have := back (xs' := putK xs kk v) (us' := putVs (nkK kk) (.d y) (xs.map fun x => nkK x.1) us) (g := g) (by rw [p2]; exact r.stay (keep_upd r.nod fun z => na (sg _ z))) ng sg
          rw [p1] at this
          exact n _ _ this h
        unfold keyOk at h
        split at h
        · rename_i e _; cases e
        · rename_i ii _ e1
          exact go (.inl ii) (nkK_of (k := .inl ii) hk e1) h
        · rename_i ii _ e1
          exact go (.inr ii) (nkK_of (k := .inr ii) hk e1) h
        · exact h.elim
  · exact h.elim
end
section
variable {E : XK} {te ta ti to : TE} {me ma mi : CE} {mp : CP} {K : PySem.W.Frag} {w : World} {ws : List Nat}
theorem s_set (hp : SP E to mp) (hi : SE E ti mi) (ha : SE E te me) : SS ws E (tAsg te (gSub to ti (rSetA w))) (sSet w mp mi me) := fun i W H σ ρ D d e hw A h c kx =>
  ha W i.Z H σ ρ _ _ _ A.rep h (fun W1 v uv fv H1 g1 rv h1 => by
    obtain ⟨y, rfl, hv, h1⟩ := onD_of rv h1
    have A1 := A.pure g1
    refine hp i W1 H1 σ ρ _ _ _ A1 h1 (fun W2 H2 s p t o g2 f h2 => ?_) ((kx.up g1.le).kx A1)
    have A2 := A1.pure g2
    refine hi W2 i.Z H2 σ ρ _ _ _ A2.rep h2 (fun W3 k uk fk H3 g3 rk h3 => ?_) ((kx.up (g1.le.trans g2.le)).kx A2)
    exact setQ_run (A2.pure g3) (f.pure g2.ok g3) rk ((hv.mono g2.le).mono g3.le) h3 fun H' ρ' A' h' => c.nx W3 H' σ ρ' ((g1.le.trans g2.le).trans g3.le) A' h') (kx.kx A)
def putFs (f : Str) : List Str → List Str
  | [] => [f]
  | k :: ks => if k = f then k :: ks else k :: putFs f ks
def putFv {α : Type} (f : Str) (u : α) : List Str → List α → List α
  | k :: ks, x :: us => if k = f then u :: us else x :: putFv f u ks us
  | _, _ => [u]
def fldQ (C : Addr) (f : Str) (ρ : Ev) (s : Nat) (pth : List Nat) (t : U) (y : U) (q : Ev → Prop) : Prop := match t with
  | .obj C' ks us => C' = C ∧ ks.length < 900 ∧ q (putU ρ s pth (.obj C' (putFs f ks) (putFv f y ks us)))
  | _ => False
abbrev sFld (C : Addr) (f : Str) (p : CP) (a : CE) : CS := fun d ρ e => a ρ (fun y => onD y fun y => p ρ (fun s pth t => fldQ C f ρ s pth t (.d y) d.nx) (xat e ρ)) (xat e ρ)
end
end Et
set_option Elab.async false
set_option linter.all false
set_option maxRecDepth 100000
set_option maxHeartbeats 4000000
namespace Et
open PySem PySem.Spec PyProof.Rows L2 Com Nd
open Dt (D Wd Vd VdA Le Ok Go Kv Ka Kb Kx KD XD SpD spOf SimR SimC SimSl SimE SimT SimA SimO SimI SimN SimIp ItD En toPy toPyA dOf dOfA nkK fEq fIn)
variable [Dt.Tb]
abbrev CX := Ev → (D → Ev → Prop) → XU → Prop
def KxX (i : In0) (W : Wd) (σ : L2.St) (E : XK) (e : XU) : Prop := ∀ W' H' ρ' C dx f v d, Le W W' → At i W' H' σ ρ' → H' dx = some (.xd [(f, v)]) → Vd W' v d → e C f d ρ' → E (.ref C) (some dx) H'
theorem KxX.up {i : In0} {W W1 : Wd} {σ : L2.St} {E : XK} {e : XU} (h : KxX i W σ E e) (l : Le W W1) : KxX i W1 σ E e := fun W' H' ρ' C dx f v d l1 => h W' H' ρ' C dx f v d (l.trans l1)
theorem KxX.kx {i : In0} {W : Wd} {H : Hp} {σ : L2.St} {ρ : Ev} {E : XK} {e : XU} (h : KxX i W σ E e) (A : At i W H σ ρ) : Kx W H E (xat e ρ) := fun W' H' C dx f v d g e1 hv h1 => h W' H' ρ C dx f v d g.le (A.pure g) e1 hv h1
theorem KxS.x {i : In0} {W : Wd} {σ : L2.St} {E : XK} {e : XU} (h : KxS i W E e) : KxX i W σ E e := fun W' H' ρ' => h W' H' σ ρ'
abbrev SpU := List U → (U → List U → Prop) → (Addr → Str → D → List U → Prop) → Prop
def spU (sp : SpU) : Sp := fun vs H Q E => ∃ W us fp q e, Ok W H ∧ RUs W H vs us fp ∧ fp.Nodup ∧ sp us q e ∧
  (∀ W' H' v u f0 us' fp', GoB (fun a => a ∈ fp) W H W' H' → RU W' H' v u f0 → RUs W' H' vs us' fp' → (f0 ++ fp').Nodup → (∀ a ∈ f0 ++ fp', a ∈ fp ∨ H a = none) → q u us' → Q v H') ∧
  ∀ W' H' C dx f v d us' fp', GoB (fun a => a ∈ fp) W H W' H' → H' dx = some (.xd [(f, v)]) → Vd W' v d → RUs W' H' vs us' fp' → fp'.Nodup → (∀ a ∈ fp', a ∈ fp ∨ H a = none) → e C f d us' → E (.ref C) (some dx) H'
end Et
set_option Elab.async false
set_option linter.all false
set_option maxRecDepth 100000
set_option maxHeartbeats 4000000
namespace Et
open PySem PySem.Spec PyProof.Rows L2 Com Nd
open Dt (D Wd Vd VdA Le Ok Go Kv Ka Kb Kx KD XD SpD spOf SimR SimC SimSl SimE SimT SimA SimO SimI SimN SimIp ItD En toPy toPyA dOf dOfA nkK fEq fIn)
variable [Dt.Tb]
abbrev CNU := Ev → (U → Prop) → XD → Prop
abbrev CAU := Ev → (List U → Prop) → XD → Prop
/-- a new tree -/
def SNU (E : XK) (te : TE) (m : CNU) : Prop := ∀ i W H σ ρ Q q e, At i W H σ ρ → m ρ q e → (∀ W' H' v u f0, GoB (fun _ => False) W H W' H' → RU W' H' v u f0 → f0.Nodup → (∀ a ∈ f0, H a = none) → q u → Q v H') → Kx W H E e → te σ H Q
section
variable {i : In0} {W W1 W2 W' : Wd} {H H1 H2 H' : Hp} {σ : L2.St} {ρ : Ev} {v : V} {u : U} {f0 : List Addr} {Z Z' : Addr → Prop} {E : XK} {e : XD}
theorem GoB.go (g : GoB (fun _ => False) W H W' H') : Go W H W' H' := ⟨g.le, g.gn, fun a o h => (g.fn a o h).imp id fun z => z.imp id fun z => z.elim id fun z => z.elim, fun b o e n => g.p b o e n fun z => z, g.ok⟩
theorem Rep.sub (R : Rep W Z H σ ρ) (h : ∀ a, Z a → Nod W H a → Z' a) : Rep W Z' H σ ρ := by
  obtain ⟨fp, h1, h2, h3⟩ := R.ex
  exact ⟨R.ok, R.len, fp, h1, fun k => ⟨(h2 k).1, fun a m => h a ((h2 k).2.1 a m) ((h2 k).2.2 a m), (h2 k).2.2⟩, h3⟩
end
section
variable {E : XK} {te ta tb ti to : TE} {aa : TA} {na : CA} {ma : CA} {n : Nat} {me : CE} {mn : CNU} {mu : CAU} {mp : CP} {K : PySem.W.Frag} {w : World} {ws : List Nat} {sp : SpU} {C : Addr}
theorem n_of (h : SN E te ma) : SNU E te (fun ρ q e => ma ρ (fun ds => q (.lst (ds.map .d))) e) := fun i W H σ ρ Q q e A hm k kx =>
  h W i.Z H σ ρ _ _ _ A.rep hm (fun W' H' p vs ds g hp e1 f1 n1 t1 h1 => k W' H' (.ref p) _ [p] (.of A.rep.ok g) (.lst e1 (RUs.ofVdA t1) f1 n1) (by simp) (fun a m => by rw [List.mem_singleton.mp m]; exact hp) h1) kx
abbrev sOwnU (j : Nat) (a : CNU) : CS := fun d ρ e => a ρ (fun u => d.nx (ρ.set j (some u))) (xat e ρ)
theorem s_ownU {j : Nat} (h : SNU E te mn) (hj : j ∈ ws := by decide) : SS ws E (tAsg te (gName j)) (sOwnU j mn) := fun i W H σ ρ D d e hw A hm c kx =>
  h i W H σ ρ _ _ _ A hm (fun W' H' v u f0 g r nd nw h1 => c.nx W' H' _ _ g.le ((New.of A g r nd nw).set (by rw [hw]; exact hj)) h1) (kx.kx A)
/-- the start without what is new -/
def In0.cut (i : In0) (W : Wd) (H : Hp) (f0 : List Addr) : In0 := ⟨W, H, fun a => i.Z a ∧ a ∉ f0, i.s0, i.ws⟩
theorem At.cut {i : In0} {W W' : Wd} {H H' : Hp} {σ : L2.St} {ρ : Ev} {f0 : List Addr} (A : At i W H σ ρ) (g : GoB (fun _ => False) W H W' H') (nw : ∀ a ∈ f0, H a = none) : At (i.cut W' H' f0) W' H' σ ρ := by
  have R : Rep W (fun a => i.Z a ∧ a ∉ f0) H σ ρ := A.rep.sub fun a z n => ⟨z, fun m => by
    obtain ⟨⟨o, e, _⟩, _⟩ := n
    rw [nw a m] at e; cases e⟩
  refine ⟨g.ok, .refl g.ok, (R.go g fun _ z => z.elim).sub fun a z _ => .inl z, A.un⟩
end
end Et
set_option Elab.async false
set_option linter.all false
set_option maxRecDepth 100000
set_option maxHeartbeats 4000000
namespace Et
open PySem PySem.Spec PyProof.Rows L2 Com Nd
open Dt (D Wd Vd VdA Le Ok Go Kv Ka Kb Kx KD XD SpD spOf SimR SimC SimSl SimE SimT SimA SimO SimI SimN SimIp ItD En toPy toPyA dOf dOfA nkK fEq fIn)
variable [Dt.Tb]
def startU (N : List Str) (us : List U) : Ev := us.map some ++ List.replicate (N.length - us.length) none
theorem start_getU {N : List Str} {us : List U} {k : Nat} {u : U} (h : (startU N us)[k]? = some (some u)) : us[k]? = some u := by
  unfold startU at h
  by_cases lt : k < (us.map some).length
  · rw [List.getElem?_append_left lt, List.getElem?_map] at h
    cases q : us[k]? with
    | none => rw [q] at h; cases h
    | some d => rw [q] at h; cases h; rfl
  · rw [List.getElem?_append_right (by omega)] at h
    have := List.mem_of_getElem? h
    cases (List.mem_replicate.mp this).2
theorem start_getV {N : List Str} {vs : List V} {k : Nat} {v : V} (h : vs[k]? = some v) : (L2.start N vs)[k]? = some (some v) := by
  unfold L2.start
  have := (List.getElem?_eq_some_iff.mp h).1
  rw [List.getElem?_append_left (by simpa using this), List.getElem?_map, h]
  rfl
theorem RUs.fps {W : Wd} {H : Hp} : ∀ {vs : List V} {us : List U} {fp : List Addr}, RUs W H vs us fp → fp.Nodup → ∃ f : Nat → List Addr, (∀ n u, us[n]? = some u → ∃ v, vs[n]? = some v ∧ RU W H v u (f n)) ∧ (∀ n, (f n).Nodup ∧ ∀ a ∈ f n, a ∈ fp) ∧ ∀ i j a, i ≠ j → a ∈ f i → a ∈ f j → False
  | _, _, _, .nil, _ => ⟨fun _ => [], fun n u h => by simp at h, fun _ => ⟨.nil, fun _ m => nomatch m⟩, fun _ _ _ _ m => nomatch m⟩
  | _, _, _, .cons (fp := fp) (fq := fq) r t, nd => by
    rw [List.nodup_append] at nd
    obtain ⟨f, h1, h2, h3⟩ := RUs.fps t nd.2.1
    refine ⟨fun n => match n with | 0 => fp | n + 1 => f n, fun n u h => ?_, fun n => ?_, fun i j a n m1 m2 => ?_⟩
    · cases n with
      | zero => cases h; exact ⟨_, rfl, r⟩
      | succ n => exact h1 n u (by simpa using h)
    · cases n with
      | zero => exact ⟨nd.1, fun a m => List.mem_append_left _ m⟩
      | succ n => exact ⟨(h2 n).1, fun a m => List.mem_append_right _ ((h2 n).2 a m)⟩
    · cases i with
      | zero =>
        cases j with
        | zero => exact n rfl
        | succ j => exact nd.2.2 a m1 a ((h2 j).2 a m2) rfl
      | succ i =>
        cases j with
        | zero => exact nd.2.2 a m2 a ((h2 i).2 a m1) rfl
        | succ j => exact h3 i j a (fun z => n (by rw [z])) m1 m2
theorem rep_startU {W : Wd} {H : Hp} {N : List Str} {vs : List V} {us : List U} {fp : List Addr} (k : Ok W H) (r : RUs W H vs us fp) (nd : fp.Nodup) : Rep W (fun a => a ∈ fp ∨ H a = none) H (L2.start N vs) (startU N us) := by
  obtain ⟨f, h1, h2, h3⟩ := r.fps nd
  refine ⟨k, by unfold L2.start startU; simp [r.len], f, fun n u h => ?_, fun n => ⟨(h2 n).1, fun a m => .inl ((h2 n).2 a m), fun a m => r.nod a ((h2 n).2 a m)⟩, h3⟩
  obtain ⟨v, e, ru⟩ := h1 n u (start_getU h)
  exact ⟨v, start_getV e, ru⟩
/-- the arguments as they are at the end -/
def back (ws : List Nat) : List U → Nat → Ev → Option (List U)
  | [], _, _ => some []
  | .d x :: us, k, ρ => match back ws us (k + 1) ρ with
    | some r => some (.d x :: r)
    | none => none
  | _ :: us, k, ρ => match ws.contains k, ρ[k]? with
    | false, some (some u) => (match back ws us (k + 1) ρ with
      | some r => some (u :: r)
      | none => none)
    | _, _ => none
theorem back_rus {W W' : Wd} {H H' : Hp} {ws : List Nat} {s0 σ : L2.St} {ρ : Ev} {f : Nat → List Addr} (l : Le W W') (h1 : ∀ j u, ρ[j]? = some (some u) → ∃ v, σ[j]? = some (some v) ∧ RU W' H' v u (f j)) (h2 : ∀ j, (f j).Nodup) (h3 : ∀ i j a, i ≠ j → a ∈ f i → a ∈ f j → False) (un : ∀ k : Nat, k ∉ ws → σ[k]? = s0[k]?) :
    ∀ {vs : List V} {us : List U} {fp : List Addr} (k : Nat) (us' : List U), RUs W H vs us fp → (∀ n v, vs[n]? = some v → s0[k + n]? = some (some v)) → back ws us k ρ = some us' → ∃ fp', RUs W' H' vs us' fp' ∧ fp'.Nodup ∧ ∀ a ∈ fp', ∃ j, k ≤ j ∧ a ∈ f j
  | _, _, _, k, us', .nil, _, e => by
    rw [back] at e
    cases e
    exact ⟨[], .nil, .nil, fun _ m => nomatch m⟩
  | v :: vs, u :: us, _, k, us', .cons (fp := fp1) r t, hs, e => by
    have hs' : ∀ n v, vs[n]? = some v → s0[k + 1 + n]? = some (some v) := fun n v q => by
      have := hs (n + 1) v (by simpa using q)
      rwa [show k + 1 + n = k + (n + 1) by omega]
    have own : (match ws.contains k, ρ[k]? with
        | false, some (some u) => (match back ws us (k + 1) ρ with
          | some r => some (u :: r)
          | none => none)
        | _, _ => none) = some us' → ∃ fp', RUs W' H' (v :: vs) us' fp' ∧ fp'.Nodup ∧ ∀ a ∈ fp', ∃ j, k ≤ j ∧ a ∈ f j := fun e => by
      split at e
      · rename_i u' c1 c2
        cases q : back ws us (k + 1) ρ with
        | none => rw [q] at e; cases e
        | some rr =>
          rw [q] at e
          cases e
          obtain ⟨fq, r2, n2, s2⟩ := back_rus l h1 h2 h3 un (k + 1) rr t hs' q
          obtain ⟨v', e1, ru⟩ := h1 k u' c2
          have nk : k ∉ ws := fun z => by rw [List.contains_iff_mem.mpr z] at c1; cases c1
          rw [un k nk] at e1
          have := hs 0 v rfl
          rw [Nat.add_zero] at this
          rw [this] at e1
          cases e1
          refine ⟨f k ++ fq, .cons ru r2, ?_, fun a m => ?_⟩
          · rw [List.nodup_append]
            refine ⟨h2 k, n2, fun a ha b hb z => ?_⟩
            obtain ⟨j, hj, mj⟩ := s2 b hb
            exact h3 k j a (by omega) ha (z ▸ mj)
          · rcases List.mem_append.mp m with m | m
            · exact ⟨k, Nat.le_refl _, m⟩
            · obtain ⟨j, hj, mj⟩ := s2 a m
              exact ⟨j, by omega, mj⟩
      · cases e
    cases u with
    | d x =>
      rw [back] at e
      cases q : back ws us (k + 1) ρ with
      | none => rw [q] at e; cases e
      | some rr =>
        rw [q] at e
        cases e
        obtain ⟨fq, r2, n2, s2⟩ := back_rus l h1 h2 h3 un (k + 1) rr t hs' q
        cases r with
        | d hv =>
          refine ⟨fq, ?_, n2, fun a m => ?_⟩
          · have := RUs.cons (RU.d (H := H') (hv.mono l)) r2
            simpa using this
          · obtain ⟨j, hj, mj⟩ := s2 a m
            exact ⟨j, by omega, mj⟩
    | lst _ => rw [back] at e; exact own e; all_goals (intros; rename_i z; cases z)
    | obj _ _ _ => rw [back] at e; exact own e; all_goals (intros; rename_i z; cases z)
    | dct _ _ _ _ => rw [back] at e; exact own e; all_goals (intros; rename_i z; cases z)
abbrev onBack (ws : List Nat) (us : List U) (ρ : Ev) (k : List U → Prop) : Prop := match back ws us 0 ρ with
  | some us' => k us'
  | none => False
def endU (ws : List Nat) (us : List U) (q : U → List U → Prop) : EndsU := ⟨fun ρ => onBack ws us ρ (q (.d .non)), fun u ρ => onBack ws us ρ (q u), fun _ => False, fun _ => False⟩
abbrev xendU (ws : List Nat) (us : List U) (e : Addr → Str → D → List U → Prop) : XU := fun C f d ρ => onBack ws us ρ (e C f d)
theorem body_runU {W : Wd} {H : Hp} {vs : List V} {us : List U} {fp : List Addr} {N : List Str} {ws : List Nat} {E : XK} {t : TS} {m : CS} {q : U → List U → Prop} {e : Addr → Str → D → List U → Prop} {Q : VK} (sm : SS ws E t m) (k0 : Ok W H) (r : RUs W H vs us fp) (nd : fp.Nodup) (hm : m (endU ws us q) (startU N us) (xendU ws us e))
    (kq : ∀ W' H' v u f0 us' fp', GoB (fun a => a ∈ fp) W H W' H' → RU W' H' v u f0 → RUs W' H' vs us' fp' → (f0 ++ fp').Nodup → (∀ a ∈ f0 ++ fp', a ∈ fp ∨ H a = none) → q u us' → Q v H')
    (kx : ∀ W' H' C dx f v d us' fp', GoB (fun a => a ∈ fp) W H W' H' → H' dx = some (.xd [(f, v)]) → Vd W' v d → RUs W' H' vs us' fp' → fp'.Nodup → (∀ a ∈ fp', a ∈ fp ∨ H a = none) → e C f d us' → E (.ref C) (some dx) H')
    (D : Ends) (h1 : D.nx = fun _ H' => Q .non H') (h2 : D.rt = Q) : t D (L2.start N vs) H := by
  refine sm ⟨W, H, fun a => a ∈ fp, L2.start N vs, ws⟩ W H _ _ D (endU ws us q) (xendU ws us e) rfl ⟨k0, .refl k0, rep_startU k0 r nd, fun _ _ => rfl⟩ hm ⟨fun W' H' σ' ρ' l A hn => ?_, fun W' H' σ' ρ' v u l N' hr => ?_, fun _ _ _ _ _ _ h => h.elim, fun _ _ _ _ _ _ h => h.elim⟩ fun W' H' σ' ρ' C dx f v d l A e1 hv he => ?_
  · rw [h1]
    have hn : onBack ws us ρ' (q (.d .non)) := hn
    unfold onBack at hn
    split at hn
    · rename_i us' e1
      obtain ⟨f, g1, g2, g3⟩ := A.rep.ex
      obtain ⟨fp', r', n', s'⟩ := back_rus l g1 (fun j => (g2 j).1) g3 A.un 0 us' r (fun n v e => by rw [Nat.zero_add]; exact start_getV e) e1
      exact kq W' H' .non (.d .non) [] us' fp' A.go (.d .non) r' n' (fun a m => by obtain ⟨j, _, mj⟩ := s' a m; exact (g2 j).2.1 a mj) hn
    · exact hn.elim
  · rw [h2]
    have hr : onBack ws us ρ' (q u) := hr
    unfold onBack at hr
    split at hr
    · rename_i us' e1
      obtain ⟨f, f0, t1, t2, t3, g1, g2, g3, g4⟩ := N'.tree
      obtain ⟨fp', r', n', s'⟩ := back_rus l g1 (fun j => (g2 j).1) g3 N'.un 0 us' r (fun n v e => by rw [Nat.zero_add]; exact start_getV e) e1
      refine kq W' H' v u f0 us' fp' N'.go t1 r' ?_ (fun a m => ?_) hr
      · rw [List.nodup_append]
        refine ⟨t2, n', fun a ha b hb z => ?_⟩
        obtain ⟨j, _, mj⟩ := s' b hb
        exact g4 j a ha (z ▸ mj)
      · rcases List.mem_append.mp m with m | m
        · exact t3 a m
        · obtain ⟨j, _, mj⟩ := s' a m
          exact (g2 j).2.1 a mj
    · exact hr.elim
  · have he : onBack ws us ρ' (e C f d) := he
    unfold onBack at he
    split at he
    · rename_i us' e2
      obtain ⟨f', g1, g2, g3⟩ := A.rep.ex
      obtain ⟨fp', r', n', s'⟩ := back_rus l g1 (fun j => (g2 j).1) g3 A.un 0 us' r (fun n v e => by rw [Nat.zero_add]; exact start_getV e) e2
      exact kx W' H' C dx f v d us' fp' A.go e1 hv r' n' (fun a m => by obtain ⟨j, _, mj⟩ := s' a m; exact (g2 j).2.1 a mj) he
    · exact he.elim
/-- a body over states, for a promise over data alone -/
def endE (q : KD) : EndsU := ⟨fun _ => q .non, fun u _ => onD u q, fun _ => False, fun _ => False⟩
abbrev xendE (e : XD) : XU := fun C f d _ => e C f d
theorem body_runE {W : Wd} {H : Hp} {vs : List V} {ds : List D} {N : List Str} {ws : List Nat} {E : XK} {t : TS} {m : CS} {q : KD} {e : XD} {Q : VK} (sm : SS ws E t m) (k0 : Ok W H) (r : VdA W vs ds) (hm : m (endE q) (startU N (ds.map .d)) (xendE e)) (kq : Kv W H Q q) (kx : Kx W H E e)
    (D : Ends) (h1 : D.nx = fun _ H' => Q .non H') (h2 : D.rt = Q) : t D (L2.start N vs) H := by
  refine sm ⟨W, H, fun _ => False, L2.start N vs, ws⟩ W H _ _ D (endE q) (xendE e) rfl ⟨k0, .refl k0, (rep_startU k0 (RUs.ofVdA (H := H) r) .nil).sub fun a z _ => z.elim (fun z => nomatch z) .inr, fun _ _ => rfl⟩ hm ⟨fun W' H' σ' ρ' l A hn => ?_, fun W' H' σ' ρ' v u l N' hr => ?_, fun _ _ _ _ _ _ h => h.elim, fun _ _ _ _ _ _ h => h.elim⟩ fun W' H' σ' ρ' C dx f v d l A e1 hv he => ?_
  · rw [h1]
    exact kq W' _ _ H' (GoB.go A.go) .non hn
  · rw [h2]
    obtain ⟨f, f0, t1, _⟩ := N'.tree
    obtain ⟨x, rfl, hv, hq⟩ := onD_of t1 hr
    exact kq W' v x H' (GoB.go N'.go) hv hq
  · exact kx W' H' C dx f v d (GoB.go A.go) e1 hv he
section
variable {P : Program} {w : World} {K : PySem.W.Frag} {mg : Str → Option Value} {base : Heap} {x qual : Str} {C : Addr} {st : Stmt} {ps N : List Str} {k : Nat} {sp : SpU} {sd : SpD} {ws : List Nat}
theorem DefAtU.ok (ws : List Nat) (D : DefAt K mg x st ps) (S : FnScope N ps (defScope st)) (len : ∀ us q e, sp us q e → us.length = ps.length)
    (hbody : ∀ (f : Addr) (cdv : Value) (A : Around) (outer : List Env) (s : Shared) (H : Hp) (E : XK), Room k (A.deeper (envOfC x (defScope st) s.heap.objs.size f cdv)) →
      ∃ t m, PSs (cxOf CX0 P w K mg base N x (defScope st) f cdv A outer s H E).nox (defBody st) t ∧ SS ws E t m ∧ ∀ us q e, sp us q e → m (endU ws us q) (startU N us) (xendU ws us e)) : DefOk P w K mg base CX0 (k + 1) x (spU sp) := by
  refine D.ok S (fun vs H Q E h => ?_) (fun f cdv A outer s H vs Q E hr h => ?_)
  · obtain ⟨W, us, fp, q, e, k0, r, nd, h, _⟩ := h
    rw [r.len, len us q e h]
  obtain ⟨W, us, fp, q, e, k0, r, nd, h, kq, kx⟩ := h
  obtain ⟨t', m, p, sm, hm⟩ := hbody f cdv A outer s H E hr
  exact ⟨t', p, body_runU sm k0 r nd (hm us q e h) kq kx _ rfl rfl⟩
theorem MethAtU.ok (ws : List Nat) (D : MethAt K C x qual st ps) (S : FnScope N ps (defScope st)) (len : ∀ us q e, sp us q e → us.length = ps.length)
    (hbody : ∀ (f : Addr) (cdv : Value) (A : Around) (outer : List Env) (s : Shared) (H : Hp) (E : XK), Room k (A.deeper (envOfC qual (defScope st) s.heap.objs.size f cdv)) →
      ∃ t m, PSs (cxOf CX0 P w K mg base N qual (defScope st) f cdv A outer s H E).nox (defBody st) t ∧ SS ws E t m ∧ ∀ us q e, sp us q e → m (endU ws us q) (startU N us) (xendU ws us e)) : MethOk P w K mg base CX0 (k + 1) C x (spU sp) := by
  refine D.fn S (fun vs H Q E h => ?_) (fun f cdv A outer s H vs Q E hr h => ?_)
  · obtain ⟨W, us, fp, q, e, k0, r, nd, h, _⟩ := h
    rw [r.len, len us q e h]
  obtain ⟨W, us, fp, q, e, k0, r, nd, h, kq, kx⟩ := h
  obtain ⟨t', m, p, sm, hm⟩ := hbody f cdv A outer s H E hr
  exact ⟨t', p, body_runU sm k0 r nd (hm us q e h) kq kx _ rfl rfl⟩
theorem DefAtE.ok (ws : List Nat) (D : DefAt K mg x st ps) (S : FnScope N ps (defScope st)) (len : ∀ ds q e, sd ds q e → ds.length = ps.length)
    (hbody : ∀ (f : Addr) (cdv : Value) (A : Around) (outer : List Env) (s : Shared) (H : Hp) (E : XK), Room k (A.deeper (envOfC x (defScope st) s.heap.objs.size f cdv)) →
      ∃ t m, PSs (cxOf CX0 P w K mg base N x (defScope st) f cdv A outer s H E).nox (defBody st) t ∧ SS ws E t m ∧ ∀ ds q e, sd ds q e → m (endE q) (startU N (ds.map .d)) (xendE e)) : DefOk P w K mg base CX0 (k + 1) x (spOf sd) := by
  refine D.ok S (fun vs H Q E h => ?_) (fun f cdv A outer s H vs Q E hr h => ?_)
  · obtain ⟨W, ds, q, e, k0, t, h, _⟩ := h
    rw [t.length, len ds q e h]
  obtain ⟨W, ds, q, e, k0, t, h, kq, kx⟩ := h
  obtain ⟨t', m, p, sm, hm⟩ := hbody f cdv A outer s H E hr
  exact ⟨t', p, body_runE sm k0 t (hm ds q e h) kq kx _ rfl rfl⟩
theorem MethAtE.ok (ws : List Nat) (D : MethAt K C x qual st ps) (S : FnScope N ps (defScope st)) (len : ∀ ds q e, sd ds q e → ds.length = ps.length)
    (hbody : ∀ (f : Addr) (cdv : Value) (A : Around) (outer : List Env) (s : Shared) (H : Hp) (E : XK), Room k (A.deeper (envOfC qual (defScope st) s.heap.objs.size f cdv)) →
      ∃ t m, PSs (cxOf CX0 P w K mg base N qual (defScope st) f cdv A outer s H E).nox (defBody st) t ∧ SS ws E t m ∧ ∀ ds q e, sd ds q e → m (endE q) (startU N (ds.map .d)) (xendE e)) : MethOk P w K mg base CX0 (k + 1) C x (spOf sd) := by
  refine D.fn S (fun vs H Q E h => ?_) (fun f cdv A outer s H vs Q E hr h => ?_)
  · obtain ⟨W, ds, q, e, k0, t, h, _⟩ := h
    rw [t.length, len ds q e h]
  obtain ⟨W, ds, q, e, k0, t, h, kq, kx⟩ := h
  obtain ⟨t', m, p, sm, hm⟩ := hbody f cdv A outer s H E hr
  exact ⟨t', p, body_runE sm k0 t (hm ds q e h) kq kx _ rfl rfl⟩
theorem FunE.ok (ws : List Nat) {f : Addr} {fd : FuncData} (F : Fun K x qual st f fd) (S : FnScope N ps (defScope st)) (len : ∀ ds q e, sd ds q e → ds.length = ps.length)
    (hbody : ∀ (cdv : Value) (A : Around) (outer : List Env) (s : Shared) (H : Hp) (E : XK), Room k (A.deeper (envOfC qual (defScope st) s.heap.objs.size f cdv)) →
      ∃ t m, PSs (cxOf CX0 P w K mg base N qual (defScope st) f cdv A outer s H E).nox (defBody st) t ∧ SS ws E t m ∧ ∀ ds q e, sd ds q e → m (endE q) (startU N (ds.map .d)) (xendE e)) : FnOk P w K mg base CX0 (k + 1) f fd ps (spOf sd) := by
  refine F.ok S (fun vs H Q E h => ?_) (fun cdv A outer s H vs Q E hr h => ?_)
  · obtain ⟨W, ds, q, e, k0, t, h, _⟩ := h
    rw [t.length, len ds q e h]
  obtain ⟨W, ds, q, e, k0, t, h, kq, kx⟩ := h
  obtain ⟨t', m, p, sm, hm⟩ := hbody cdv A outer s H E hr
  exact ⟨t', p, body_runE sm k0 t (hm ds q e h) kq kx _ rfl rfl⟩
theorem FunU.ok (ws : List Nat) {f : Addr} {fd : FuncData} (F : Fun K x qual st f fd) (S : FnScope N ps (defScope st)) (len : ∀ us q e, sp us q e → us.length = ps.length)
    (hbody : ∀ (cdv : Value) (A : Around) (outer : List Env) (s : Shared) (H : Hp) (E : XK), Room k (A.deeper (envOfC qual (defScope st) s.heap.objs.size f cdv)) →
      ∃ t m, PSs (cxOf CX0 P w K mg base N qual (defScope st) f cdv A outer s H E).nox (defBody st) t ∧ SS ws E t m ∧ ∀ us q e, sp us q e → m (endU ws us q) (startU N us) (xendU ws us e)) : FnOk P w K mg base CX0 (k + 1) f fd ps (spU sp) := by
  refine F.ok S (fun vs H Q E h => ?_) (fun cdv A outer s H vs Q E hr h => ?_)
  · obtain ⟨W, us, fp, q, e, k0, r, nd, h, _⟩ := h
    rw [r.len, len us q e h]
  obtain ⟨W, us, fp, q, e, k0, r, nd, h, kq, kx⟩ := h
  obtain ⟨t', m, p, sm, hm⟩ := hbody cdv A outer s H E hr
  exact ⟨t', p, body_runU sm k0 r nd (hm us q e h) kq kx _ rfl rfl⟩
theorem DefAtUX.ok (ws : List Nat) (D : DefAt K mg x st ps) (S : FnScope N ps (defScope st)) (len : ∀ us q e, sp us q e → us.length = ps.length)
    (hbody : ∀ (f : Addr) (cdv : Value) (A : Around) (outer : List Env) (s : Shared) (H : Hp) (E : XK), Room k (A.deeper (envOfC x (defScope st) s.heap.objs.size f cdv)) →
      ∃ t m, PSs (cxOf (L2.CX P w) P w K mg base N x (defScope st) f cdv A outer s H E) (defBody st) t ∧ SS ws E t m ∧ ∀ us q e, sp us q e → m (endU ws us q) (startU N us) (xendU ws us e)) : DefOk P w K mg base (L2.CX P w) (k + 1) x (spU sp) := by
  refine D.okX S (fun vs H Q E h => ?_) (fun f cdv A outer s H vs Q E hr h => ?_)
  · obtain ⟨W, us, fp, q, e, k0, r, nd, h, _⟩ := h
    rw [r.len, len us q e h]
  obtain ⟨W, us, fp, q, e, k0, r, nd, h, kq, kx⟩ := h
  obtain ⟨t', m, p, sm, hm⟩ := hbody f cdv A outer s H E hr
  exact ⟨t', p, body_runU sm k0 r nd (hm us q e h) kq kx _ rfl rfl⟩
theorem MethAtUX.ok (ws : List Nat) (D : MethAt K C x qual st ps) (S : FnScope N ps (defScope st)) (len : ∀ us q e, sp us q e → us.length = ps.length)
    (hbody : ∀ (f : Addr) (cdv : Value) (A : Around) (outer : List Env) (s : Shared) (H : Hp) (E : XK), Room k (A.deeper (envOfC qual (defScope st) s.heap.objs.size f cdv)) →
      ∃ t m, PSs (cxOf (L2.CX P w) P w K mg base N qual (defScope st) f cdv A outer s H E) (defBody st) t ∧ SS ws E t m ∧ ∀ us q e, sp us q e → m (endU ws us q) (startU N us) (xendU ws us e)) : MethOk P w K mg base (L2.CX P w) (k + 1) C x (spU sp) := by
  refine D.fnX S (fun vs H Q E h => ?_) (fun f cdv A outer s H vs Q E hr h => ?_)
  · obtain ⟨W, us, fp, q, e, k0, r, nd, h, _⟩ := h
    rw [r.len, len us q e h]
  obtain ⟨W, us, fp, q, e, k0, r, nd, h, kq, kx⟩ := h
  obtain ⟨t', m, p, sm, hm⟩ := hbody f cdv A outer s H E hr
  exact ⟨t', p, body_runU sm k0 r nd (hm us q e h) kq kx _ rfl rfl⟩
theorem DefAtEX.ok (ws : List Nat) (D : DefAt K mg x st ps) (S : FnScope N ps (defScope st)) (len : ∀ ds q e, sd ds q e → ds.length = ps.length)
    (hbody : ∀ (f : Addr) (cdv : Value) (A : Around) (outer : List Env) (s : Shared) (H : Hp) (E : XK), Room k (A.deeper (envOfC x (defScope st) s.heap.objs.size f cdv)) →
      ∃ t m, PSs (cxOf (L2.CX P w) P w K mg base N x (defScope st) f cdv A outer s H E) (defBody st) t ∧ SS ws E t m ∧ ∀ ds q e, sd ds q e → m (endE q) (startU N (ds.map .d)) (xendE e)) : DefOk P w K mg base (L2.CX P w) (k + 1) x (spOf sd) := by
  refine D.okX S (fun vs H Q E h => ?_) (fun f cdv A outer s H vs Q E hr h => ?_)
  · obtain ⟨W, ds, q, e, k0, t, h, _⟩ := h
    rw [t.length, len ds q e h]
  obtain ⟨W, ds, q, e, k0, t, h, kq, kx⟩ := h
  obtain ⟨t', m, p, sm, hm⟩ := hbody f cdv A outer s H E hr
  exact ⟨t', p, body_runE sm k0 t (hm ds q e h) kq kx _ rfl rfl⟩
end
end Et
set_option Elab.async false
set_option linter.all false
set_option maxRecDepth 100000
set_option maxHeartbeats 4000000
namespace Et
open PySem PySem.Spec PyProof.Rows L2 Com Nd
open Dt (D Wd Vd VdA Le Ok Go Kv Ka Kb Kx KD XD SpD spOf SimR SimC SimSl SimE SimT SimA SimO SimI SimN SimIp ItD En toPy toPyA dOf dOfA nkK fEq fIn)
variable [Dt.Tb]
theorem RUs.erase {W : Wd} {H : Hp} : ∀ {vs : List V} {us : List U} {fq : List Addr} (n : Nat), RUs W H vs us fq → fq.Nodup → ∃ g, RUs W H (vs.eraseIdx n) (us.eraseIdx n) g ∧ g.Nodup ∧ ∀ b ∈ g, b ∈ fq
  | _, _, _, n, .nil, nd => ⟨[], by simpa using RUs.nil, .nil, fun _ m => nomatch m⟩
  | v :: vs, u :: us, _, 0, .cons (fp := fp) (fq := fq) r t, nd => by
    rw [List.nodup_append] at nd
    exact ⟨fq, by simpa using t, nd.2.1, fun b m => List.mem_append_right _ m⟩
  | v :: vs, u :: us, _, n + 1, .cons (fp := fp) (fq := fq) r t, nd => by
    rw [List.nodup_append] at nd
    obtain ⟨g, r2, n2, s2⟩ := RUs.erase n t nd.2.1
    refine ⟨fp ++ g, by simpa using RUs.cons r r2, ?_, fun b m => (List.mem_append.mp m).elim (List.mem_append_left _) fun m => List.mem_append_right _ (s2 b m)⟩
    rw [List.nodup_append]
    exact ⟨nd.1, n2, fun a ha b hb => nd.2.2 a ha b (s2 b hb)⟩
end Et
set_option Elab.async false
set_option linter.all false
set_option maxRecDepth 100000
set_option maxHeartbeats 4000000
namespace Dt
open PySem PySem.Spec PyProof.Rows L2 Com Gn StV Sd Ext
end Dt
set_option Elab.async false
set_option linter.all false
set_option maxRecDepth 100000
set_option maxHeartbeats 4000000
namespace Et
open PySem PySem.Spec PyProof.Rows L2 Com Nd Gn
open Dt (D Wd Vd VdA Le Ok Go Kv Ka Kb Kx KD XD SpD spOf SimR SimC SimSl SimE SimT SimA SimO SimI SimN SimIp ItD En toPy toPyA dOf dOfA nkK fEq fIn)
variable [Dt.Tb]
section
variable {w : World} {ns : List Int} {i z : Int} {ρ : Ev} {s : Nat} {pth : List Nat}
theorem ixV_lst {us : List U} {q : U → Prop} : ixV w (.lst us) (.d (.int i)) q = (match atI us i with | some u => q u | none => False) := by unfold ixV; rfl
theorem go_l0U {a : U} {us : List U} {q : U → Prop} (h : q a) : ixV w (.lst (a :: us)) (.d (.int 0)) q := by
  rw [ixV_lst]
  show (match atI (a :: us) ((0 : Nat) : Int) with | some u => q u | none => False)
  rw [Dt.atI_of (i := 0) rfl]
  exact h
theorem go_ixAt {us : List U} {k : Nat} {u : U} {q : U → Prop} (hk : us[k]? = some u) (h : q u) : ixV w (.lst us) (.d (.int ((k : Nat) : Int))) q := by
  rw [ixV_lst]
  show (match atI us ((k : Nat) : Int) with | some u => q u | none => False)
  rw [Dt.atI_of hk]
  exact h
end
/-- a loop, by an invariant -/
theorem sloop_inv {g : CG} {b : CS} {d : EndsU} {e : XU} (Iv : Nat → Ev → Prop) : ∀ (xs : List D) (i : Nat) (ρ : Ev), Iv i ρ →
    (∀ (j : Nat) (x : D) (ρ : Ev) (N : Ev → Prop), xs[j]? = some x → Iv (i + j) ρ → (∀ ρ', Iv (i + j + 1) ρ' → N ρ') → g x ρ fun ρ' => b { nx := N, rt := d.rt, bk := d.nx, ct := N } ρ' e) → (∀ ρ, Iv (i + xs.length) ρ → d.nx ρ) → sLoop g b xs d ρ e
  | [], i, ρ, h0, hs, hd => hd ρ h0
  | x :: xs, i, ρ, h0, hs, hd => hs 0 x ρ _ rfl h0 fun ρ' h1 => sloop_inv Iv xs (i + 1) ρ' h1 (fun j x' ρ N e1 e2 e3 => by
      rw [show i + 1 + j = i + (j + 1) by omega] at e2 e3
      exact hs (j + 1) x' ρ N (by simpa using e1) e2 e3) fun ρ h => hd ρ (by rw [List.length_cons, show i + (xs.length + 1) = i + 1 + xs.length by omega]; exact h)
end Et
set_option Elab.async false
set_option linter.all false
set_option maxRecDepth 100000
set_option maxHeartbeats 4000000
namespace Dt
open PySem PySem.Spec PyProof.Rows L2 Com Gn StV Sd Ext
end Dt
namespace Et
open PySem PySem.Spec PyProof.Rows L2 Com Nd Gn
open Dt (D Wd Vd VdA Le Ok Go Kv Ka Kb Kx KD XD SpD spOf)
end Et
set_option Elab.async false
set_option linter.all false
set_option maxRecDepth 100000
set_option maxHeartbeats 4000000
namespace Et
open PySem PySem.Spec PyProof.Rows L2 Com Nd Gn
open Dt (D XD KD)
end Et
set_option Elab.async false
set_option linter.all false
set_option maxRecDepth 100000
set_option maxHeartbeats 4000000
namespace K12
open PySem PySem.Spec PyProof.Rows L2 Com Sd StV Gn Ext Dt
variable [Dt.Tb]
def top (i : Nat) : Stmt := PySem.Challenge.pw_callsthrough_k12_whole_strict_over_all_s.main.body.getD i (.Pass ⟨0, 0, 0, 0⟩)
structure Blt (mg : Str → Option Value) : Prop where
  z_len : mg "len" = none
  z_abs : mg "abs" = none
  z_int : mg "int" = none
  z_bool : mg "bool" = none
  z_tuple : mg "tuple" = none
  z_list : mg "list" = none
  z_str : mg "str" = none
  z_dict : mg "dict" = none
  z_isinstance : mg "isinstance" = none
  z_all : mg "all" = none
  z_any : mg "any" = none
  z_sum : mg "sum" = none
  z_range : mg "range" = none
  z_set : mg "set" = none
  z_sorted : mg "sorted" = none
  z_min : mg "min" = none
  z_max : mg "max" = none
  z_enumerate : mg "enumerate" = none
  z_reversed : mg "reversed" = none
  c_MOST_SWITCHES : ∃ t, mg "MOST_SWITCHES" = some (.int 4 t)
  c_MOST_DOORS : ∃ t, mg "MOST_DOORS" = some (.int 4 t)
  c_MOST_MIDDLES : ∃ t, mg "MOST_MIDDLES" = some (.int 7 t)
theorem r65 {k : Nat} {A : Around} (r : Room k A) : A.units + 65 < cLine := by have := r.un; omega
section
variable {P : Program} {w : World} {K : PySem.W.Frag} {mg : Str → Option Value} {base : Heap}
abbrev s_is_plain_int : Stmt := top 2
abbrev N_is_plain_int : List Str := ["value"]
theorem sc_is_plain_int : FnScope N_is_plain_int ["value"] (defScope s_is_plain_int) := ⟨rfl, rfl, rfl, by decide +kernel, rfl, by decide +kernel, by decide +kernel⟩
def sdPlain (K : PySem.W.Frag) : SpD := fun ds q _ => ∃ d, ds = [d] ∧ clsOk K d ∧ q (.bl (plainD d))
theorem ok_is_plain_int (T : Blt mg) (D : DefAt K mg "is_plain_int" s_is_plain_int ["value"]) : DefOk P w K mg base CX0 1 "is_plain_int" (spOf (sdPlain K)) := by
  refine DefAtD.ok D sc_is_plain_int (fun ds q e h => by obtain ⟨d, rfl, _⟩ := h; rfl) (fun f cdv A outer s H E hr => ⟨_, _, (pss_one (ps_ret (pe_and (pe_callB (cl_isi K) (by rfl) T.z_isinstance (by decide +kernel) (pa_cons (pv 0) (pa_cons (pe_bltn (v := .ty "int") (by rfl) T.z_int (by decide +kernel) rfl) pa_nil))) (pe_one (pe_not (pe_callB (cl_isi K) (by rfl) T.z_isinstance (by decide +kernel) (pa_cons (pv 0) (pa_cons (pe_bltn (v := .ty "bool") (by rfl) T.z_bool (by decide +kernel) rfl) pa_nil)))))))), (ss_ret (si_andV (si_isi (.ty "int") si_var) (si_notV (si_isi (.ty "bool") si_var)))), fun ds q e h => ?_⟩)
  obtain ⟨d, rfl, hc, h⟩ := h
  refine ⟨d, rfl, isi_go hc ⟨_, rfl, ?_⟩⟩
  have e1 := plain_isi d
  cases c : isiD "int" d with
  | true =>
    refine ⟨d, rfl, isi_go hc ⟨_, rfl, ?_⟩⟩
    rw [c, Bool.true_and] at e1
    rw [e1]
    exact h
  | false =>
    rw [c, Bool.false_and] at e1
    show q (.bl false)
    rw [e1]
    exact h
abbrev s_is_int_within : Stmt := top 3
abbrev N_is_int_within : List Str := ["value", "low", "high"]
theorem sc_is_int_within : FnScope N_is_int_within ["value", "low", "high"] (defScope s_is_int_within) := ⟨rfl, rfl, rfl, by decide +kernel, rfl, by decide +kernel, by decide +kernel⟩
def sdWithin (K : PySem.W.Frag) : SpD := fun ds q _ => ∃ d lo hi, ds = [d, .int lo, .int hi] ∧ clsOk K d ∧ q (.bl (withinD lo hi d))
theorem ok_is_int_within (T : Blt mg) (D_is_plain_int : DefOk P w K mg base CX0 1 "is_plain_int" (spOf (sdPlain K))) (D : DefAt K mg "is_int_within" s_is_int_within ["value", "low", "high"]) : DefOk P w K mg base CX0 2 "is_int_within" (spOf (sdWithin K)) := by
  refine DefAtD.ok D sc_is_int_within (fun ds q e h => by obtain ⟨d, lo, hi, rfl, _⟩ := h; rfl) (fun f cdv A outer s H E hr => ⟨_, _, (pss_one (ps_ret (pe_and (pe_def D_is_plain_int hr (by decide) passE (pa_cons (pv 0) pa_nil)) (pe_one (pe_chain op_le op_le (pv 1) (pv 0) (pv 2)))))), (ss_ret (si_andV (si_def (si_cons si_var si_nil)) (si_chain si_var si_var si_var sr_B0 sr_B0))), fun ds q e h => ?_⟩)
  obtain ⟨d, lo, hi, rfl, hc, h⟩ := h
  refine ⟨d, rfl, d, rfl, hc, _, rfl, ?_⟩
  cases d with
  | int i =>
    refine ⟨_, rfl, _, rfl, trivial, _, rfl, ?_⟩
    by_cases c : lo ≤ i
    · rw [decide_eq_true c]
      refine ⟨_, rfl, trivial, ?_⟩
      have e1 : withinD lo hi (.int i) = decide (i ≤ hi) := by show (decide (lo ≤ i) && decide (i ≤ hi)) = _; rw [decide_eq_true c, Bool.true_and]
      rw [e1] at h
      exact h
    · rw [decide_eq_false c]
      have e1 : withinD lo hi (.int i) = false := by show (decide (lo ≤ i) && decide (i ≤ hi)) = _; rw [decide_eq_false c, Bool.false_and]
      rw [e1] at h
      exact h
  | _ => exact h
/-- what the top has made of the class Exchange -/
structure ExC (K : PySem.W.Frag) (mg : Str → Option Value) (C : Addr) : Prop where
  t : ClsT K C
  nI : NoAttr K C "ins"
  nO : NoAttr K C "outs"
  nM : NoAttr K C "middles"
abbrev s_is_pair : Stmt := top 5
abbrev N_is_pair : List Str := ["exchange", "thing", "i", "o"]
theorem sc_is_pair : FnScope N_is_pair ["exchange", "thing"] (defScope s_is_pair) := ⟨rfl, rfl, rfl, by decide +kernel, rfl, by decide +kernel, by decide +kernel⟩
def sdIsPair (K : PySem.W.Frag) (C : Addr) : SpD := fun ds q _ => ∃ is os m d, ds = [exD C is os m, d] ∧ clsA K d ∧ q (.bl (isPairD is.length os.length d))
theorem ok_is_pair {C : Addr} (T : Blt mg) (X : ExC K mg C) (D_is_int_within : DefOk P w K mg base CX0 2 "is_int_within" (spOf (sdWithin K))) (D : DefAt K mg "is_pair" s_is_pair ["exchange", "thing"]) : DefOk P w K mg base CX0 3 "is_pair" (spOf (sdIsPair K C)) := by
  refine DefAtD.ok D sc_is_pair (fun ds q e h => by obtain ⟨_, _, _, _, rfl, _⟩ := h; rfl) (fun f cdv A outer s H E hr => ?_)
  have hu := hr.units
  refine ⟨_, _, (pss_cons (ps_if (PW.pt (pw_or (pt_not (pt_val (pe_callB (cl_isi K) (by rfl) T.z_isinstance (by decide +kernel) (pa_cons (pv 1) (pa_cons (pe_bltn (v := .ty "tuple") (by rfl) T.z_tuple (by decide +kernel) rfl) pa_nil))))) (pw_or1 (pt_cmpR (neD K hu) (pe_callB (cl_len K) (by rfl) T.z_len (by decide +kernel) (pa_cons (pv 1) pa_nil)) pe_int (nomark _)))))
      (pss_one (ps_ret pe_bl))
      pss_nil)
    (pss_cons (ps_asg (pv 1) (pgT K (pgs_cons (pg_name (i := 2) sc_is_pair.nd rfl (Or.inl rfl)) (pgs_cons (pg_name (i := 3) sc_is_pair.nd rfl (Or.inl rfl)) pgs_nil))))
    (pss_one (ps_ret (pe_and (pe_def D_is_int_within hr (by decide) passE (pa_cons (pv 2) (pa_cons pe_int (pa_cons (pe_op op_sub (pe_callB (cl_len K) (by rfl) T.z_len (by decide +kernel) (pa_cons (pe_fldK K (pv 0)) pa_nil)) pe_int) pa_nil)))) (pe_one (pe_def D_is_int_within hr (by decide) passE (pa_cons (pv 3) (pa_cons pe_int (pa_cons (pe_op op_sub (pe_callB (cl_len K) (by rfl) T.z_len (by decide +kernel) (pa_cons (pe_fldK K (pv 0)) pa_nil)) pe_int) pa_nil)))))))))), (ss_seq (ss_if (si_or (si_not (si_B (si_isi (.ty "tuple") si_var))) (si_test (si_op (si_cb (si_cons si_var si_nil) sc_len) si_int sr_ne)))
      (ss_ret si_bl)
      ss_nx)
    (ss_seq (ss_asg si_var (sg_tup (sg_cons sg_name (sg_cons sg_name sg_nil))))
    (ss_ret (si_andV (si_def (si_cons si_var (si_cons si_int (si_cons (si_op (si_cb (si_cons (si_fld X.t.cl X.nI si_var) si_nil) sc_len) si_int sr_I0) si_nil)))) (si_def (si_cons si_var (si_cons si_int (si_cons (si_op (si_cb (si_cons (si_fld X.t.cl X.nO si_var) si_nil) sc_len) si_int sr_I0) si_nil)))))))), fun ds q e h => ?_⟩
  obtain ⟨is, os, m, d, rfl, hc, h⟩ := h
  refine ⟨d, rfl, isi_go hc.ok ⟨_, rfl, ?_⟩⟩
  cases d with
  | tup xs =>
    refine ifFF ⟨_, rfl, go_lenT (go_neI ⟨_, rfl, ?_⟩)⟩
    by_cases c : ((xs.length : Nat) : Int) = 2
    · rw [decide_eq_true c]
      obtain ⟨a, b, rfl⟩ : ∃ a b, xs = [a, b] := by
        match xs, c with
        | [a, b], _ => exact ⟨a, b, rfl⟩
        | [], c => simp at c
        | [a], c => simp at c
        | a :: b :: c :: r, h => simp only [List.length_cons] at h; omega
      have ca := clsA.tup.mp hc a (by simp)
      have cb := clsA.tup.mp hc b (by simp)
      refine ifFF ⟨_, rfl, _, rfl, rfl, _, _, rfl, _, _, rfl, rfl, ?_⟩
      refine ⟨_, rfl, _, rfl, _, _, _, rfl, rfl, go_lenT ⟨trivial, _, _, _, rfl, ca.ok, _, rfl, ?_⟩⟩
      have e : isPairD is.length os.length (.tup [a, b]) = (withinD 0 ((is.length : Int) - 1) a && withinD 0 ((os.length : Int) - 1) b) := by
        unfold isPairD
        cases a with
        | int i =>
          cases b with
          | int o =>
            show (if 0 ≤ i ∧ i < (is.length : Int) ∧ 0 ≤ o ∧ o < (os.length : Int) then some (i, o) else none).isSome = ((decide (0 ≤ i) && decide (i ≤ (is.length : Int) - 1)) && (decide (0 ≤ o) && decide (o ≤ (os.length : Int) - 1)))
            by_cases c : 0 ≤ i ∧ i < (is.length : Int) ∧ 0 ≤ o ∧ o < (os.length : Int)
            · rw [if_pos c, decide_eq_true c.1, decide_eq_true (show i ≤ (is.length : Int) - 1 by omega), decide_eq_true c.2.2.1, decide_eq_true (show o ≤ (os.length : Int) - 1 by omega)]
              rfl
            · rw [if_neg c]
              symm
              show _ = false
              rw [Bool.eq_false_iff]
              intro h
              simp only [Bool.and_eq_true, decide_eq_true_eq] at h
              omega
          | _ => simp [pairOf, withinD]
        | _ => simp [pairOf, withinD]
      rw [e] at h
      have l1 : (is.map Dt.D.int).length = is.length := List.length_map ..
      have l2 : (os.map Dt.D.int).length = os.length := List.length_map ..
      rw [l1]
      cases c1 : withinD 0 ((is.length : Int) - 1) a with
      | true =>
        rw [c1, Bool.true_and] at h
        refine ifTT ⟨_, rfl, _, rfl, _, _, _, rfl, rfl, go_lenT ⟨trivial, _, _, _, rfl, cb.ok, ?_⟩⟩
        rw [l2]
        exact h
      | false =>
        rw [c1, Bool.false_and] at h
        exact ifFF h
    · rw [decide_eq_false c]
      have e : isPairD is.length os.length (.tup xs) = false := by
        unfold isPairD pairOf
        split
        · rename_i e
          cases e
          simp at c
        · rfl
      rw [e] at h
      exact ifTT h
  | _ => exact ifTT h
end
end K12
set_option Elab.async false
set_option linter.all false
set_option maxHeartbeats 4000000
namespace Bzm
open Sd Gn
/-- d times f k for the k-th d, but for the n-th -/
def rows (f : Nat → PP) (n : Nat) : Nat → List Int → List PP
  | _, [] => []
  | k, d :: ds => (if k = n then [] else List.replicate d.toNat (f k)) ++ rows f n (k + 1) ds
theorem rows_mem {f : Nat → PP} {n : Nat} {c : PP} : ∀ {k : Nat} {ds : List Int}, c ∈ rows f n k ds → ∃ j, c = f j ∧ j ≠ n ∧ k ≤ j ∧ j < k + ds.length
  | _, [], h => by simp [rows] at h
  | k, d :: ds, h => by
    rw [rows] at h
    rcases List.mem_append.mp h with h | h
    · by_cases c : k = n
      · rw [if_pos c] at h; simp at h
      · rw [if_neg c] at h
        exact ⟨k, (List.mem_replicate.mp h).2, c, Nat.le_refl _, by rw [List.length_cons]; omega⟩
    · obtain ⟨j, e, h1, h2, h3⟩ := rows_mem h
      exact ⟨j, e, h1, by omega, by rw [List.length_cons]; omega⟩
theorem rows_len {f : Nat → PP} {n : Nat} : ∀ {k : Nat} {ds : List Int}, (∀ d ∈ ds, 0 ≤ d) → ((rows f n k ds).length : Int) = ds.sum - (if k ≤ n ∧ n < k + ds.length then ds.getD (n - k) 0 else 0)
  | k, [], _ => by simp [rows]
  | k, d :: ds, h => by
    have h0 := h d (List.mem_cons_self ..)
    have ih := rows_len (f := f) (n := n) (k := k + 1) (ds := ds) fun x hx => h x (List.mem_cons_of_mem _ hx)
    rw [rows, List.length_append, List.sum_cons, List.length_cons, Int.natCast_add, ih]
    by_cases c : k = n
    · subst c
      rw [if_pos rfl, if_neg (by omega), if_pos ⟨Nat.le_refl _, by omega⟩, Nat.sub_self]
      simp
      omega
    · rw [if_neg c, List.length_replicate]
      by_cases c2 : k + 1 ≤ n ∧ n < k + 1 + ds.length
      · rw [if_pos c2, if_pos ⟨by omega, by omega⟩, show n - k = (n - (k + 1)) + 1 by omega, List.getD_cons_succ]
        omega
      · rw [if_neg c2, if_neg (by omega)]
        omega
theorem rows_count {f : Nat → PP} {n : Nat} {g : PP → Int} (hg : ∀ j, g (f j) = (j : Int)) : ∀ {k : Nat} {ds : List Int} {j : Nat}, k ≤ j → ((rows f n k ds).map g).count (j : Int) ≤ (ds.getD (j - k) 0).toNat
  | k, [], j, _ => by simp [rows]
  | k, d :: ds, j, h => by
    rw [rows, List.map_append, List.count_append]
    by_cases c : j = k
    · subst c
      have z : ((rows f n (j + 1) ds).map g).count (j : Int) = 0 := List.count_eq_zero.mpr fun hm => by
        obtain ⟨c, hc, e⟩ := List.mem_map.mp hm
        obtain ⟨i, rfl, _, h2, _⟩ := rows_mem hc
        rw [hg] at e
        omega
      rw [z, Nat.sub_self]
      by_cases c2 : j = n
      · rw [if_pos c2]; simp
      · rw [if_neg c2, List.map_replicate, hg, List.count_replicate_self]; simp
    · have z : ((if k = n then [] else List.replicate d.toNat (f k)).map g).count (j : Int) = 0 := List.count_eq_zero.mpr fun hm => by
        obtain ⟨c', hc, e⟩ := List.mem_map.mp hm
        by_cases c2 : k = n
        · rw [if_pos c2] at hc; simp at hc
        · rw [if_neg c2] at hc
          rw [(List.mem_replicate.mp hc).2, hg] at e
          omega
      have ih := rows_count (f := f) (n := n) hg (k := k + 1) (ds := ds) (j := j) (by omega)
      rw [z, show j - k = (j - (k + 1)) + 1 by omega, List.getD_cons_succ]
      omega
def lvL (es : List Int) (p : PP) : List PP := rows (fun j => (p.1, (j : Int))) p.2.toNat 0 es
def cmL (ds : List Int) (p : PP) : List PP := rows (fun j => ((j : Int), p.2)) p.1.toNat 0 ds
def lvT (ds es : List Int) (p : PP) : List PP := (lvL es p).take (ds.getD p.1.toNat 0 - 1).toNat
def cmT (ds es : List Int) (p : PP) : List PP := (cmL ds p).take (es.getD p.2.toNat 0 - 1).toNat
def both (ds es : List Int) (p : PP) : Int := min (ds.getD p.1.toNat 0 - 1 - (lvT ds es p).length) (es.getD p.2.toNat 0 - 1 - (cmT ds es p).length)
def busyL (ds es : List Int) (p : PP) : List PP := lvT ds es p ++ cmT ds es p ++ List.replicate (both ds es p).toNat p
theorem getD_in {ds : List Int} (g : Good ds) {i : Int} (h0 : 0 ≤ i) (h1 : i < ds.length) : 1 ≤ ds.getD i.toNat 0 ∧ ds.getD i.toNat 0 ≤ 4 := by
  have hl : i.toNat < ds.length := by omega
  rw [List.getD_eq_getElem?_getD, List.getElem?_eq_getElem hl]
  exact g.2.2 _ (List.getElem_mem hl)
section
variable {ds es : List Int} {p : PP}
theorem both_nn (gi : Good ds) (go : Good es) (hp : InP ds.length es.length p) : 0 ≤ both ds es p := by
  obtain ⟨h1, h2, h3, h4⟩ := hp
  have a := getD_in gi h1 h2
  have b := getD_in go h3 h4
  have l1 : (lvT ds es p).length ≤ (ds.getD p.1.toNat 0 - 1).toNat := by unfold lvT; rw [List.length_take]; omega
  have l2 : (cmT ds es p).length ≤ (es.getD p.2.toNat 0 - 1).toNat := by unfold cmT; rw [List.length_take]; omega
  unfold both
  omega
theorem busy_len (gi : Good ds) (go : Good es) (hp : InP ds.length es.length p) : ((busyL ds es p).length : Int) = bz ds es p := by
  have hb := both_nn gi go hp
  obtain ⟨h1, h2, h3, h4⟩ := hp
  have a := getD_in gi h1 h2
  have b := getD_in go h3 h4
  have e1 : ((lvL es p).length : Int) = es.sum - es.getD p.2.toNat 0 := by
    unfold lvL
    rw [rows_len (fun d hd => by have := (go.2.2 d hd).1; omega), if_pos ⟨Nat.zero_le _, by omega⟩, Nat.sub_zero]
  have e2 : ((cmL ds p).length : Int) = ds.sum - ds.getD p.1.toNat 0 := by
    unfold cmL
    rw [rows_len (fun d hd => by have := (gi.2.2 d hd).1; omega), if_pos ⟨Nat.zero_le _, by omega⟩, Nat.sub_zero]
  have l1 : ((lvT ds es p).length : Int) = min (ds.getD p.1.toNat 0 - 1) (es.sum - es.getD p.2.toNat 0) := by unfold lvT; rw [List.length_take]; omega
  have l2 : ((cmT ds es p).length : Int) = min (es.getD p.2.toNat 0 - 1) (ds.sum - ds.getD p.1.toNat 0) := by unfold cmT; rw [List.length_take]; omega
  unfold busyL bz bzI
  rw [List.length_append, List.length_append, List.length_replicate]
  unfold both at hb ⊢
  omega
theorem bz_nn (gi : Good ds) (go : Good es) (hp : InP ds.length es.length p) : 0 ≤ bz ds es p := by rw [← busy_len gi go hp]; omega
theorem busy_at {c : PP} (h : c ∈ busyL ds es p) : c.1 = p.1 ∨ c.2 = p.2 := by
  unfold busyL at h
  rcases List.mem_append.mp h with h | h
  · rcases List.mem_append.mp h with h | h
    · obtain ⟨j, rfl, _⟩ := rows_mem (List.mem_of_mem_take h)
      exact .inl rfl
    · obtain ⟨j, rfl, _⟩ := rows_mem (List.mem_of_mem_take h)
      exact .inr rfl
  · rw [(List.mem_replicate.mp h).2]
    exact .inl rfl
theorem busy_in (hp : InP ds.length es.length p) {c : PP} (h : c ∈ busyL ds es p) : InP ds.length es.length c := by
  obtain ⟨h1, h2, h3, h4⟩ := hp
  unfold busyL at h
  rcases List.mem_append.mp h with h | h
  · rcases List.mem_append.mp h with h | h
    · obtain ⟨j, rfl, _, _, hj⟩ := rows_mem (List.mem_of_mem_take h)
      exact ⟨h1, h2, by show (0 : Int) ≤ (j : Int); omega, by show (j : Int) < _; omega⟩
    · obtain ⟨j, rfl, _, _, hj⟩ := rows_mem (List.mem_of_mem_take h)
      exact ⟨by show (0 : Int) ≤ (j : Int); omega, by show (j : Int) < _; omega, h3, h4⟩
  · rw [(List.mem_replicate.mp h).2]
    exact ⟨h1, h2, h3, h4⟩
theorem cnt_take {α : Type} [BEq α] (l : List α) (n : Nat) (x : α) : (l.take n).count x ≤ l.count x := (List.take_sublist n l).count_le x
/-- the calls at the input switch j -/
theorem busy_c1 (gi : Good ds) (go : Good es) (hp : InP ds.length es.length p) (j : Nat) (hj : j < ds.length) : (((busyL ds es p).map (·.1)).count (j : Int) : Int) ≤ ds.getD j 0 ∧ ((j : Int) = p.1 → (((busyL ds es p).map (·.1)).count (j : Int) : Int) < ds.getD j 0) := by
  have hb := both_nn gi go hp
  obtain ⟨h1, h2, h3, h4⟩ := hp
  have a := getD_in gi h1 h2
  unfold busyL
  rw [List.map_append, List.map_append, List.count_append, List.count_append, List.map_replicate]
  have e1 : (lvT ds es p).map (·.1) = List.replicate (lvT ds es p).length p.1 := List.eq_replicate_iff.mpr ⟨by simp, fun b hb => by
    obtain ⟨c, hc, rfl⟩ := List.mem_map.mp hb
    obtain ⟨j, rfl, _⟩ := rows_mem (List.mem_of_mem_take hc)
    rfl⟩
  rw [e1]
  by_cases c : (j : Int) = p.1
  · have z : ((cmT ds es p).map (·.1)).count (j : Int) = 0 := List.count_eq_zero.mpr fun hm => by
      obtain ⟨c', hc, e⟩ := List.mem_map.mp hm
      obtain ⟨i, rfl, ne, _⟩ := rows_mem (List.mem_of_mem_take hc)
      have e : (i : Int) = (j : Int) := e
      omega
    rw [z, ← c, List.count_replicate_self, List.count_replicate_self]
    have : ds.getD j 0 = ds.getD p.1.toNat 0 := by rw [← c, Int.toNat_natCast]
    unfold both at hb ⊢
    refine ⟨by omega, fun _ => by omega⟩
  · have z1 : (List.replicate (lvT ds es p).length p.1).count (j : Int) = 0 := List.count_eq_zero.mpr fun hm => c (List.mem_replicate.mp hm).2
    have z2 : (List.replicate (both ds es p).toNat p.1).count (j : Int) = 0 := List.count_eq_zero.mpr fun hm => c (List.mem_replicate.mp hm).2
    rw [z1, z2]
    refine ⟨?_, fun e => absurd e c⟩
    have h5 := rows_count (f := fun j => ((j : Int), p.2)) (n := p.1.toNat) (g := (·.1)) (fun _ => rfl) (k := 0) (ds := ds) (j := j) (Nat.zero_le _)
    have h6 : ((cmT ds es p).map (·.1)).count (j : Int) ≤ ((cmL ds p).map (·.1)).count (j : Int) := by
      unfold cmT
      rw [List.map_take]
      exact cnt_take _ _ _
    have h7 : 1 ≤ ds.getD j 0 := by
      have := getD_in gi (i := (j : Int)) (by omega) (by omega)
      simpa using this.1
    have h5' : ((cmL ds p).map (·.1)).count (j : Int) ≤ (ds.getD (j - 0) 0).toNat := h5
    rw [Nat.sub_zero] at h5'
    omega
theorem busy_c2 (gi : Good ds) (go : Good es) (hp : InP ds.length es.length p) (j : Nat) (hj : j < es.length) : (((busyL ds es p).map (·.2)).count (j : Int) : Int) ≤ es.getD j 0 ∧ ((j : Int) = p.2 → (((busyL ds es p).map (·.2)).count (j : Int) : Int) < es.getD j 0) := by
  have hb := both_nn gi go hp
  obtain ⟨h1, h2, h3, h4⟩ := hp
  have a := getD_in go h3 h4
  unfold busyL
  rw [List.map_append, List.map_append, List.count_append, List.count_append, List.map_replicate]
  have e1 : (cmT ds es p).map (·.2) = List.replicate (cmT ds es p).length p.2 := List.eq_replicate_iff.mpr ⟨by simp, fun b hb => by
    obtain ⟨c, hc, rfl⟩ := List.mem_map.mp hb
    obtain ⟨j, rfl, _⟩ := rows_mem (List.mem_of_mem_take hc)
    rfl⟩
  rw [e1]
  by_cases c : (j : Int) = p.2
  · have z : ((lvT ds es p).map (·.2)).count (j : Int) = 0 := List.count_eq_zero.mpr fun hm => by
      obtain ⟨c', hc, e⟩ := List.mem_map.mp hm
      obtain ⟨i, rfl, ne, _⟩ := rows_mem (List.mem_of_mem_take hc)
      have e : (i : Int) = (j : Int) := e
      omega
    rw [z, ← c, List.count_replicate_self, List.count_replicate_self]
    have : es.getD j 0 = es.getD p.2.toNat 0 := by rw [← c, Int.toNat_natCast]
    unfold both at hb ⊢
    refine ⟨by omega, fun _ => by omega⟩
  · have z1 : (List.replicate (cmT ds es p).length p.2).count (j : Int) = 0 := List.count_eq_zero.mpr fun hm => c (List.mem_replicate.mp hm).2
    have z2 : (List.replicate (both ds es p).toNat p.2).count (j : Int) = 0 := List.count_eq_zero.mpr fun hm => c (List.mem_replicate.mp hm).2
    rw [z1, z2]
    refine ⟨?_, fun e => absurd e c⟩
    have h5 := rows_count (f := fun j => (p.1, (j : Int))) (n := p.2.toNat) (g := (·.2)) (fun _ => rfl) (k := 0) (ds := es) (j := j) (Nat.zero_le _)
    have h6 : ((lvT ds es p).map (·.2)).count (j : Int) ≤ ((lvL es p).map (·.2)).count (j : Int) := by
      unfold lvT
      rw [List.map_take]
      exact cnt_take _ _ _
    have h7 : 1 ≤ es.getD j 0 := by
      have := getD_in go (i := (j : Int)) (by omega) (by omega)
      simpa using this.1
    have h5' : ((lvL es p).map (·.2)).count (j : Int) ≤ (es.getD (j - 0) 0).toNat := h5
    rw [Nat.sub_zero] at h5'
    omega
/-- each busy call alone in a middle -/
def singles (B : List PP) : List (List PP) := B.map fun c => [c]
theorem singles_flat (B : List PP) : (singles B).flatten = B := by
  unfold singles
  induction B with
  | nil => rfl
  | cons c B ih => rw [List.map_cons, List.flatten_cons, ih]; rfl
theorem left_nn {ds is : List Int} (h : ∀ j, j < ds.length → ((is.count (j : Int) : Nat) : Int) ≤ ds.getD j 0) : ∀ d ∈ left ds is, 0 ≤ d := fun d hd => by
  obtain ⟨j, hj, e⟩ := List.mem_iff_getElem.mp hd
  have e2 : (left ds is)[j]? = some d := by rw [List.getElem?_eq_getElem hj, e]
  rw [left_get] at e2
  rw [left_len] at hj
  have := h j hj
  rw [List.getD_eq_getElem?_getD] at this
  cases q : ds[j]? with
  | none => rw [q] at e2; cases e2
  | some x =>
    rw [q] at e2 this
    cases e2
    have t : (((is.count (j : Int)) : Nat) : Int) ≤ x := this
    show 0 ≤ x - _
    omega
theorem singles_ok (gi : Good ds) (go : Good es) (hp : InP ds.length es.length p) {m : Int} (h0 : 0 ≤ m) (hm : m ≤ bz ds es p) : StdOk ds es m (singles ((busyL ds es p).take m.toNat)) where
  len := by
    have := busy_len gi go hp
    unfold singles
    rw [List.length_map, List.length_take]
    omega
  ld := fun L hL => by
    obtain ⟨c, hc, rfl⟩ := List.mem_map.mp hL
    have hc' := busy_in hp (List.mem_of_mem_take hc)
    exact ⟨fun q hq => by rw [List.mem_singleton.mp hq]; exact hc', by simp, by simp⟩
  ci := left_nn fun j hj => by
    unfold fs
    rw [singles_flat, List.map_take]
    have := (busy_c1 gi go hp j hj).1
    have := cnt_take ((busyL ds es p).map (·.1)) m.toNat (j : Int)
    omega
  co := left_nn fun j hj => by
    unfold sn
    rw [singles_flat, List.map_take]
    have := (busy_c2 gi go hp j hj).1
    have := cnt_take ((busyL ds es p).map (·.2)) m.toNat (j : Int)
    omega
theorem left_getD {ds is : List Int} {j : Nat} (hj : j < ds.length) : (left ds is).getD j 0 = ds.getD j 0 - ((is.count (j : Int) : Nat) : Int) := by
  rw [List.getD_eq_getElem?_getD, List.getD_eq_getElem?_getD, left_get, List.getElem?_eq_getElem hj]
  rfl
theorem singles_open (gi : Good ds) (go : Good es) (hp : InP ds.length es.length p) (m : Int) : openB ds es (singles ((busyL ds es p).take m.toNat)) p = true := by
  obtain ⟨h1, h2, h3, h4⟩ := id hp
  have a := (busy_c1 gi go hp p.1.toNat (by omega)).2 (by omega)
  have b := (busy_c2 gi go hp p.2.toNat (by omega)).2 (by omega)
  have c1 := cnt_take ((busyL ds es p).map (·.1)) m.toNat ((p.1.toNat : Nat) : Int)
  have c2 := cnt_take ((busyL ds es p).map (·.2)) m.toNat ((p.2.toNat : Nat) : Int)
  unfold openB
  rw [left_getD (by omega), left_getD (by omega)]
  unfold fs sn
  rw [singles_flat, List.map_take, List.map_take, decide_eq_true (by omega), decide_eq_true (by omega)]
  rfl
end
theorem len_take : ∀ (n : Nat) (es l : List Int), n ≤ es.length → (∀ x ∈ l, 0 ≤ x ∧ x < n) → (∀ j, j < n → ((l.count (j : Int) : Nat) : Int) ≤ es.getD j 0) → (l.length : Int) ≤ (es.take n).sum
  | 0, es, l, _, h, _ => by
    cases l with
    | nil => simp
    | cons x l => have := h x (List.mem_cons_self ..); omega
  | n + 1, es, l, hn, h, hc => by
    have e1 : l.length = (l.filter fun x => decide (x < (n : Int))).length + l.count (n : Int) := by
      clear hc
      induction l with
      | nil => rfl
      | cons x l ih =>
        have hx := h x (List.mem_cons_self ..)
        have ih := ih fun y hy => h y (List.mem_cons_of_mem _ hy)
        rw [List.filter_cons, List.count_cons]
        by_cases c : x < n
        · rw [if_pos (decide_eq_true c), List.length_cons, List.length_cons]
          have : ((x == (n : Int))) = false := by simp; omega
          rw [this]
          simp
          omega
        · rw [if_neg (by simpa using c), List.length_cons]
          have : ((x == (n : Int))) = true := by simp; omega
          rw [this]
          simp
          omega
    have ih := len_take n es (l.filter fun x => decide (x < (n : Int))) (by omega) (fun x hx => by
      rw [List.mem_filter, decide_eq_true_eq] at hx
      exact ⟨(h x hx.1).1, hx.2⟩) fun j hj => by
        have := hc j (by omega)
        have h2 : (l.filter fun x => decide (x < (n : Int))).count (j : Int) ≤ l.count (j : Int) := List.filter_sublist.count_le _
        omega
    have h1 := hc n (by omega)
    have e2 : (es.take (n + 1)).sum = (es.take n).sum + es.getD n 0 := by
      rw [List.getD_eq_getElem?_getD, List.getElem?_eq_getElem (by omega)]
      exact sum_take (List.getElem?_eq_getElem (by omega))
    omega
theorem len_le_sum {es l : List Int} (h : ∀ x ∈ l, 0 ≤ x ∧ x < es.length) (hc : ∀ j, j < es.length → ((l.count (j : Int) : Nat) : Int) ≤ es.getD j 0) : (l.length : Int) ≤ es.sum := by
  have := len_take es.length es l (Nat.le_refl _) h hc
  rwa [List.take_length] at this
theorem set_sum : ∀ {es : List Int} {n : Nat}, n < es.length → (es.set n 0).sum = es.sum - es.getD n 0
  | [], n, h => absurd h (Nat.not_lt_zero n)
  | d :: es, 0, _ => by simp; omega
  | d :: es, n + 1, h => by
    rw [List.set_cons_succ, List.sum_cons, List.sum_cons, List.getD_cons_succ, set_sum (by simpa using h)]
    omega
/-- all but one number -/
theorem len_but {es l : List Int} {o : Nat} (ho : o < es.length) (h : ∀ x ∈ l, 0 ≤ x ∧ x < es.length) (hc : ∀ j, j < es.length → ((l.count (j : Int) : Nat) : Int) ≤ es.getD j 0) : ((l.filter fun x => !decide (x = (o : Int))).length : Int) ≤ es.sum - es.getD o 0 := by
  rw [← set_sum ho]
  refine len_le_sum (fun x hx => by rw [List.length_set]; exact h x (List.mem_filter.mp hx).1) fun j hj => ?_
  rw [List.length_set] at hj
  by_cases c : j = o
  · subst c
    have z : (l.filter fun x => !decide (x = (j : Int))).count (j : Int) = 0 := List.count_eq_zero.mpr fun hm => by
      rw [List.mem_filter] at hm
      simp at hm
    rw [z, List.getD_eq_getElem?_getD, List.getElem?_set_self ho]
    decide
  · have h1 : (l.filter fun x => !decide (x = (o : Int))).count (j : Int) ≤ l.count (j : Int) := List.filter_sublist.count_le _
    have h2 := hc j hj
    rw [List.getD_eq_getElem?_getD, List.getElem?_set_ne (fun z => c z.symm), ← List.getD_eq_getElem?_getD]
    omega
theorem len_flat {Q : PP → Bool} : ∀ {S : List (List PP)}, (∀ L ∈ S, ∃ c ∈ L, Q c = true) → S.length ≤ (S.flatten.filter Q).length
  | [], _ => Nat.zero_le _
  | L :: S, h => by
    obtain ⟨c, hc, hq⟩ := h L (List.mem_cons_self ..)
    have ih := len_flat (S := S) fun M hM => h M (List.mem_cons_of_mem _ hM)
    rw [List.flatten_cons, List.filter_append, List.length_append, List.length_cons]
    have : 0 < (L.filter Q).length := List.length_pos_of_mem (List.mem_filter.mpr ⟨hc, hq⟩)
    omega
section
variable {ds es : List Int} {m : Int} {S : List (List PP)} {p : PP}
theorem cnt_of {ds is : List Int} (h : ∀ d ∈ left ds is, 0 ≤ d) (j : Nat) (hj : j < ds.length) : ((is.count (j : Int) : Nat) : Int) ≤ ds.getD j 0 := by
  have e : (left ds is)[j]? = some (ds.getD j 0 - ((is.count (j : Int) : Nat) : Int)) := by
    rw [left_get, List.getD_eq_getElem?_getD, List.getElem?_eq_getElem hj]
    rfl
  have := h _ (List.mem_of_getElem? e)
  omega
/-- a standing that bars an open call has at most bz many middles -/
theorem bars_le (hS : StdOk ds es m S) (hp : InP ds.length es.length p) (ho : openB ds es S p = true) (hf : frees S p = []) : m ≤ bz ds es p := by
  obtain ⟨h1, h2, h3, h4⟩ := hp
  have rng : ∀ c ∈ S.flatten, InP ds.length es.length c := fun c hc => by
    obtain ⟨L, hL, hc⟩ := List.mem_flatten.mp hc
    exact (hS.ld L hL).rng c hc
  unfold openB at ho
  rw [Bool.and_eq_true, decide_eq_true_eq, decide_eq_true_eq, left_getD (by omega), left_getD (by omega)] at ho
  have all : ∀ L ∈ S, ∃ c ∈ L, (decide (c.1 = p.1) || decide (c.2 = p.2)) = true := fun L hL => by
    obtain ⟨k, hk, e⟩ := List.mem_iff_getElem.mp hL
    have z : freeB (S.getD k []) p ≠ true := by
      unfold frees at hf
      rw [List.map_eq_nil_iff, List.filter_eq_nil_iff] at hf
      exact hf k (List.mem_range.mpr hk)
    rw [List.getD_eq_getElem?_getD, List.getElem?_eq_getElem hk, e] at z
    have z : ¬ (freeB L p = true) := z
    rw [freeB_iff] at z
    exact Classical.byContradiction fun w => z fun c hc => ⟨fun e => w ⟨c, hc, by simp [e]⟩, fun e => w ⟨c, hc, by simp [e]⟩⟩
  have len := len_flat all
  have lm := hS.len
  have c1 := cnt_of hS.ci
  have c2 := cnt_of hS.co
  have r1 : ∀ x ∈ fs S, 0 ≤ x ∧ x < ds.length := fun x hx => by
    obtain ⟨c, hc, rfl⟩ := List.mem_map.mp hx
    exact ⟨(rng c hc).1, (rng c hc).2.1⟩
  have r2 : ∀ x ∈ sn S, 0 ≤ x ∧ x < es.length := fun x hx => by
    obtain ⟨c, hc, rfl⟩ := List.mem_map.mp hx
    exact ⟨(rng c hc).2.2.1, (rng c hc).2.2.2⟩
  have b1 := len_but (o := p.1.toNat) (by omega) r1 c1
  have b2 := len_but (o := p.2.toNat) (by omega) r2 c2
  have e1 : ((p.1.toNat : Nat) : Int) = p.1 := by omega
  have e2 : ((p.2.toNat : Nat) : Int) = p.2 := by omega
  rw [e1] at b1 ho
  rw [e2] at b2 ho
  -- the three kinds of calls at the two switches
  have k1 : (S.flatten.filter fun c => (decide (c.1 = p.1) || decide (c.2 = p.2))).length = (S.flatten.filter fun c => decide (c.1 = p.1) && !decide (c.2 = p.2)).length + (S.flatten.filter fun c => !decide (c.1 = p.1) && decide (c.2 = p.2)).length + (S.flatten.filter fun c => decide (c.1 = p.1) && decide (c.2 = p.2)).length := by
    induction S.flatten with
    | nil => rfl
    | cons c l ih =>
      rw [List.filter_cons, List.filter_cons, List.filter_cons, List.filter_cons]
      by_cases a : c.1 = p.1 <;> by_cases b : c.2 = p.2 <;> simp [a, b] <;> omega
  have k2 : (fs S).count p.1 = (S.flatten.filter fun c => decide (c.1 = p.1) && !decide (c.2 = p.2)).length + (S.flatten.filter fun c => decide (c.1 = p.1) && decide (c.2 = p.2)).length := by
    unfold fs
    induction S.flatten with
    | nil => rfl
    | cons c l ih =>
      rw [List.filter_cons, List.filter_cons, List.map_cons, List.count_cons]
      by_cases a : c.1 = p.1 <;> by_cases b : c.2 = p.2 <;> simp [a, b] <;> omega
  have k3 : (sn S).count p.2 = (S.flatten.filter fun c => !decide (c.1 = p.1) && decide (c.2 = p.2)).length + (S.flatten.filter fun c => decide (c.1 = p.1) && decide (c.2 = p.2)).length := by
    unfold sn
    induction S.flatten with
    | nil => rfl
    | cons c l ih =>
      rw [List.filter_cons, List.filter_cons, List.map_cons, List.count_cons]
      by_cases a : c.1 = p.1 <;> by_cases b : c.2 = p.2 <;> simp [a, b] <;> omega
  have k4 : (S.flatten.filter fun c => decide (c.1 = p.1) && !decide (c.2 = p.2)).length ≤ ((sn S).filter fun x => !decide (x = p.2)).length := by
    unfold sn
    rw [List.filter_map, List.length_map]
    induction S.flatten with
    | nil => exact Nat.le_refl _
    | cons c l ih =>
      rw [List.filter_cons, List.filter_cons]
      by_cases a : c.1 = p.1 <;> by_cases b : c.2 = p.2 <;> simp [a, b] <;> omega
  have k5 : (S.flatten.filter fun c => !decide (c.1 = p.1) && decide (c.2 = p.2)).length ≤ ((fs S).filter fun x => !decide (x = p.1)).length := by
    unfold fs
    rw [List.filter_map, List.length_map]
    induction S.flatten with
    | nil => exact Nat.le_refl _
    | cons c l ih =>
      rw [List.filter_cons, List.filter_cons]
      by_cases a : c.1 = p.1 <;> by_cases b : c.2 = p.2 <;> simp [a, b] <;> omega
  unfold bz bzI
  omega
end
end Bzm
set_option Elab.async false
set_option linter.all false
set_option maxRecDepth 100000
set_option maxHeartbeats 4000000
namespace Nd
open PySem PySem.Spec PyProof.Rows L2 Com
end Nd
set_option Elab.async false
set_option linter.all false
set_option maxRecDepth 100000
set_option maxHeartbeats 4000000
namespace Dt
open PySem PySem.Spec PyProof.Rows L2 Com Gn StV Sd Ext Nd Et
variable [Dt.Tb]
section
variable {E : XK} {g : TG} {mg : MG} {is : List Nat} {ti : TI} {mi : MI} {tt : TT} {mt : MT} {tk tv : TE} {mk mv : ME} {w : World} {K : PySem.W.Frag}
/-- the dict under way -/
structure DcU (w : World) (Da : Addr) (W : Wd) (H : Hp) (ks : List NestedKey) (ds : List D) : Prop where
  ex : ∃ xs : List NX, H Da = some (DN w Da xs) ∧ xs.map (·.1) = ks ∧ VdA W (xs.map fun x => .ref x.2.1) (dOfA ks) ∧ VdA W (xs.map (·.2.2)) ds
  f : W.F Da = none
  n : ¬ W.G Da
theorem DcU.stay {w : World} {Da : Addr} {W3 W4 : Wd} {H3 H4 : Hp} {ks : List NestedKey} {ds : List D} (g4 : Go W3 H3 W4 H4) (u : DcU w Da W3 H3 ks ds) : DcU w Da W4 H4 ks ds := by
  obtain ⟨⟨xs, e3, e4, t3, t4⟩, f3, n3⟩ := u
  refine ⟨⟨xs, g4.p _ _ e3 n3, e4, t3.mono g4.le, t4.mono g4.le⟩, ?_, fun z => ?_⟩
  · cases z : W4.F Da with
    | none => rfl
    | some o =>
      rcases g4.fn Da o z with z | z | ⟨u, z, hs⟩
      · rw [f3] at z; cases z
      · rw [e3] at z; cases z
      · rw [e3] at z; cases z; exact (still_dn hs).elim
  · rcases g4.gn Da z with z | z
    · exact n3 z
    · rw [e3] at z; cases z
end
def nkP (p : PP) : NestedKey := .tup [.num p.1, .num p.2]
def nkL (L : List PP) : NestedKey := .tup (L.map nkP)
def nkS (S : List (List PP)) : NestedKey := .tup (S.map nkL)
theorem nkOfA_map {α : Type} {f : α → D} {g : α → NestedKey} (h : ∀ a, nkOf (f a) = some (g a)) : ∀ L : List α, nkOfA (L.map f) = some (L.map g)
  | [] => rfl
  | a :: L => by rw [List.map_cons, nkOfA, h a, nkOfA_map h L]; rfl
theorem nkOf_tup {ds : List D} {ks : List NestedKey} (h : nkOfA ds = some ks) : nkOf (.tup ds) = some (.tup ks) := by rw [nkOf, h]
theorem nk_pair (p : PP) : nkOf (Dt.pairD p) = some (nkP p) := rfl
theorem nk_ld (L : List PP) : nkOf (ldD L) = some (nkL L) := nkOf_tup (nkOfA_map nk_pair L)
theorem nk_st (S : List (List PP)) : nkOf (stD S) = some (nkS S) := nkOf_tup (nkOfA_map nk_ld S)
theorem map_inj {α β : Type} {f : α → β} (h : ∀ a b, f a = f b → a = b) : ∀ {l m : List α}, l.map f = m.map f → l = m
  | [], [], _ => rfl
  | [], _ :: _, e => by cases e
  | _ :: _, [], e => by cases e
  | a :: l, b :: m, e => by
    rw [List.map_cons, List.map_cons] at e
    injection e with e1 e2
    rw [h a b e1, map_inj h e2]
theorem nkP_inj : ∀ a b : PP, nkP a = nkP b → a = b := fun a b e => by
  obtain ⟨a1, a2⟩ := a
  obtain ⟨b1, b2⟩ := b
  unfold nkP at e
  injection e with e
  injection e with e1 e2
  injection e2 with e2 _
  injection e1 with e1
  injection e2 with e2
  have e1 : a1 = b1 := e1
  have e2 : a2 = b2 := e2
  rw [e1, e2]
theorem nkL_inj : ∀ a b : List PP, nkL a = nkL b → a = b := fun a b e => by
  unfold nkL at e
  injection e with e
  exact map_inj nkP_inj e
theorem nkS_inj : ∀ a b : List (List PP), nkS a = nkS b → a = b := fun a b e => by
  unfold nkS at e
  injection e with e
  exact map_inj nkL_inj e
theorem depth_map {α : Type} {g : α → NestedKey} {n : Nat} (h : ∀ a, (g a).depth ≤ n) : ∀ L : List α, NestedKey.depthAll (L.map g) ≤ n
  | [] => by rw [List.map_nil, NestedKey.depthAll]; omega
  | a :: L => by rw [List.map_cons, NestedKey.depthAll]; exact Nat.max_le.mpr ⟨h a, depth_map h L⟩
theorem depth_P (p : PP) : (nkP p).depth ≤ 2 := by unfold nkP; rw [NestedKey.depth, NestedKey.depthAll, NestedKey.depthAll, NestedKey.depthAll, NestedKey.depth, NestedKey.depth]; decide
theorem depth_L (L : List PP) : (nkL L).depth ≤ 3 := by unfold nkL; rw [NestedKey.depth]; have := depth_map depth_P L; omega
theorem depth_S (S : List (List PP)) : (nkS S).depth ≤ 8 := by unfold nkS; rw [NestedKey.depth]; have := depth_map depth_L S; omega
theorem keyOk_st {S : List (List PP)} {q : NestedKey → Prop} (h : q (nkS S)) : keyOk true (stD S) q := by
  unfold keyOk
  rw [nk_st]
  exact ⟨depth_S S, h⟩
end Dt
set_option Elab.async false
set_option linter.all false
set_option maxRecDepth 100000
set_option maxHeartbeats 4000000
namespace Srt2
open PySem PySem.Spec PyProof.Rows L2 Com
/-- sorted(xs), xs a list whose items are data of one form: a new list, its items in the order of data -/
def rSrtD (K : PySem.W.Frag) : List V → Hp → VK → Prop := fun vs H Q => ∃ (a : Addr) (bs : List (V × PyData)), vs = [.ref a] ∧ SqL K H a (bs.map (·.1)) ∧ (∀ b ∈ bs, Dp K H b.1 b.2) ∧ PySem.W.AllAlike (bs.map (·.2)) ∧ PySem.W.Sortable (bs.map (·.2)) ∧ (∀ b ∈ bs, b.2.depth ≤ 60) ∧
  ∀ p, H p = none → Q (.ref p) (upd H p (.lst ((bs.mergeSort (PySem.W.dataLe false (·.2))).map (·.1))))
theorem each_vals : ∀ {bs : List (V × PyData)} {us : List Value}, Vals (bs.map (·.1)) us → PySem.W.EachIs (fun v b => RelV b.1 v) us bs
  | [], _, .nil => .nil
  | _ :: _, _, .cons r t => .cons r (each_vals t)
theorem vals_each : ∀ {us : List Value} {bs : List (V × PyData)}, PySem.W.EachIs (fun v b => RelV b.1 v) us bs → Vals (bs.map (·.1)) us
  | _, _, .nil => .nil
  | _, _, .cons r t => .cons r (vals_each t)
theorem each_reads {X : Cx} {pins : List (Addr × Obj)} {σ : L2.St} {H : Hp} {s : Shared} (I : Inv X pins σ H s) : ∀ {bs : List (V × PyData)} {us : List Value}, Vals (bs.map (·.1)) us → (∀ b ∈ bs, Dp X.K H b.1 b.2) → PySem.W.EachIs (fun v b => ∃ as, Reads s.heap v b.2 as) us bs
  | [], _, .nil, _ => .nil
  | _ :: _, _, .cons r t, h => .cons (Dp.reads I _ _ _ (h _ (List.mem_cons_self ..)) r) (each_reads I t fun x hx => h x (List.mem_cons_of_mem _ hx))
theorem cr_srtD {X : Cx} (K : PySem.W.Frag) (hu : X.A.units + 64 < cLine) (hK : X.K = K := by rfl) : CallR X (.builtin "sorted") (rSrtD K) := by
  subst hK
  intro pins s σ H vs us Q I r h
  obtain ⟨a, bs, rfl, hs, hd, hal, hk, hdep, q⟩ := h
  obtain ⟨its, rv, hl, hz⟩ := I.list hs
  obtain ⟨u, rfl, ru⟩ := vals1 r
  obtain rfl : u = Value.ref a := ru
  rw [List.length_map] at hz
  refine PySem.W.sorted_data (enc := fun b : V × PyData => b.2) (R := fun v b => RelV b.1 v) hl.isList (each_vals rv) (each_reads I rv hd) hal hk hz (fun x hx => by have := hdep x hx; omega) fun out ho e => ?_
  obtain ⟨c, hc⟩ := sortedAll_at s.heap its out.toArray
  have hn : s.heap.objs.size ≤ s.heap.objs.size + 1 := Nat.le_succ _
  refine ⟨.ref (s.heap.objs.size + 1), upd H (s.heap.objs.size + 1) (.lst ((bs.mergeSort (PySem.W.dataLe false (·.2))).map (·.1))), I.laid (t' := s.toks) (fun _ _ => sortedAll_old) hn ⟨?_, out, c, vals_each e, hc⟩, rfl, q _ (I.hok.fresh hn)⟩
  rw [List.length_map, List.length_mergeSort]
  exact hz
end Srt2
namespace Dt
open PySem PySem.Spec PyProof.Rows L2 Com Gn StV Sd Ext Srt2
variable [Dt.Tb]
def pyOf (d : D) : PyData := (toPy d).getD .none
def leD (a b : D) : Bool := PySem.W.dataLe false id (pyOf a) (pyOf b)
/-- data in their order -/
def sortD (ds : List D) : List D := ds.mergeSort leD
def fSrtD (xs : List D) (q : KD) : Prop := ∃ ds, xs = [.lst ds] ∧ (∀ d ∈ ds, ∃ p, toPy d = some p ∧ p.depth ≤ 60) ∧ PySem.W.AllAlike (ds.map pyOf) ∧ PySem.W.Sortable (ds.map pyOf) ∧ q (.lst (sortD ds))
theorem vda_zip {W : Wd} {H : Hp} {K : PySem.W.Frag} (k : Ok W H) : ∀ {vs : List V} {ds : List D}, VdA W vs ds → (∀ d ∈ ds, ∃ p, toPy d = some p ∧ p.depth ≤ 60) → ∀ b ∈ (vs.zip ds).map (fun t => (t.1, pyOf t.2)), Dp K H b.1 b.2 ∧ b.2.depth ≤ 60
  | _, _, .nil, _, b, hb => nomatch hb
  | _, _, .cons (d := d) h t, hp, b, hb => by
    rcases List.mem_cons.mp hb with rfl | hb
    · obtain ⟨p, e, hd⟩ := hp d (List.mem_cons_self ..)
      have ep : pyOf d = p := by unfold pyOf; rw [e]; rfl
      refine ⟨?_, by show (pyOf d).depth ≤ 60; rw [ep]; exact hd⟩
      show Dp K H _ (pyOf d)
      rw [ep]
      exact dp_of k h e
    · exact vda_zip k t (fun d hd => hp d (List.mem_cons_of_mem _ hd)) b hb
theorem vda_zip1 {W : Wd} : ∀ {vs : List V} {ds : List D}, VdA W vs ds → (vs.zip ds).map (·.1) = vs ∧ (vs.zip ds).map (·.2) = ds ∧ ∀ t ∈ vs.zip ds, Vd W t.1 t.2
  | _, _, .nil => ⟨rfl, rfl, fun _ h => nomatch h⟩
  | _, _, .cons h t => by
    obtain ⟨a, b, c⟩ := vda_zip1 t
    refine ⟨by rw [List.zip_cons_cons, List.map_cons, a], by rw [List.zip_cons_cons, List.map_cons, b], fun x hx => ?_⟩
    rcases List.mem_cons.mp hx with rfl | hx
    · exact h
    · exact c x hx
theorem vda_of_zip {W : Wd} : ∀ {ts : List (V × D)}, (∀ t ∈ ts, Vd W t.1 t.2) → VdA W (ts.map (·.1)) (ts.map (·.2))
  | [], _ => .nil
  | _ :: _, h => .cons (h _ (List.mem_cons_self ..)) (vda_of_zip fun t ht => h t (List.mem_cons_of_mem _ ht))
theorem sc_srtD {K : PySem.W.Frag} : SimC (rSrtD K) fSrtD := fun W H xs ds Q q k hx h hk => by
  obtain ⟨es, rfl, hp, hal, hso, h⟩ := h
  obtain ⟨v, rfl, hv⟩ := one_of hx
  cases hv with
  | lst f t =>
    rename_i a vs
    obtain ⟨z1, z2, z3⟩ := vda_zip1 t
    have e1 : ((vs.zip es).map (fun t => (t.1, pyOf t.2))).map (·.1) = vs := by rw [List.map_map]; exact z1
    have e2 : ((vs.zip es).map (fun t => (t.1, pyOf t.2))).map (·.2) = es.map pyOf := by
      rw [List.map_map]
      have : (vs.zip es).map ((fun x : V × PyData => x.2) ∘ fun t : V × D => (t.1, pyOf t.2)) = ((vs.zip es).map (·.2)).map pyOf := by rw [List.map_map]; rfl
      rw [this, z2]
    refine ⟨a, (vs.zip es).map (fun t => (t.1, pyOf t.2)), rfl, by rw [e1]; exact SqL.of (k.f _ _ f), fun b hb => (vda_zip k t hp b hb).1, by rw [e2]; exact hal, by rw [e2]; exact hso, fun b hb => (vda_zip (K := K) k t hp b hb).2, fun p hpn => ?_⟩
    have m1 : ((vs.zip es).map (fun t => (t.1, pyOf t.2))).mergeSort (PySem.W.dataLe false (·.2)) = ((vs.zip es).mergeSort fun a b => leD a.2 b.2).map (fun t => (t.1, pyOf t.2)) := (List.map_mergeSort (f := fun t : V × D => (t.1, pyOf t.2)) (r := fun a b => leD a.2 b.2) (s := PySem.W.dataLe false (·.2)) (l := vs.zip es) (fun a _ b _ => rfl)).symm
    have m2 : sortD es = ((vs.zip es).mergeSort fun a b => leD a.2 b.2).map (·.2) := by
      have := (List.map_mergeSort (f := fun t : V × D => t.2) (r := fun a b => leD a.2 b.2) (s := leD) (l := vs.zip es) (fun a _ b _ => rfl)).symm
      rw [z2] at this
      exact this
    rw [m1, List.map_map]
    rw [m2] at h
    have tv := vda_of_zip (W := W) (ts := (vs.zip es).mergeSort fun a b => leD a.2 b.2) fun t ht => z3 t ((List.mergeSort_perm _ _).mem_iff.mp ht)
    exact hk _ _ _ _ (Go.put k hpn) (.lst (upd_same (H := W.F)) (tv.mono (Go.put k hpn).le)) h
  | _ => cases ‹_›
end Dt
set_option Elab.async false
set_option linter.all false
set_option maxRecDepth 100000
set_option maxHeartbeats 4000000
namespace Nd
open PySem PySem.Spec PyProof.Rows L2 Com
section
variable {X : Cx}
/-- {kx: vx} -/
def tDisp1 (w : World) (tk tv : TE) : TE := fun σ H Q => ∀ D, H D = none → tk σ (upd H D (DN w D [])) fun y H1 => tv σ H1 fun z H2 => ∃ k b, y = .ref b ∧ H2 D = some (DN w D []) ∧ KOk H2 k b ∧ Q (.ref D) (upd H2 D (DN w D [(k, b, z)]))
theorem pe_disp1 {kx vx : Expr} {pos : Pos} {tk tv : TE} (hu : X.A.units + 8 < cLine) (hk : PE X kx tk) (hv : PE X vx tv) : PE X (.Dict [some kx] [vx] pos) (tDisp1 X.w tk tv) := by
  refine ⟨fun pins s σ H Q I h => ?_⟩
  have h := h s.heap.objs.size (I.hok.fresh (Nat.le_refl _))
  have I0 : Inv X pins σ (upd H s.heap.objs.size (DN X.w s.heap.objs.size [])) { s with heap := s.heap.push { cls := .type "dict", data := .dict #[] } } :=
    I.laid (o := DN X.w s.heap.objs.size []) (t' := s.toks) (fun _ _ q => Heap.get?_push_of_some _ q) (Nat.le_refl _) (dn_ok (us := []) (beq_eq_false_iff_ne.mpr (Ne.symm (Nat.ne_of_lt I.big))) (fun _ h => nomatch h) (Nat.zero_le _) .nil (Heap.DictOfH.new s.heap))
  rw [arm_eval_Dict, show (evalEachOpt [some kx] X.env).zip ((evalEach [vx] X.env).map fun (v : Sem Value) => (do let x ← v; standAt pos; pure x : Sem Value)) = ([(eval kx X.env, (do let x ← eval vx X.env; standAt pos; pure x : Sem Value))] : List (Sem Value × Sem Value)).map (fun p => (some p.1, p.2)) from rfl, dictDisplay_pairs _ (by simp) (by show 1 < 17; decide)]
  refine wpAny_bind (wpAny_standAt (wpAny_bind (wpAny_subDictH (knd := nestedKind X.prog X.w) (Q := fun d t => wpAny (model X.prog X.w) X.A (pure (Value.ref d)) (EP X pins σ Q) X.xe t) hu (by show 1 ≤ 15; decide) ?_)))
  unfold evalPairs
  refine wpAny_bind (thn (hk.run pins _ σ _ _ I0 h) fun ku s1 ⟨y, H1, I1, ry, q1⟩ => ?_)
  refine wpAny_bind (wpAny_holding (wpAny_bind (thn (hv.run pins s1 σ H1 _ I1 q1) fun vu s2 ⟨z, H2, I2, rz, k, b, ey, hD, hb, q⟩ => wpAny_bind (wpAny_standAt (wpAny_pure ?_)))))
  subst ey
  cases ry
  refine wpAny_bind (wpAny_holding ?_)
  unfold evalPairs
  refine wpAny_pure (wpAny_pure ?_)
  obtain ⟨h1, _, _, us, r, d⟩ := dn_get I2 hD (fun _ h => nomatch h)
  cases r
  refine ⟨[(k, b, vu)], ⟨rfl, rfl, hb.is I2, trivial⟩, d, fun h' tk d2 hs => ?_⟩
  have he : ∃ o, h'.get? s.heap.objs.size = some o := let ⟨o, _, _, ho, _⟩ := d2; ⟨o, ho⟩
  exact wpAny_pure ⟨.ref s.heap.objs.size, _, d_write I2 (by rw [hD]; exact True.intro) hs he (dn_ok h1 (fun x hx => by rw [List.mem_singleton.mp hx]; exact hb.2) (by show 1 ≤ _; decide) (.cons ⟨rfl, rfl, rz⟩ .nil) d2), rfl, q⟩
end
end Nd
namespace Dt
open PySem PySem.Spec PyProof.Rows L2 Com Gn StV Sd Ext Nd Et
end Dt
set_option Elab.async false
set_option linter.all false
set_option maxRecDepth 100000
set_option maxHeartbeats 4000000
namespace Dt
open PySem PySem.Spec PyProof.Rows L2 Com Gn StV Sd
variable [Dt.Tb]
section
variable {E : XK} {K : PySem.W.Frag} {te ta ti : TE} {me ma mi : ME} {W W' : Wd} {H H0 H' : Hp} {σ : L2.St} {ρ : Ev} {a : Addr} {vs : List V} {ds : List D} {i : Nat}
theorem VdA.erase {W : Wd} : ∀ {vs : List V} {ds : List D} (n : Nat), VdA W vs ds → VdA W (vs.eraseIdx n) (ds.eraseIdx n)
  | _, _, _, .nil => .nil
  | _, _, 0, .cons _ t => t
  | _, _, n + 1, .cons g t => .cons g (VdA.erase n t)
end
end Dt
set_option Elab.async false
set_option linter.all false
set_option maxRecDepth 100000
set_option maxHeartbeats 4000000
namespace K12
open PySem PySem.Spec PyProof.Rows L2 Com Sd StV Gn Ext Dt
open Et (br_dec e_var e_int e_bl e_op e_nil e_cons e_tup e_cb e_test e_or e_def e_fld ixA e_ix cl_lenA e_len op_notInA e_notin t_name i_seq i_rng1 s_nx s_brk s_seq s_if s_ret s_for n_lst s_frz p_var go_upd s_app set_A s_set n_of s_ownU go_l0U go_ixAt U EndsU SpU spU endU xendU startU endE xendE br MethAtU.ok DefAtU.ok FunU.ok DefAtE.ok MethAtE.ok FunE.ok DefAtUX.ok MethAtUX.ok DefAtEX.ok CS CE CX sLoop sloop_inv ixV putU)
variable [Dt.Tb]
section
variable {P : Program} {w : World} {K : PySem.W.Frag} {mg : Str → Option Value} {base : Heap} {C : Addr}
abbrev s_Exchange_pairs : Stmt := inClass (top 22) 4
abbrev N_Exchange_pairs : List Str := ["self", "i", "o"]
theorem sc_Exchange_pairs : FnScope N_Exchange_pairs ["self"] (defScope s_Exchange_pairs) := ⟨rfl, rfl, rfl, by decide +kernel, rfl, by decide +kernel, by decide +kernel⟩
def sdPairs (C : Addr) : SpD := fun xs q _ => ∃ ds es m, xs = [exD C ds es m] ∧ ds.length ≤ 100 ∧ es.length ≤ 100 ∧ q (.lst ((pairsL ds.length es.length).map Dt.pairD))
theorem ok_pairs (T : Blt mg) (X : ExC K mg C) (Df : MethAt K C "pairs" "Exchange.pairs" s_Exchange_pairs ["self"]) : MethOk P w K mg base CX0 1 C "pairs" (spOf (sdPairs C)) := by
  refine MethAtD.ok Df sc_Exchange_pairs (fun ds q e h => by obtain ⟨_, _, _, rfl, _⟩ := h; rfl) (fun f cdv A outer s H E hr => ⟨_, _, (pss_one (ps_ret (pe_lc2 (own := [("i", 1), ("o", 2)]) (vs1 := [2]) (g := gName 1) (g1 := gName 2) (tt := tYes) (tt1 := tYes) rfl sc_Exchange_pairs.nd (pi_range1 (by rfl) T.z_range (pa_cons (pe_callB (cl_len K) (by rfl) T.z_len (by decide +kernel) (pa_cons (pe_fldK K (pv 0)) pa_nil)) pa_nil)) (blkOk_by (N := N_Exchange_pairs) (sc := defScope s_Exchange_pairs) (by decide +kernel)) (by decide) (fun _ _ _ _ _ => by exact (pg_name (i := 1) sc_Exchange_pairs.nd rfl (Or.inl rfl))) (fun _ _ _ _ _ => by exact pts_nil) (fun _ _ _ _ _ => by exact (pi_range1 (by rfl) T.z_range (pa_cons (pe_callB (cl_len K) (by rfl) T.z_len (by decide +kernel) (pa_cons (pe_fldK K (pv 0)) pa_nil)) pa_nil))) (fun _ _ _ _ _ => by exact (pg_name (i := 2) sc_Exchange_pairs.nd rfl (Or.inl rfl))) (fun _ _ _ _ _ => by exact pts_nil) (fun _ _ _ _ _ => by exact (pe_tup (pa_cons (pv 1) (pa_cons (pv 2) pa_nil))))))), (ss_ret (si_lc2 (si_rng1 (si_cons (si_cb (si_cons (si_fld X.t.cl X.nI si_var) si_nil) sc_len) si_nil)) sg_name si_yes (si_rng1 (si_cons (si_cb (si_cons (si_fld X.t.cl X.nO si_var) si_nil) sc_len) si_nil)) sg_name si_yes (si_tup (si_cons si_var (si_cons si_var si_nil))) (by decide) (by decide))), fun ds q e h => ?_⟩)
  obtain ⟨ds, es, m, rfl, l1, l2, h⟩ := h
  have e1 : ∀ ns : List Int, ((((ns.map Dt.D.int).length : Nat) : Int)).toNat = ns.length := fun ns => by rw [List.length_map]; omega
  refine ⟨_, rfl, _, _, _, rfl, rfl, go_lenT ⟨_, rfl, by rw [List.length_map]; omega, by omega, ?_⟩⟩
  rw [e1]
  have hfm : ((List.range ds.length).map fun (i : Nat) => Dt.D.int (i : Int)).flatMap (fun d => match d with | .int i => (rowL i.toNat es.length).map Dt.pairD | _ => []) = (pairsL ds.length es.length).map Dt.pairD := by
    unfold pairsL
    rw [List.flatMap_map, List.map_flatMap]
    rfl
  refine lc2_flat (fun d => match d with | .int i => (rowL i.toNat es.length).map Dt.pairD | _ => []) _ [] ?_ (fun d hd acc Q hl hQ => ?_) ?_
  · rw [hfm, List.length_map, pairsL_len]
    have : ds.length * es.length ≤ 100 * 100 := Nat.mul_le_mul l1 l2
    show 0 + _ ≤ _
    omega
  · obtain ⟨i, _, rfl⟩ := List.mem_map.mp hd
    refine ⟨_, rfl, _, _, _, rfl, rfl, go_lenT ⟨_, rfl, by rw [List.length_map]; omega, by omega, ?_⟩⟩
    rw [e1]
    refine lcL_map (fun d => .tup [.int (i : Int), d]) _ acc (by rw [List.length_map, List.length_range]; rw [List.length_map, rowL_len] at hl; exact hl) (fun d hd Q2 h2 => ?_) ?_
    · obtain ⟨j, _, rfl⟩ := List.mem_map.mp hd
      exact ⟨_, rfl, _, rfl, (by show 2 ≤ sizeLine; decide), h2⟩
    · have e2 : (List.map (fun d => Dt.D.tup [Dt.D.int (i : Int), d]) ((List.range es.length).map fun (j : Nat) => Dt.D.int (j : Int))) = (rowL ((i : Int).toNat) es.length).map Dt.pairD := by
        unfold rowL
        rw [List.map_map, List.map_map]
        rfl
      rw [e2]
      exact hQ
  · rw [List.nil_append, hfm]
    exact h
/-- an exchange as it is made -/
structure GE (ds es : List Int) (m : Int) : Prop where
  gi : Good ds
  go : Good es
  m1 : 1 ≤ m
  m2 : m ≤ 7
abbrev s_check_pair : Stmt := top 11
abbrev N_check_pair : List Str := ["exchange", "pair"]
theorem sc_check_pair : FnScope N_check_pair ["exchange", "pair"] (defScope s_check_pair) := ⟨rfl, rfl, rfl, by decide +kernel, rfl, by decide +kernel, by decide +kernel⟩
def sdChkP (C : Addr) : SpD := fun xs q _ => ∃ ds es m p, xs = [exD C ds es m, Dt.pairD p] ∧ InP ds.length es.length p ∧ q .non
theorem ok_check_pair (T : Blt mg) (X : ExC K mg C) (D_is_pair : DefOk P w K mg base CX0 3 "is_pair" (spOf (sdIsPair K C))) (Df : DefAt K mg "check_pair" s_check_pair ["exchange", "pair"]) : DefOk P w K mg base CX0 4 "check_pair" (spOf (sdChkP C)) := by
  refine DefAtD.ok Df sc_check_pair (fun ds q e h => by obtain ⟨_, _, _, _, rfl, _⟩ := h; rfl) (fun f cdv A outer s H E hr => ⟨_, _, (pss_one (ps_if (pt_not (pt_val (pe_def D_is_pair hr (by decide) passE (pa_cons (pv 0) (pa_cons (pv 1) pa_nil)))))
      (pss_one ps_never)
      pss_nil)), (ss_if (si_not (si_B (si_def (si_cons si_var (si_cons si_var si_nil)))))
      ss_never
      ss_nx), fun ds q e h => ?_⟩)
  obtain ⟨ds, es, m, p, rfl, hp, h⟩ := h
  refine ⟨_, rfl, _, rfl, ds, es, m, _, rfl, cls_pair, _, rfl, ?_⟩
  rw [isPair_ok hp]
  exact h
end
section
variable {P : Program} {w : World} {K : PySem.W.Frag} {mg : Str → Option Value} {base : Heap} {C : Addr}
abbrev s_busy_calls : Stmt := top 14
abbrev N_busy_calls : List Str := ["exchange", "pair", "i", "o", "in_doors", "out_doors", "leaving", "other", "doors", "_", "coming", "both"]
theorem sc_busy_calls : FnScope N_busy_calls ["exchange", "pair"] (defScope s_busy_calls) := ⟨rfl, rfl, rfl, by decide +kernel, rfl, by decide +kernel, by decide +kernel⟩
def sdBusyCalls (C : Addr) : SpD := fun xs q _ => ∃ ds es m p, xs = [exD C ds es m, Dt.pairD p] ∧ GE ds es m ∧ InP ds.length es.length p ∧ q (.lst ((Bzm.busyL ds es p).map Dt.pairD))
/-- the row of one switch -/
def rowF (n : Int) (g : Int → PP) : Dt.D → List Dt.D
  | .tup [.int j, .int d] => if j = n then [] else (List.replicate d.toNat (g j)).map Dt.pairD
  | _ => []
theorem rowF_all {n : Int} {g : Int → PP} {f : Nat → PP} (hg : ∀ j : Nat, g (j : Int) = f j) (hn : 0 ≤ n) : ∀ (ds : List Int) (k : Nat), (enumD k (ds.map .int)).flatMap (rowF n g) = (Bzm.rows f n.toNat k ds).map Dt.pairD
  | [], k => rfl
  | d :: ds, k => by
    rw [List.map_cons, enumD, List.flatMap_cons, rowF_all hg hn ds (k + 1), Bzm.rows, List.map_append]
    congr 1
    show (if (k : Int) = n then [] else (List.replicate d.toNat (g (k : Int))).map Dt.pairD) = _
    by_cases c : (k : Int) = n
    · rw [if_pos c, if_pos (by omega)]
      rfl
    · rw [if_neg c, if_neg (by omega), hg]
theorem mem_enum {ds : List Int} {d : Dt.D} : ∀ {k : Nat}, d ∈ enumD k (ds.map .int) → ∃ (j : Nat) (x : Int), d = .tup [.int (j : Int), .int x] ∧ x ∈ ds := by
  induction ds with
  | nil => intro k h; simp [enumD] at h
  | cons x ds ih =>
    intro k h
    rw [List.map_cons, enumD] at h
    rcases List.mem_cons.mp h with rfl | h
    · exact ⟨k, x, rfl, List.mem_cons_self ..⟩
    · obtain ⟨j, y, e, hm⟩ := ih h
      exact ⟨j, y, e, List.mem_cons_of_mem _ hm⟩
theorem rows_small {ds : List Int} (g : Good ds) (f : Nat → PP) (n : Nat) : (Bzm.rows f n 0 ds).length ≤ 16 := by
  have h := Bzm.rows_len (f := f) (n := n) (k := 0) (ds := ds) fun d hd => by have := (g.2.2 d hd).1; omega
  have h2 := sum_le4 (l := ds) g.2.2
  have := g.2.1
  have h3 : 0 ≤ (if 0 ≤ n ∧ n < 0 + ds.length then ds.getD (n - 0) 0 else 0) := by
    split
    · rename_i c
      have := Bzm.getD_in g (i := (n : Int)) (by omega) (by omega)
      simpa using Int.le_trans (by decide) this.1
    · exact Int.le_refl _
  omega
theorem ok_busy_calls (T : Blt mg) (X : ExC K mg C) (Df : DefAt K mg "_busy_calls" s_busy_calls ["exchange", "pair"]) : DefOk P w K mg base CX0 1 "_busy_calls" (spOf (sdBusyCalls C)) := by
  refine DefAtD.ok Df sc_busy_calls (fun ds q e h => by obtain ⟨_, _, _, _, rfl, _⟩ := h; rfl) (fun f cdv A outer s H E hr => ?_)
  have hu := hr.units
  refine ⟨_, _, (pss_cons (ps_asg (pv 1) (pgT K (pgs_cons (pg_name (i := 2) sc_busy_calls.nd rfl (Or.inr rfl)) (pgs_cons (pg_name (i := 3) sc_busy_calls.nd rfl (Or.inr rfl)) pgs_nil))))
    (pss_cons (ps_par (i := 4) (j := 5) rfl sc_busy_calls.nd rfl rfl (by decide) rfl rfl (pa_cons (pe_op op_sub (pe_ix (ixU K) (pe_fldK K (pv 0)) (pv 2) (fun _ _ => rfl)) pe_int) (pa_cons (pe_op op_sub (pe_ix (ixU K) (pe_fldK K (pv 0)) (pv 3) (fun _ _ => rfl)) pe_int) pa_nil)) rfl)
    (pss_cons (ps_setLc2 (i := 6) (own := [("other", 7), ("doors", 8), ("_", 9)]) (vs1 := [9]) (g := gTup K 2 (gCons (gName 7) (gCons (gName 8) gNil))) (g1 := gName 9) (tt := _) (tt1 := tYes) rfl sc_busy_calls.nd rfl rfl (sw_true rfl rfl rfl (by decide +kernel)) (pi_enumU K (by rfl) T.z_enumerate (pa_cons (pe_fldK K (pv 0)) pa_nil)) (blkOk_by (N := N_busy_calls) (sc := defScope s_busy_calls) (by decide +kernel)) (by decide) (fun _ _ _ _ _ => by exact (pgT K (pgs_cons (pg_name (i := 7) sc_busy_calls.nd rfl (Or.inl rfl)) (pgs_cons (pg_name (i := 8) sc_busy_calls.nd rfl (Or.inl rfl)) pgs_nil)))) (fun _ _ _ _ _ => by exact (pts_one (pt_cmpR (neD K hu) (pv 7) (pv 3) (nomark _)))) (fun _ _ _ _ _ => by exact (pi_range1 (by rfl) T.z_range (pa_cons (pv 8) pa_nil))) (fun _ _ _ _ _ => by exact (pg_name (i := 9) sc_busy_calls.nd rfl (Or.inl rfl))) (fun _ _ _ _ _ => by exact pts_nil) (fun _ _ _ _ _ => by exact (pe_tup (pa_cons (pv 2) (pa_cons (pv 7) pa_nil)))))
    (pss_cons (ps_setLc2 (i := 10) (own := [("other", 7), ("doors", 8), ("_", 9)]) (vs1 := [9]) (g := gTup K 2 (gCons (gName 7) (gCons (gName 8) gNil))) (g1 := gName 9) (tt := _) (tt1 := tYes) rfl sc_busy_calls.nd rfl rfl (sw_true rfl rfl rfl (by decide +kernel)) (pi_enumU K (by rfl) T.z_enumerate (pa_cons (pe_fldK K (pv 0)) pa_nil)) (blkOk_by (N := N_busy_calls) (sc := defScope s_busy_calls) (by decide +kernel)) (by decide) (fun _ _ _ _ _ => by exact (pgT K (pgs_cons (pg_name (i := 7) sc_busy_calls.nd rfl (Or.inl rfl)) (pgs_cons (pg_name (i := 8) sc_busy_calls.nd rfl (Or.inl rfl)) pgs_nil)))) (fun _ _ _ _ _ => by exact (pts_one (pt_cmpR (neD K hu) (pv 7) (pv 2) (nomark _)))) (fun _ _ _ _ _ => by exact (pi_range1 (by rfl) T.z_range (pa_cons (pv 8) pa_nil))) (fun _ _ _ _ _ => by exact (pg_name (i := 9) sc_busy_calls.nd rfl (Or.inl rfl))) (fun _ _ _ _ _ => by exact pts_nil) (fun _ _ _ _ _ => by exact (pe_tup (pa_cons (pv 7) (pa_cons (pv 3) pa_nil)))))
    (pss_cons (ps_par (i := 6) (j := 10) rfl sc_busy_calls.nd rfl rfl (by decide) rfl rfl (pa_cons (pe_slice (slU K) (pv 6) po_none (po_some (pv 4))) (pa_cons (pe_slice (slU K) (pv 10) po_none (po_some (pv 5))) pa_nil)) rfl)
    (pss_cons (ps_set (i := 11) sc_busy_calls.nd rfl (Or.inl rfl) (pe_callB (call_min2 rfl) (by rfl) T.z_min (by decide +kernel) (pa_cons (pe_op op_sub (pv 4) (pe_callB (cl_len K) (by rfl) T.z_len (by decide +kernel) (pa_cons (pv 6) pa_nil))) (pa_cons (pe_op op_sub (pv 5) (pe_callB (cl_len K) (by rfl) T.z_len (by decide +kernel) (pa_cons (pv 10) pa_nil))) pa_nil))))
    (pss_one (ps_ret (pe_op op_plus (pe_op op_plus (pv 6) (pv 10)) (pe_op op_repeat (pe_lst (pa_cons (pv 1) pa_nil)) (pv 11))))))))))), (ss_seq (ss_asg si_var (sg_tup (sg_cons sg_name (sg_cons sg_name sg_nil))))
    (ss_seq (ss_par (si_cons (si_op (si_op (si_fld X.t.cl X.nI si_var) si_var sr_ix) si_int sr_I0) (si_cons (si_op (si_op (si_fld X.t.cl X.nO si_var) si_var sr_ix) si_int sr_I0) si_nil)))
    (ss_seq (ss_asg (si_lc2 (si_enum (si_cons (si_fld X.t.cl X.nO si_var) si_nil)) (sg_tup (sg_cons sg_name (sg_cons sg_name sg_nil))) (si_test (si_op si_var si_var sr_ne)) (si_rng1 (si_cons si_var si_nil)) sg_name si_yes (si_tup (si_cons si_var (si_cons si_var si_nil))) (by decide) (by decide)) sg_name)
    (ss_seq (ss_asg (si_lc2 (si_enum (si_cons (si_fld X.t.cl X.nI si_var) si_nil)) (sg_tup (sg_cons sg_name (sg_cons sg_name sg_nil))) (si_test (si_op si_var si_var sr_ne)) (si_rng1 (si_cons si_var si_nil)) sg_name si_yes (si_tup (si_cons si_var (si_cons si_var si_nil))) (by decide) (by decide)) sg_name)
    (ss_seq (ss_par (si_cons (si_sl si_var si_noP (si_part si_var) sl_U) (si_cons (si_sl si_var si_noP (si_part si_var) sl_U) si_nil)))
    (ss_seq (ss_asg (si_cb (si_cons (si_op si_var (si_cb (si_cons si_var si_nil) sc_len) sr_I0) (si_cons (si_op si_var (si_cb (si_cons si_var si_nil) sc_len) sr_I0) si_nil)) sc_min2) sg_name)
    (ss_ret (si_op (si_op si_var si_var sr_plus) (si_op (si_lst (si_cons si_var si_nil)) si_var sr_repL) sr_plus)))))))), fun ds q e h => ?_⟩
  obtain ⟨ds, es, m, p, rfl, g, hp, h⟩ := h
  obtain ⟨r1, r2, r3, r4⟩ := id hp
  have a := Bzm.getD_in g.gi r1 r2
  have b := Bzm.getD_in g.go r3 r4
  refine ⟨_, rfl, _, rfl, rfl, _, _, rfl, _, _, rfl, rfl, ?_⟩
  refine at_ev (ρ' := [some (.d (exD C ds es m)), some (.d (Dt.pairD p)), some (.d (.int p.1)), some (.d (.int p.2)), none, none, none, none, none, none, none, none]) rfl ?_
  refine ⟨_, rfl, _, _, _, rfl, rfl, _, rfl, go_ixIT r1 r2 ⟨trivial, _, rfl, _, _, _, rfl, rfl, _, rfl, go_ixIT r3 r4 ⟨trivial, _, _, rfl, ?_⟩⟩⟩
  -- the calls that leave
  refine at_ev (ρ' := [some (.d (exD C ds es m)), some (.d (Dt.pairD p)), some (.d (.int p.1)), some (.d (.int p.2)), some (.d (.int (ds.getD p.1.toNat 0 - 1))), some (.d (.int (es.getD p.2.toNat 0 - 1))), none, none, none, none, none, none]) rfl ?_
  refine ⟨_, rfl, _, _, _, rfl, rfl, _, .inl rfl, ?_⟩
  refine lc2_flatF (rowF p.2 fun j => (p.1, j)) _ [] ?_ (fun d hd acc Q hl hQ => ?_) ?_
  · rw [rowF_all (f := fun j => (p.1, (j : Int))) (fun _ => rfl) r3, List.length_map]
    have := rows_small g.go (fun j => (p.1, (j : Int))) p.2.toNat
    show 0 + _ ≤ _
    omega
  · obtain ⟨j, x, rfl, hx⟩ := mem_enum hd
    have := g.go.2.2 x hx
    refine ⟨_, rfl, rfl, _, _, rfl, _, _, rfl, rfl, _, rfl, _, rfl, go_neI ⟨_, rfl, ?_⟩⟩
    have eF : rowF p.2 (fun j => (p.1, j)) (.tup [.int (j : Int), .int x]) = if (j : Int) = p.2 then [] else (List.replicate x.toNat (p.1, (j : Int))).map Dt.pairD := rfl
    rw [eF] at hl hQ
    by_cases c : (j : Int) = p.2
    · rw [decide_eq_true c]
      rw [if_pos c, List.append_nil] at hQ
      exact ifFF hQ
    · rw [decide_eq_false c]
      rw [if_neg c] at hl hQ
      refine ifTT ⟨_, rfl, _, rfl, by omega, by omega, lcL_map (fun _ => Dt.pairD (p.1, (j : Int))) _ acc (by rw [List.length_map, List.length_range]; rw [List.length_map, List.length_replicate] at hl; exact hl) (fun d hd Q2 h2 => ?_) ?_⟩
      · obtain ⟨t, _, rfl⟩ := List.mem_map.mp hd
        exact ⟨_, rfl, _, rfl, (by show 2 ≤ sizeLine; decide), h2⟩
      · have e2 : ((List.range x.toNat).map fun (i : Nat) => Dt.D.int (i : Int)).map (fun _ => Dt.pairD (p.1, (j : Int))) = (List.replicate x.toNat (p.1, (j : Int))).map Dt.pairD := by
          rw [List.map_map, List.map_replicate]
          exact List.eq_replicate_iff.mpr ⟨by simp, fun y hy => by obtain ⟨_, _, rfl⟩ := List.mem_map.mp hy; rfl⟩
        rw [e2]
        exact hQ
  rw [List.nil_append, rowF_all (f := fun j => (p.1, (j : Int))) (fun _ => rfl) r3]
  -- the calls that come
  refine at_ev (ρ' := [some (.d (exD C ds es m)), some (.d (Dt.pairD p)), some (.d (.int p.1)), some (.d (.int p.2)), some (.d (.int (ds.getD p.1.toNat 0 - 1))), some (.d (.int (es.getD p.2.toNat 0 - 1))), some (.d (.lst ((Bzm.lvL es p).map Dt.pairD))), none, none, none, none, none]) rfl ?_
  refine ⟨_, rfl, _, _, _, rfl, rfl, _, .inl rfl, ?_⟩
  refine lc2_flatF (rowF p.1 fun j => (j, p.2)) _ [] ?_ (fun d hd acc Q hl hQ => ?_) ?_
  · rw [rowF_all (f := fun j => ((j : Int), p.2)) (fun _ => rfl) r1, List.length_map]
    have := rows_small g.gi (fun j => ((j : Int), p.2)) p.1.toNat
    show 0 + _ ≤ _
    omega
  · obtain ⟨j, x, rfl, hx⟩ := mem_enum hd
    have := g.gi.2.2 x hx
    refine ⟨_, rfl, rfl, _, _, rfl, _, _, rfl, rfl, _, rfl, _, rfl, go_neI ⟨_, rfl, ?_⟩⟩
    have eF : rowF p.1 (fun j => (j, p.2)) (.tup [.int (j : Int), .int x]) = if (j : Int) = p.1 then [] else (List.replicate x.toNat ((j : Int), p.2)).map Dt.pairD := rfl
    rw [eF] at hl hQ
    by_cases c : (j : Int) = p.1
    · rw [decide_eq_true c]
      rw [if_pos c, List.append_nil] at hQ
      exact ifFF hQ
    · rw [decide_eq_false c]
      rw [if_neg c] at hl hQ
      refine ifTT ⟨_, rfl, _, rfl, by omega, by omega, lcL_map (fun _ => Dt.pairD ((j : Int), p.2)) _ acc (by rw [List.length_map, List.length_range]; rw [List.length_map, List.length_replicate] at hl; exact hl) (fun d hd Q2 h2 => ?_) ?_⟩
      · obtain ⟨t, _, rfl⟩ := List.mem_map.mp hd
        exact ⟨_, rfl, _, rfl, (by show 2 ≤ sizeLine; decide), h2⟩
      · have e2 : ((List.range x.toNat).map fun (i : Nat) => Dt.D.int (i : Int)).map (fun _ => Dt.pairD ((j : Int), p.2)) = (List.replicate x.toNat ((j : Int), p.2)).map Dt.pairD := by
          rw [List.map_map, List.map_replicate]
          exact List.eq_replicate_iff.mpr ⟨by simp, fun y hy => by obtain ⟨_, _, rfl⟩ := List.mem_map.mp hy; rfl⟩
        rw [e2]
        exact hQ
  rw [List.nil_append, rowF_all (f := fun j => ((j : Int), p.2)) (fun _ => rfl) r1]
  -- what is kept of them
  have c1 : cutD ((Bzm.lvL es p).map Dt.pairD) none (some (ds.getD p.1.toNat 0 - 1)) = (Bzm.lvT ds es p).map Dt.pairD := by
    rw [cut_take (by omega), ← List.map_take]
    rfl
  have c2 : cutD ((Bzm.cmL ds p).map Dt.pairD) none (some (es.getD p.2.toNat 0 - 1)) = (Bzm.cmT ds es p).map Dt.pairD := by
    rw [cut_take (by omega), ← List.map_take]
    rfl
  have lv : (Bzm.lvT ds es p).length ≤ 4 := by unfold Bzm.lvT; rw [List.length_take]; omega
  have cm : (Bzm.cmT ds es p).length ≤ 4 := by unfold Bzm.cmT; rw [List.length_take]; omega
  have hb := Bzm.both_nn g.gi g.go hp
  show mgN 10 _ _ _
  refine at_ev (ρ' := [some (.d (exD C ds es m)), some (.d (Dt.pairD p)), some (.d (.int p.1)), some (.d (.int p.2)), some (.d (.int (ds.getD p.1.toNat 0 - 1))), some (.d (.int (es.getD p.2.toNat 0 - 1))), some (.d (.lst ((Bzm.lvL es p).map Dt.pairD))), none, none, none, some (.d (.lst ((Bzm.cmL ds p).map Dt.pairD))), none]) rfl ?_
  refine ⟨_, rfl, _, rfl, _, rfl, go_takeL c1 ⟨_, rfl, _, rfl, _, rfl, go_takeL c2 ⟨_, _, rfl, ?_⟩⟩⟩
  refine at_ev (ρ' := [some (.d (exD C ds es m)), some (.d (Dt.pairD p)), some (.d (.int p.1)), some (.d (.int p.2)), some (.d (.int (ds.getD p.1.toNat 0 - 1))), some (.d (.int (es.getD p.2.toNat 0 - 1))), some (.d (.lst ((Bzm.lvT ds es p).map Dt.pairD))), none, none, none, some (.d (.lst ((Bzm.cmT ds es p).map Dt.pairD))), none]) rfl ?_
  refine ⟨_, rfl, _, rfl, go_lenL ⟨trivial, _, rfl, _, rfl, go_lenL ⟨trivial, _, _, rfl, ?_⟩⟩⟩
  have e5 : (if es.getD p.2.toNat 0 - 1 - ((((Bzm.cmT ds es p).map Dt.pairD).length : Nat) : Int) < ds.getD p.1.toNat 0 - 1 - ((((Bzm.lvT ds es p).map Dt.pairD).length : Nat) : Int) then es.getD p.2.toNat 0 - 1 - ((((Bzm.cmT ds es p).map Dt.pairD).length : Nat) : Int) else ds.getD p.1.toNat 0 - 1 - ((((Bzm.lvT ds es p).map Dt.pairD).length : Nat) : Int)) = Bzm.both ds es p := by
    unfold Bzm.both
    rw [List.length_map, List.length_map]
    split <;> omega
  rw [e5]
  show mgN 11 _ _ _
  refine at_ev (ρ' := [some (.d (exD C ds es m)), some (.d (Dt.pairD p)), some (.d (.int p.1)), some (.d (.int p.2)), some (.d (.int (ds.getD p.1.toNat 0 - 1))), some (.d (.int (es.getD p.2.toNat 0 - 1))), some (.d (.lst ((Bzm.lvT ds es p).map Dt.pairD))), none, none, none, some (.d (.lst ((Bzm.cmT ds es p).map Dt.pairD))), some (.d (.int (Bzm.both ds es p)))]) rfl ?_
  have bl : Bzm.both ds es p ≤ 4 := by unfold Bzm.both; omega
  refine ⟨_, rfl, _, rfl, ⟨by rw [List.length_map, List.length_map]; exact szle (by omega), _, rfl, (by show 1 ≤ sizeLine; decide), _, rfl, by omega, by omega, by show 1 * _ ≤ _; exact szle (by omega), ?_⟩⟩
  rw [rep_pairs, ← List.map_append]
  refine ⟨by rw [List.length_map, List.length_map, List.length_append, List.length_replicate]; exact szle (by omega), ?_⟩
  rw [← List.map_append]
  exact h
abbrev s_busiest : Stmt := top 13
abbrev N_busiest : List Str := ["exchange", "pair"]
theorem sc_busiest : FnScope N_busiest ["exchange", "pair"] (defScope s_busiest) := ⟨rfl, rfl, rfl, by decide +kernel, rfl, by decide +kernel, by decide +kernel⟩
def sdBusiest (C : Addr) : SpD := fun xs q _ => ∃ ds es m p, xs = [exD C ds es m, Dt.pairD p] ∧ GE ds es m ∧ InP ds.length es.length p ∧ q (.int (bz ds es p))
theorem ok_busiest (T : Blt mg) (X : ExC K mg C) (D_check_pair : DefOk P w K mg base CX0 4 "check_pair" (spOf (sdChkP C))) (D_busy_calls : DefOk P w K mg base CX0 1 "_busy_calls" (spOf (sdBusyCalls C))) (Df : DefAt K mg "busiest" s_busiest ["exchange", "pair"]) : DefOk P w K mg base CX0 5 "busiest" (spOf (sdBusiest C)) := by
  refine DefAtD.ok Df sc_busiest (fun ds q e h => by obtain ⟨_, _, _, _, rfl, _⟩ := h; rfl) (fun f cdv A outer s H E hr => ⟨_, _, (pss_cons (ps_expr (pe_def D_check_pair hr (by decide) passE (pa_cons (pv 0) (pa_cons (pv 1) pa_nil))))
    (pss_one (ps_ret (pe_callB (cl_len K) (by rfl) T.z_len (by decide +kernel) (pa_cons (pe_def D_busy_calls hr (by decide) passE (pa_cons (pv 0) (pa_cons (pv 1) pa_nil))) pa_nil))))), (ss_seq (ss_exp (si_def (si_cons si_var (si_cons si_var si_nil))))
    (ss_ret (si_cb (si_cons (si_def (si_cons si_var (si_cons si_var si_nil))) si_nil) sc_len))), fun ds q e h => ?_⟩)
  obtain ⟨ds, es, m, p, rfl, g, hp, h⟩ := h
  refine ⟨_, rfl, _, rfl, ds, es, m, p, rfl, hp, ?_⟩
  refine ⟨_, rfl, _, rfl, ds, es, m, p, rfl, g, hp, go_lenL ?_⟩
  rw [List.length_map, Bzm.busy_len g.gi g.go hp]
  exact h
abbrev s_strict : Stmt := top 15
abbrev N_strict : List Str := ["exchange", "pair"]
theorem sc_strict : FnScope N_strict ["exchange"] (defScope s_strict) := ⟨rfl, rfl, rfl, by decide +kernel, rfl, by decide +kernel, by decide +kernel⟩
def strictI (ds es : List Int) : Int := mx ((pairsL ds.length es.length).map (bz ds es)) + 1
def sdStrict (C : Addr) : SpD := fun xs q _ => ∃ ds es m, xs = [exD C ds es m] ∧ GE ds es m ∧ q (.int (strictI ds es))
theorem pairs_small {ds es : List Int} {m : Int} (g : GE ds es m) : (pairsL ds.length es.length).length ≤ 16 ∧ (0, 0) ∈ pairsL ds.length es.length := by
  have := g.gi.1
  have := g.go.1
  have : ds.length * es.length ≤ 4 * 4 := Nat.mul_le_mul g.gi.2.1 g.go.2.1
  refine ⟨by rw [pairsL_len]; omega, pairsL_mem ⟨by decide, by show (0 : Int) < _; omega, by decide, by show (0 : Int) < _; omega⟩⟩
theorem ok_strict (T : Blt mg) (X : ExC K mg C) (M_pairs : MethOk P w K mg base CX0 1 C "pairs" (spOf (sdPairs C))) (D_busiest : DefOk P w K mg base CX0 5 "busiest" (spOf (sdBusiest C))) (Df : DefAt K mg "strict" s_strict ["exchange"]) : DefOk P w K mg base CX0 6 "strict" (spOf (sdStrict C)) := by
  refine DefAtD.ok Df sc_strict (fun ds q e h => by obtain ⟨_, _, _, rfl, _⟩ := h; rfl) (fun f cdv A outer s H E hr => ⟨_, _, (pss_one (ps_ret (pe_op op_plus (pe_callB (cr_max rfl) (by rfl) T.z_max (by decide +kernel) (pa_cons (pe_lc (own := [("pair", 1)]) (g := gName 1) (tt := tYes) rfl sc_strict.nd (pi_seq K (pe_mth0 (pv 0) X.t.cl M_pairs hr (by decide) passE)) (blkOk_by (N := N_strict) (sc := defScope s_strict) (by decide +kernel)) (fun _ _ _ _ _ => (pg_name (i := 1) sc_strict.nd rfl (Or.inl rfl))) (fun _ _ _ _ _ => pts_nil) (fun _ _ _ _ _ => (pe_def D_busiest hr (by decide) passE (pa_cons (pv 0) (pa_cons (pv 1) pa_nil))))) pa_nil)) pe_int))), (ss_ret (si_op (si_cb (si_cons (si_lc (si_seq (si_mth si_var si_nil)) sg_name si_yes (si_def (si_cons si_var (si_cons si_var si_nil))) (by decide)) si_nil) sc_max) si_int sr_plus)), fun ds q e h => ?_⟩)
  obtain ⟨ds, es, m, rfl, g, h⟩ := h
  have := g.gi.2.1
  have := g.go.2.1
  obtain ⟨p1, p2⟩ := pairs_small g
  refine ⟨_, rfl, _, _, rfl, by decide, ds, es, m, rfl, by omega, by omega, _, .inr rfl, lcL_map (fun d => match d with | .tup [.int a, .int b] => .int (bz ds es (a, b)) | _ => .non) _ [] (by rw [List.length_map]; show 0 + _ ≤ _; omega) (fun d hd Q hQ => ?_) ?_⟩
  · obtain ⟨p, hp, rfl⟩ := List.mem_map.mp hd
    exact ⟨_, rfl, _, rfl, ds, es, m, p, rfl, g, pairsL_in hp, hQ⟩
  · refine ⟨(pairsL ds.length es.length).map (bz ds es), ?_, ?_, fun z hz hm => ?_⟩
    · rw [List.nil_append, List.map_map, List.map_map]
      rfl
    · rw [List.length_map]
      exact List.length_pos_of_mem p2
    · have z0 : 0 ≤ z := by
        obtain ⟨p, hp, rfl⟩ := List.mem_map.mp hz
        exact Bzm.bz_nn g.gi g.go (pairsL_in hp)
      rw [mx_uniq hz hm z0]
      exact h
abbrev s_barring : Stmt := top 16
abbrev N_barring : List Str := ["exchange", "pair", "busy", "call"]
theorem sc_barring : FnScope N_barring ["exchange"] (defScope s_barring) := ⟨rfl, rfl, rfl, by decide +kernel, rfl, by decide +kernel, by decide +kernel⟩
/-- None where no pair bars; else a standing of single calls at a pair -/
def sdBarring (C : Addr) : SpD := fun xs q _ => ∃ ds es m, xs = [exD C ds es m] ∧ GE ds es m ∧ ((∀ p ∈ pairsL ds.length es.length, bz ds es p < m) → q .non) ∧ ∀ p, InP ds.length es.length p → m ≤ bz ds es p → q (.tup [stD (Bzm.singles ((Bzm.busyL ds es p).take m.toNat)), Dt.pairD p])
theorem ok_barring (T : Blt mg) (X : ExC K mg C) (M_pairs : MethOk P w K mg base CX0 1 C "pairs" (spOf (sdPairs C))) (D_busy_calls : DefOk P w K mg base CX0 1 "_busy_calls" (spOf (sdBusyCalls C))) (Df : DefAt K mg "barring" s_barring ["exchange"]) : DefOk P w K mg base CX0 2 "barring" (spOf (sdBarring C)) := by
  refine DefAtD.ok Df sc_barring (fun ds q e h => by obtain ⟨_, _, _, rfl, _⟩ := h; rfl) (fun f cdv A outer s H E hr => ?_)
  have hu := hr.units
  refine ⟨_, _, (pss_cons (ps_for PassesOwn.never rfl (pi_seq K (pe_mth0 (pv 0) X.t.cl M_pairs hr (by decide) passE)) (pg_name (i := 1) sc_barring.nd rfl (Or.inl rfl))
      (pss_cons (ps_set (i := 2) sc_barring.nd rfl (Or.inl rfl) (pe_slice (slU K) (pe_def D_busy_calls hr (by decide) passE (pa_cons (pv 0) (pa_cons (pv 1) pa_nil))) po_none (po_some (pe_fldK K (pv 0)))))
      (pss_one (ps_if (pt_cmpR (eqD K hu) (pe_callB (cl_len K) (by rfl) T.z_len (by decide +kernel) (pa_cons (pv 2) pa_nil)) (pe_fldK K (pv 0)) (nomark _))
        (pss_one (ps_ret (pe_tup (pa_cons (pe_callTy (cl_tuple K) (by rfl) T.z_tuple (by decide +kernel) (pa_cons (pe_lc (own := [("call", 3)]) (g := gName 3) (tt := tYes) rfl sc_barring.nd (pi_seq K (pv 2)) (blkOk_by (N := N_barring) (sc := defScope s_barring) (by decide +kernel)) (fun _ _ _ _ _ => (pg_name (i := 3) sc_barring.nd rfl (Or.inl rfl))) (fun _ _ _ _ _ => pts_nil) (fun _ _ _ _ _ => (pe_tup (pa_cons (pv 3) pa_nil)))) pa_nil)) (pa_cons (pv 1) pa_nil)))))
        pss_nil))))
    (pss_one (ps_ret pe_non))), (ss_seq (ss_for (si_seq (si_mth si_var si_nil)) sg_name
      (ss_seq (ss_asg (si_sl (si_def (si_cons si_var (si_cons si_var si_nil))) si_noP (si_part (si_fld X.t.cl X.nM si_var)) sl_U) sg_name)
      (ss_if (si_test (si_op (si_cb (si_cons si_var si_nil) sc_len) (si_fld X.t.cl X.nM si_var) sr_eq))
        (ss_ret (si_tup (si_cons (si_cb (si_cons (si_lc (si_seq si_var) sg_name si_yes (si_tup (si_cons si_var si_nil)) (by decide)) si_nil) sc_tuple) (si_cons si_var si_nil))))
        ss_nx)))
    (ss_ret si_non)), fun ds q e h => ?_⟩
  obtain ⟨ds, es, m, rfl, g, h1, h2⟩ := h
  have := g.gi.2.1
  have := g.go.2.1
  have := g.m1
  have := g.m2
  refine ⟨_, rfl, _, _, rfl, by decide, ds, es, m, rfl, by omega, by omega, _, .inr rfl, loop_inv (fun i ρ => (∃ w1 w2 w3, ρ = [some (.d (exD C ds es m)), w1, w2, w3]) ∧ ∀ j p, j < i → (pairsL ds.length es.length)[j]? = some p → bz ds es p < m) _ 0 _ ⟨⟨none, none, none, rfl⟩, fun j p hj => absurd hj (Nat.not_lt_zero j)⟩ ?_ ?_⟩
  · rintro k x ρ N hk ⟨⟨w1, w2, w3, rfl⟩, hb⟩ hN
    rw [Nat.zero_add] at hb hN
    rw [List.getElem?_map] at hk
    cases hp : (pairsL ds.length es.length)[k]? with
    | none => rw [hp] at hk; cases hk
    | some p =>
      rw [hp] at hk
      cases hk
      have hin := pairsL_in (List.mem_of_getElem? hp)
      have hl := Bzm.busy_len g.gi g.go hin
      refine ⟨_, rfl, _, rfl, ds, es, m, p, rfl, g, hin, _, rfl, _, _, _, rfl, rfl, _, rfl, go_takeL (ys := ((Bzm.busyL ds es p).take m.toNat).map Dt.pairD) (by rw [cut_take (by omega), List.map_take]) ?_⟩
      refine at_ev (ρ' := [some (.d (exD C ds es m)), some (.d (Dt.pairD p)), some (.d (.lst (((Bzm.busyL ds es p).take m.toNat).map Dt.pairD))), w3]) rfl ?_
      refine ⟨_, rfl, go_lenL ⟨_, rfl, _, _, _, rfl, rfl, go_eqI ⟨_, rfl, ?_⟩⟩⟩
      rw [List.length_map, List.length_take]
      by_cases c : m ≤ bz ds es p
      · rw [decide_eq_true (show ((min m.toNat (Bzm.busyL ds es p).length : Nat) : Int) = m by omega)]
        refine ifTT ⟨_, rfl, _, .inr rfl, lcL_map (fun d => .tup [d]) _ [] (by rw [List.length_map, List.length_take]; show 0 + _ ≤ _; omega) (fun d hd Q hQ => ?_) ?_⟩
        · exact ⟨_, rfl, (by show 1 ≤ sizeLine; decide), hQ⟩
        · refine ⟨_, .inr rfl, _, rfl, (by show 2 ≤ sizeLine; decide), ?_⟩
          have e : (((Bzm.busyL ds es p).take m.toNat).map Dt.pairD).map (fun d => Dt.D.tup [d]) = (Bzm.singles ((Bzm.busyL ds es p).take m.toNat)).map ldD := by
            unfold Bzm.singles
            rw [List.map_map, List.map_map]
            rfl
          rw [List.nil_append, e]
          exact h2 p hin c
      · rw [decide_eq_false (show ¬ ((min m.toNat (Bzm.busyL ds es p).length : Nat) : Int) = m by omega)]
        refine ifFF (hN _ ⟨⟨_, _, _, rfl⟩, fun j p' hj e => ?_⟩)
        rcases Nat.lt_succ_iff_lt_or_eq.mp hj with hj | rfl
        · exact hb j p' hj e
        · rw [hp] at e
          cases e
          omega
  · rintro ρ ⟨⟨w1, w2, w3, rfl⟩, hb⟩
    refine h1 fun p hp => ?_
    obtain ⟨j, hj, e⟩ := List.mem_iff_getElem.mp hp
    refine hb j p (by rw [Nat.zero_add, List.length_map]; exact hj) ?_
    rw [List.getElem?_eq_getElem hj, e]
end
section
variable {P : Program} {w : World} {K : PySem.W.Frag} {mg : Str → Option Value} {base : Heap} {C : Addr}
abbrev s_Exchange_with_middles : Stmt := inClass (top 22) 2
abbrev N_Exchange_with_middles : List Str := ["self", "middles"]
theorem sc_Exchange_with_middles : FnScope N_Exchange_with_middles ["self", "middles"] (defScope s_Exchange_with_middles) := ⟨rfl, rfl, rfl, by decide +kernel, rfl, by decide +kernel, by decide +kernel⟩
def sdWith (C : Addr) : SpD := fun xs q _ => ∃ ds es m k, xs = [exD C ds es m, .int k] ∧ Good ds ∧ Good es ∧ 1 ≤ k ∧ k ≤ 7 ∧ q (exD C ds es k)
theorem ok_with (T : Blt mg) (X : ExC K mg C) (M_Exchange : NewOk P w K mg base CX0 4 "Exchange" C (spInit C)) (Df : MethAt K C "with_middles" "Exchange.with_middles" s_Exchange_with_middles ["self", "middles"]) : MethOk P w K mg base CX0 6 C "with_middles" (spOf (sdWith C)) := by
  refine MethAtD.ok Df sc_Exchange_with_middles (fun ds q e h => by obtain ⟨_, _, _, _, rfl, _⟩ := h; rfl) (fun f cdv A outer s H E hr => ⟨_, _, (pss_one (ps_ret (pe_new M_Exchange hr (by decide) passE (pa_cons (pe_fldK K (pv 0)) (pa_cons (pe_fldK K (pv 0)) (pa_cons (pv 1) pa_nil)))))), (ss_ret (si_newEx (si_cons (si_fld X.t.cl X.nI si_var) (si_cons (si_fld X.t.cl X.nO si_var) (si_cons si_var si_nil))))), fun ds q e h => ?_⟩)
  obtain ⟨ds, es, m, k, rfl, gi, go, k1, k2, h⟩ := h
  exact ⟨_, rfl, _, _, _, rfl, rfl, _, rfl, _, _, _, rfl, rfl, _, rfl, ds, es, k, rfl, gi, go, k1, k2, h⟩
end
end K12
set_option Elab.async false
set_option linter.all false
set_option maxRecDepth 100000
set_option maxHeartbeats 4000000
namespace Dt
open PySem PySem.Spec PyProof.Rows L2 Com Gn StV Sd Ext
variable [Dt.Tb]
def fSrtL (xs : List D) (q : KD) : Prop := ∃ S, xs = [stD S] ∧ q (.lst ((Srl.srtL S).map ldD))
theorem sc_srtL {K : PySem.W.Frag} : SimC (Srl.rSrtL K) fSrtL := fun W H xs ds Q q k hx h hk => by
  obtain ⟨S, rfl, h⟩ := h
  obtain ⟨v, rfl, hv⟩ := one_of hx
  obtain ⟨a, vs, rfl, _, hh, t⟩ := tup_of k hv rfl
  refine ⟨a, vs, S, rfl, hh, vd_loads k t, fun us p hU hl hp => ?_⟩
  have g1 := go_same k (Same.refl H)
  have g2 := Go.put (o := .lst us) g1.ok hp
  exact hk _ _ _ _ (g1.trans k g2) (.lst (upd_same (H := (W.all H).F)) ((all_loads k.f hU).mono g2.le)) h
end Dt
namespace Et
open PySem PySem.Spec PyProof.Rows L2 Com Nd
open Dt (D Wd Vd VdA Le Ok Go Kv Ka Kb Kx KD XD SpD spOf SimR SimC SimSl SimE SimT SimA SimO SimI SimN SimIp ItD En toPy toPyA dOf dOfA nkK fEq fIn)
variable [Dt.Tb]
theorem n_disp1 {E : XK} {w : World} {tk tv : TE} {mk mv : CE} (hk : SE E tk mk) (hv : SE E tv mv) : SNU E (tDisp1 w tk tv) (fun ρ q e => mk ρ (fun u => onD u fun y => keyOk true y fun j => mv ρ (fun u' => onD u' fun z => q (.dct w true [j] [.d z])) e) e) := fun i W H σ ρ Q q e A h k kx => fun Da hD => by
  have R := A.rep
  have nD := R.ok.no hD
  have g0 := Go.own (o := DN w Da []) R.ok hD
  have st : ∀ {W1 : Wd} {H1 : Hp}, Go W (upd H Da (DN w Da [])) W1 H1 → H1 Da = some (DN w Da []) ∧ W1.F Da = none ∧ ¬ W1.G Da := fun {W1 H1} g => by
    have e3 : (upd H Da (DN w Da [])) Da = some (DN w Da []) := upd_same
    refine ⟨g.p _ _ e3 nD.2, ?_, fun z => ?_⟩
    · cases z : W1.F Da with
      | none => rfl
      | some o =>
        rcases g.fn Da o z with z | z | ⟨u, z, hs⟩
        · rw [nD.1] at z; cases z
        · rw [e3] at z; cases z
        · rw [e3] at z; cases z; exact (Dt.still_dn hs).elim
    · rcases g.gn Da z with z | z
      · exact nD.2 z
      · rw [e3] at z; cases z
  refine hk W i.Z _ σ ρ _ _ _ (R.pure g0) h (fun W1 kv u fp H1 g1 rk h1 => ?_) (kx.go R.ok g0)
  obtain ⟨kd, rfl, hkv, h1⟩ := onD_of rk h1
  unfold keyOk at h1
  split at h1
  · rename_i t _ e1
    obtain ⟨hd, h1⟩ := h1
    refine hv W1 i.Z H1 σ ρ _ _ _ ((R.pure g0).pure g1) h1 (fun W2 zv u' fp' H2 g2 rz h2 => ?_) (kx.go R.ok (g0.trans R.ok g1))
    obtain ⟨z, rfl, hz, h2⟩ := onD_of rz h2
    have hk2 := hkv.mono g2.le
    have nj := nk_is g2.ok hk2 e1
    have : ∃ b, kv = .ref b := by cases nj with | tup _ _ => exact ⟨_, rfl⟩
    obtain ⟨b, rfl⟩ := this
    obtain ⟨e2, f2, n2⟩ := st (g1.trans g0.ok g2)
    refine ⟨.tup t, b, rfl, e2, ⟨nj, hd⟩, ?_⟩
    have g3 := g0.trans R.ok (g1.trans g0.ok g2)
    have g4 := Go.mut (o := DN w Da [(.tup t, b, zv)]) g3 hD f2 n2
    refine k W2 _ (.ref Da) _ [Da] (.of R.ok g4) (.dctN (fp := []) (w := w) (xs := [(.tup t, b, zv)]) (ks := [.tup t]) upd_same rfl ?_ (.cons (fp := []) (.d hz) .nil) f2 n2) (by simp) (fun a m => by rw [List.mem_singleton.mp m]; exact hD) h2
    show VdA _ [V.ref b] (dOfA [.tup t])
    rw [dOfA, dOfA]
    exact Dt.VdA.one (vd_key hk2 e1)
  · rename_i e _; cases e
  · rename_i e _; cases e
  · exact h1.elim
end Et
set_option Elab.async false
set_option linter.all false
set_option maxHeartbeats 4000000
namespace Dbf
open Sd Gn Bzm
abbrev Std := List (List PP)
theorem std_perm {ds es : List Int} {m : Int} {S T : Std} (h : StdOk ds es m S) (p : T.Perm S) : StdOk ds es m T := by
  have e1 : left ds (fs T) = left ds (fs S) := left_perm (p.flatten.map _)
  have e2 : left es (sn T) = left es (sn S) := left_perm (p.flatten.map _)
  exact ⟨by rw [p.length_eq]; exact h.len, fun L hL => h.ld L (p.mem_iff.mp hL), by rw [e1]; exact h.ci, by rw [e2]; exact h.co⟩
theorem left_less {ds is js : List Int} (h : ∀ k : Int, js.count k ≤ is.count k) (g : ∀ d ∈ left ds is, 0 ≤ d) : ∀ d ∈ left ds js, 0 ≤ d := by
  intro d hd
  obtain ⟨j, hj⟩ := List.getElem?_of_mem hd
  rw [left_get] at hj
  cases e : ds[j]? with
  | none => rw [e] at hj; cases hj
  | some z =>
    rw [e] at hj
    have k : 0 ≤ z - ((is.count (j : Int) : Nat) : Int) := g _ (List.mem_of_getElem? (i := j) (by rw [left_get, e]; rfl))
    have c := h (j : Int)
    simp only [Option.map_some, Option.some.injEq] at hj
    omega
/-- T is S with one call more, in some order -/
def Nx (ds es : List Int) (S : Std) (p : PP) (k : Nat) (L : List PP) : Prop := InP ds.length es.length p ∧ openB ds es S p = true ∧ S[k]? = some L ∧ freeB L p = true
def ClosedAt (ds es : List Int) (Fs : List Std) (S : Std) : Prop := ∀ p k L, Nx ds es S p k L → ∃ T ∈ Fs, T.Perm (S.set k (srt (L ++ [p])))
theorem open_iff {ds es : List Int} {S : Std} {p : PP} : openB ds es S p = true ↔ 0 < (left ds (fs S)).getD p.1.toNat 0 ∧ 0 < (left es (sn S)).getD p.2.toNat 0 := by
  unfold openB
  rw [Bool.and_eq_true, decide_eq_true_iff, decide_eq_true_iff]
theorem open_perm {ds es : List Int} {S T : Std} {p : PP} (h : T.Perm S) : openB ds es T p = openB ds es S p := by
  have e1 : left ds (fs T) = left ds (fs S) := left_perm (h.flatten.map _)
  have e2 : left es (sn T) = left es (sn S) := left_perm (h.flatten.map _)
  unfold openB
  rw [e1, e2]
theorem get_some {l : List Int} {i : Int} (h : 0 < l.getD i.toNat 0) : ∃ x, l[i.toNat]? = some x ∧ 0 < x := by
  rw [List.getD_eq_getElem?_getD] at h
  cases e : l[i.toNat]? with
  | none => rw [e] at h; exact absurd h (by decide)
  | some x => rw [e] at h; exact ⟨x, rfl, h⟩
theorem nx_ok {ds es : List Int} {m : Int} {S T : Std} {p : PP} {k : Nat} {L : List PP} (h : StdOk ds es m S) (n : Nx ds es S p k L) (hT : T.Perm (S.set k (srt (L ++ [p])))) : StdOk ds es m T := by
  obtain ⟨hp, ho, hk, hf⟩ := n
  obtain ⟨o1, o2⟩ := open_iff.mp ho
  obtain ⟨x, hx, x0⟩ := get_some o1
  obtain ⟨y, hy, y0⟩ := get_some o2
  exact (h.set hk hp hf hx x0 hy y0).1 |> fun z => std_perm z hT
theorem set_perm {α : Type} {T : List α} {k : Nat} {a : α} (b : α) (h : T[k]? = some a) : T.Perm (a :: T.eraseIdx k) ∧ (T.set k b).Perm (b :: T.eraseIdx k) := by
  obtain ⟨hk, e⟩ := List.getElem?_eq_some_iff.mp h
  have e1 : T = T.take k ++ a :: T.drop (k + 1) := by
    conv => lhs; rw [← List.take_append_drop k T, List.drop_eq_getElem_cons hk, e]
  have e2 : T.set k b = T.take k ++ b :: T.drop (k + 1) := by rw [List.set_eq_take_append_cons_drop, if_pos hk]
  have e3 : T.eraseIdx k = T.take k ++ T.drop (k + 1) := List.eraseIdx_eq_take_drop_succ ..
  rw [e3]
  exact ⟨by conv => lhs; rw [e1]
            exact List.perm_middle, by rw [e2]; exact List.perm_middle⟩
/-- in a closed list a pair bars, if its busy calls are as many as the middles -/
theorem bars_of_closed {ds es : List Int} {m : Int} {Fs : List Std} {p : PP} (gi : Good ds) (go : Good es) (m0 : 0 ≤ m) (hp : InP ds.length es.length p) (hm : m ≤ bz ds es p) (he : List.replicate m.toNat [] ∈ Fs) (hc : ∀ S ∈ Fs, ClosedAt ds es Fs S) :
    ∃ S ∈ Fs, openB ds es S p = true ∧ ∀ L ∈ S, freeB L p = false := by
  have bl := busy_len gi go hp
  have sok := singles_ok gi go hp m0 hm
  generalize hB : (busyL ds es p).take m.toNat = B at sok
  have lB : B.length = m.toNat := by rw [← hB, List.length_take]; omega
  have hin : ∀ c ∈ B, InP ds.length es.length c ∧ (c.1 = p.1 ∨ c.2 = p.2) := fun c hc => by
    have : c ∈ busyL ds es p := List.mem_of_mem_take (by rw [hB]; exact hc)
    exact ⟨busy_in hp this, busy_at this⟩
  have nn : ∀ j, j ≤ B.length → (∀ d ∈ left ds ((B.take j).map (·.1)), 0 ≤ d) ∧ ∀ d ∈ left es ((B.take j).map (·.2)), 0 ≤ d := fun j hj => by
    have c1 := sok.ci
    have c2 := sok.co
    unfold fs at c1
    unfold sn at c2
    rw [singles_flat] at c1 c2
    exact ⟨left_less (fun k => by rw [List.map_take]; exact (List.take_sublist _ _).count_le _) c1, left_less (fun k => by rw [List.map_take]; exact (List.take_sublist _ _).count_le _) c2⟩
  have step : ∀ j, j ≤ B.length → ∃ T ∈ Fs, T.Perm (singles (B.take j) ++ List.replicate (B.length - j) []) := fun j => by
    induction j with
    | zero =>
      intro _
      refine ⟨_, he, ?_⟩
      rw [List.take_zero, Nat.sub_zero, lB]
      exact List.Perm.refl _
    | succ j ih =>
      intro hj
      obtain ⟨T, hT, pT⟩ := ih (by omega)
      have hjl : j < B.length := by omega
      have eB : B.take (j + 1) = B.take j ++ [B[j]] := by rw [List.take_add_one, List.getElem?_eq_getElem hjl]; rfl
      obtain ⟨c_in, _⟩ := hin _ (List.getElem_mem hjl)
      obtain ⟨n1, n2⟩ := nn (j + 1) hj
      rw [eB, List.map_append] at n1 n2
      have o1 := (left_more (List.Perm.refl _) n1).2 c_in.1 c_in.2.1
      have o2 := (left_more (List.Perm.refl _) n2).2 c_in.2.2.1 c_in.2.2.2
      have flat : (singles (B.take j) ++ List.replicate (B.length - j) ([] : List PP)).flatten = B.take j := by
        rw [List.flatten_append, singles_flat, List.flatten_replicate_nil, List.append_nil]
      have ho : openB ds es T B[j] = true := by
        rw [open_perm pT, open_iff]
        unfold fs sn
        rw [flat]
        exact ⟨o1, o2⟩
      have hmem : ([] : List PP) ∈ T := pT.mem_iff.mpr (List.mem_append_right _ (List.mem_replicate.mpr ⟨by omega, rfl⟩))
      obtain ⟨k, hk⟩ := List.getElem?_of_mem hmem
      obtain ⟨T', hT', pT'⟩ := hc T hT B[j] k [] ⟨c_in, ho, hk, rfl⟩
      refine ⟨T', hT', pT'.trans ?_⟩
      obtain ⟨q1, q2⟩ := set_perm (srt ([] ++ [B[j]])) hk
      have es : srt ([] ++ [B[j]]) = [B[j]] := List.perm_singleton.mp (srt_perm _)
      rw [es] at q2 ⊢
      refine q2.trans ?_
      have er : List.replicate (B.length - j) ([] : List PP) = [] :: List.replicate (B.length - (j + 1)) [] := by
        rw [show B.length - j = (B.length - (j + 1)) + 1 by omega]; rfl
      have rest : (T.eraseIdx k).Perm (singles (B.take j) ++ List.replicate (B.length - (j + 1)) []) := by
        have := q1.symm.trans pT
        rw [er] at this
        exact (this.trans List.perm_middle).cons_inv
      rw [eB]
      unfold singles
      rw [List.map_append, List.append_assoc]
      exact (rest.cons _).trans List.perm_middle.symm
  obtain ⟨T, hT, pT⟩ := step B.length (Nat.le_refl _)
  rw [List.take_length, Nat.sub_self, List.replicate_zero, List.append_nil] at pT
  refine ⟨T, hT, ?_, fun L hL => ?_⟩
  · rw [open_perm pT, ← hB]
    exact singles_open gi go hp m
  · obtain ⟨c, hc', rfl⟩ := List.mem_map.mp (pT.mem_iff.mp hL)
    have := (hin c hc').2
    unfold freeB
    rw [List.all_cons, List.all_nil, Bool.and_true]
    rcases this with e | e
    · rw [decide_eq_true e]; rfl
    · rw [decide_eq_true e]; exact Bool.and_false _
theorem nodup_le {α : Type} [DecidableEq α] : ∀ {xs ys : List α}, xs.Nodup → (∀ x ∈ xs, x ∈ ys) → xs.length ≤ ys.length
  | [], _, _, _ => Nat.zero_le _
  | a :: xs, ys, nd, h => by
    obtain ⟨n1, n2⟩ := List.nodup_cons.mp nd
    have ha := h a (List.mem_cons_self ..)
    have := nodup_le (xs := xs) (ys := ys.erase a) n2 fun x hx => (List.mem_erase_of_ne (fun z : x = a => n1 (by rw [← z]; exact hx))).mpr (h x (List.mem_cons_of_mem _ hx))
    rw [List.length_erase_of_mem ha] at this
    have := List.length_pos_of_mem ha
    rw [List.length_cons]
    omega
/-- the loads from the k-th of n switches on -/
def lds (m : Nat) : Nat → Nat → List (List PP)
  | _, 0 => [[]]
  | k, n + 1 => lds m (k + 1) n ++ (List.range m).flatMap fun o => (lds m (k + 1) n).map fun L => (((k : Nat) : Int), ((o : Nat) : Int)) :: L
theorem flat_len {α β : Type} {f : α → List β} {c : Nat} : ∀ {xs : List α}, (∀ x ∈ xs, (f x).length = c) → (xs.flatMap f).length = xs.length * c
  | [], _ => by simp
  | x :: xs, h => by
    rw [List.flatMap_cons, List.length_append, h x (List.mem_cons_self ..), flat_len fun y hy => h y (List.mem_cons_of_mem _ hy), List.length_cons, Nat.succ_mul, Nat.add_comm]
theorem lds_len (m : Nat) : ∀ (n k : Nat), (lds m k n).length = (m + 1) ^ n
  | 0, k => rfl
  | n + 1, k => by
    rw [lds, List.length_append, lds_len m n, flat_len (c := (m + 1) ^ n) (fun o _ => by rw [List.length_map, lds_len m n]), List.length_range, Nat.pow_succ, Nat.mul_add, Nat.mul_one, Nat.add_comm, Nat.mul_comm m]
theorem lds_mem {m : Nat} : ∀ (n k : Nat) (L : List PP), (∀ p ∈ L, (k : Int) ≤ p.1 ∧ p.1 < ((k + n : Nat) : Int) ∧ 0 ≤ p.2 ∧ p.2 < (m : Int)) → (L.map (·.1)).Pairwise (· < ·) → L ∈ lds m k n
  | 0, k, L, h, _ => by
    cases L with
    | nil => exact List.mem_singleton.mpr rfl
    | cons p L => have := h p (List.mem_cons_self ..); omega
  | n + 1, k, L, h, a => by
    rw [lds]
    cases L with
    | nil => exact List.mem_append_left _ (lds_mem n (k + 1) [] (fun _ h => nomatch h) List.Pairwise.nil)
    | cons p L =>
      rw [List.map_cons, List.pairwise_cons] at a
      have hp := h p (List.mem_cons_self ..)
      have gt : ∀ q ∈ L, p.1 < q.1 := fun q hq => a.1 _ (List.mem_map_of_mem hq)
      by_cases c : p.1 = (k : Int)
      · refine List.mem_append_right _ (List.mem_flatMap.mpr ⟨p.2.toNat, List.mem_range.mpr (by omega), List.mem_map.mpr ⟨L, lds_mem n (k + 1) L (fun q hq => ?_) a.2, ?_⟩⟩)
        · have := gt q hq
          have := h q (List.mem_cons_of_mem _ hq)
          omega
        · have : (((k : Nat) : Int), ((p.2.toNat : Nat) : Int)) = p := Prod.ext c.symm (by show ((p.2.toNat : Nat) : Int) = p.2; omega)
          rw [this]
      · refine List.mem_append_left _ (lds_mem n (k + 1) (p :: L) (fun q hq => ?_) (by rw [List.map_cons, List.pairwise_cons]; exact a))
        have := h q hq
        rcases List.mem_cons.mp hq with rfl | hq
        · omega
        · have := gt q hq
          omega
def tups {α : Type} (xs : List α) : Nat → List (List α)
  | 0 => [[]]
  | j + 1 => xs.flatMap fun x => (tups xs j).map fun S => x :: S
theorem tups_len {α : Type} (xs : List α) : ∀ j, (tups xs j).length = xs.length ^ j
  | 0 => rfl
  | j + 1 => by
    rw [tups, flat_len (c := xs.length ^ j) (fun x _ => by rw [List.length_map, tups_len xs j]), Nat.pow_succ, Nat.mul_comm]
theorem tups_mem {α : Type} {xs : List α} : ∀ (S : List α), (∀ x ∈ S, x ∈ xs) → S ∈ tups xs S.length
  | [], _ => List.mem_singleton.mpr rfl
  | x :: S, h => List.mem_flatMap.mpr ⟨x, h x (List.mem_cons_self ..), List.mem_map.mpr ⟨S, tups_mem S (fun y hy => h y (List.mem_cons_of_mem _ hy)), rfl⟩⟩
theorem few {ds es : List Int} {m : Int} {Fs : List Std} (nd : Fs.Nodup) (h : ∀ S ∈ Fs, StdOk ds es m S) : Fs.length ≤ ((es.length + 1) ^ ds.length) ^ m.toNat := by
  rw [← lds_len es.length ds.length 0, ← tups_len]
  refine nodup_le nd fun S hS => ?_
  have ok := h S hS
  have := tups_mem (xs := lds es.length 0 ds.length) S fun L hL => lds_mem _ _ L (fun p hp => by
    have r := (ok.ld L hL).rng p hp
    rw [Nat.zero_add]
    exact ⟨r.1, r.2.1, r.2.2.1, r.2.2.2⟩) (ok.ld L hL).asc
  rwa [show S.length = m.toNat by have := ok.len; omega] at this
end Dbf
set_option Elab.async false
set_option linter.all false
set_option maxRecDepth 100000
set_option maxHeartbeats 4000000
namespace K12
open PySem PySem.Spec PyProof.Rows L2 Com Sd StV Gn Ext Dt
open Et (br_dec e_var e_int e_bl e_op e_nil e_cons e_tup e_cb e_test e_or e_def e_fld ixA e_ix cl_lenA e_len op_notInA e_notin t_name i_seq i_rng1 s_nx s_brk s_seq s_if s_ret s_for n_lst s_frz p_var go_upd s_app set_A s_set n_of s_ownU go_l0U go_ixAt U EndsU SpU spU endU xendU startU endE xendE br MethAtU.ok DefAtU.ok FunU.ok DefAtE.ok MethAtE.ok FunE.ok DefAtUX.ok MethAtUX.ok DefAtEX.ok CS CE CX sLoop sloop_inv ixV putU)
variable [Dt.Tb]
section
variable {P : Program} {w : World} {K : PySem.W.Frag} {mg : Str → Option Value} {base : Heap} {C : Addr}
theorem go_slT {xs ys : List Dt.D} {lo hi : Option Int} {q : KD} (e : cutD xs lo hi = ys) (h : q (.tup ys)) : fSl (.tup xs) lo hi q := by
  show q (.tup (cutD xs lo hi))
  rw [e]; exact h
def lsD (ns : List Int) : Dt.D := .lst (ns.map .int)
theorem go_lsI {ns : List Int} {i : Int} {q : KD} (h0 : 0 ≤ i) (h1 : i < ns.length) (h : q (.int (ns.getD i.toNat 0))) : fIx (lsD ns) (.int i) q := by
  obtain ⟨n, rfl⟩ := Int.eq_ofNat_of_zero_le h0
  have hl : n < ns.length := by omega
  refine go_ixL (d := .int (ns.getD n 0)) ?_ h
  rw [List.getElem?_map, List.getElem?_eq_getElem hl, List.getD_eq_getElem?_getD, List.getElem?_eq_getElem hl]
  rfl
theorem dl_step {ds is : List Int} {i : Int} (h0 : 0 ≤ i) (h1 : i < ds.length) {Q : Ev → Prop} {ρ : Ev} {k : Nat} (h : Q (ρ.set k (some (.own ((left ds (is ++ [i])).map Dt.D.int))))) :
    ∃ kk j x, (Dt.D.int i) = .int kk ∧ ixN ((left ds is).map Dt.D.int).length kk = some j ∧ ((left ds is).map Dt.D.int)[j]? = some x ∧ fI (fun _ _ => True) (fun i j => .int (i - j)) x (.int 1) fun z => Q (ρ.set k (some (.own (((left ds is).map Dt.D.int).set j z)))) := by
  obtain ⟨n, rfl⟩ := Int.eq_ofNat_of_zero_le h0
  have l1 := left_len ds is
  have hx : (left ds is)[n]? = some (left ds is)[n] := List.getElem?_eq_getElem (by omega)
  refine ⟨_, n, .int (left ds is)[n], rfl, ?_, by rw [List.getElem?_map, hx]; rfl, trivial, ?_⟩
  · unfold ixN
    rw [if_pos (by omega), if_pos (by rw [List.length_map]; omega)]
    simp
  · rw [← left_snoc hx] at h
    rw [List.map_set] at h
    exact h
def frB (p : PP) : Dt.D → Bool
  | .tup [.int a, .int b] => !decide (a = p.1) && !decide (b = p.2)
  | _ => false
theorem frB_all (L : List PP) (p : PP) : ((L.map Dt.pairD).map fun d => Dt.D.bl (frB p d)) = (L.map fun c => !decide (c.1 = p.1) && !decide (c.2 = p.2)).map Dt.D.bl := by rw [List.map_map, List.map_map]; rfl
def sdIsFree : SpD := fun xs q _ => ∃ ld L p, xs = [ld, Dt.pairD p] ∧ (ld = .tup (L.map Dt.pairD) ∨ ld = .lst (L.map Dt.pairD)) ∧ L.length ≤ 500 ∧ q (.bl (freeB L p))
theorem free_elt {ld : Dt.D} {p c : PP} {Q : KD} {e : XD} (h : Q (.bl (frB p (Dt.pairD c)))) :
    mAndV (mOp (fEq true) (mOp fIx (mVar 2) (mC (.int 0))) (mOp fIx (mVar 1) (mC (.int 0)))) (mOp (fEq true) (mOp fIx (mVar 2) (mC (.int 1))) (mOp fIx (mVar 1) (mC (.int 1)))) [some (.d ld), some (.d (Dt.pairD p)), some (.d (Dt.pairD c))] Q e := by
  refine ⟨_, rfl, go_p0 ⟨_, rfl, go_p0 (go_neI ⟨_, rfl, ?_⟩)⟩⟩
  have e1 : frB p (Dt.pairD c) = (!decide (c.1 = p.1) && !decide (c.2 = p.2)) := rfl
  rw [e1] at h
  cases c1 : decide (c.1 = p.1) with
  | true =>
    rw [c1] at h
    exact ifFF h
  | false =>
    rw [c1] at h
    exact ifTT ⟨_, rfl, go_p1 ⟨_, rfl, go_p1 (go_neI h)⟩⟩
def sdFreeFor : SpD := fun xs q _ => ∃ S p, xs = [stD S, Dt.pairD p] ∧ S.length ≤ 500 ∧ (∀ L ∈ S, L.length ≤ 500) ∧ q (lsD (frees S p))
abbrev s_is_integer : Stmt := top 26
abbrev N_is_integer : List Str := ["_law_actual"]
theorem sc_is_integer : FnScope N_is_integer ["_law_actual"] (defScope s_is_integer) := ⟨rfl, rfl, rfl, by decide +kernel, rfl, by decide +kernel, by decide +kernel⟩
theorem ok_is_integer (T : Blt mg) (D : DefAt K mg "_law_is_integer" s_is_integer ["_law_actual"]) : DefOk P w K mg base CX0 1 "_law_is_integer" (spOf (sdPlain K)) := by
  refine DefAtD.ok D sc_is_integer (fun ds q e h => by obtain ⟨d, rfl, _⟩ := h; rfl) (fun f cdv A outer s H E hr => ⟨_, _, (pss_one (ps_ret (pe_and (pe_callB (cl_isi K) (by rfl) T.z_isinstance (by decide +kernel) (pa_cons (pv 0) (pa_cons (pe_bltn (v := .ty "int") (by rfl) T.z_int (by decide +kernel) rfl) pa_nil))) (pe_one (pe_not (pe_callB (cl_isi K) (by rfl) T.z_isinstance (by decide +kernel) (pa_cons (pv 0) (pa_cons (pe_bltn (v := .ty "bool") (by rfl) T.z_bool (by decide +kernel) rfl) pa_nil)))))))), (ss_ret (si_andV (si_isi (.ty "int") si_var) (si_notV (si_isi (.ty "bool") si_var)))), fun ds q e h => ?_⟩)
  obtain ⟨d, rfl, hc, h⟩ := h
  refine ⟨d, rfl, isi_go hc ⟨_, rfl, ?_⟩⟩
  have e1 := plain_isi d
  cases c : isiD "int" d with
  | true =>
    refine ⟨d, rfl, isi_go hc ⟨_, rfl, ?_⟩⟩
    rw [c, Bool.true_and] at e1
    rw [e1]
    exact h
  | false =>
    rw [c, Bool.false_and] at e1
    show q (.bl false)
    rw [e1]
    exact h
abbrev s_doors : Stmt := top 27
abbrev N_doors : List Str := ["_law_flow_here", "_law_most", "_law_doors_here", "_law_k"]
theorem sc_doors : FnScope N_doors ["_law_flow_here", "_law_most", "_law_doors_here"] (defScope s_doors) := ⟨rfl, rfl, rfl, by decide +kernel, rfl, by decide +kernel, by decide +kernel⟩
def sdDoors : SpD := fun xs q _ => ∃ a most many, xs = [.flow a, .int most, .int many] ∧ 1 ≤ most ∧ most ≤ 4 ∧ 1 ≤ many ∧ many ≤ 4 ∧ ∀ ds : List Int, 1 ≤ ds.length → (ds.length : Int) ≤ most → (∀ d ∈ ds, 1 ≤ d ∧ d ≤ many) → q (intsD ds)
theorem ok_doors (T : Blt mg) (D_pick : DefOk P w K mg base CX0 1 "_law_pick" (spOf spPickD)) (Df : DefAt K mg "_law_doors" s_doors ["_law_flow_here", "_law_most", "_law_doors_here"]) : DefOk P w K mg base CX0 2 "_law_doors" (spOf sdDoors) := by
  refine DefAtD.ok Df sc_doors (fun ds q e h => by obtain ⟨_, _, _, rfl, _⟩ := h; rfl) (fun f cdv A outer s H E hr => ⟨_, _, (pss_one (ps_ret (pe_callTy (cl_tuple K) (by rfl) T.z_tuple (by decide +kernel) (pa_cons (pe_lc (own := [("_law_k", 3)]) (g := gName 3) (tt := tYes) rfl sc_doors.nd (pi_range1 (by rfl) T.z_range (pa_cons (pe_op op_plus pe_int (pe_def D_pick hr (by decide) passE (pa_cons (pv 0) (pa_cons (pv 1) pa_nil)))) pa_nil)) (blkOk_by (N := N_doors) (sc := defScope s_doors) (by decide +kernel)) (fun _ _ _ _ _ => (pg_name (i := 3) sc_doors.nd rfl (Or.inl rfl))) (fun _ _ _ _ _ => pts_nil) (fun _ _ _ _ _ => (pe_op op_plus pe_int (pe_def D_pick hr (by decide) passE (pa_cons (pv 0) (pa_cons (pv 2) pa_nil)))))) pa_nil)))), (ss_ret (si_cb (si_cons (si_lc (si_rng1 (si_cons (si_op si_int (si_def (si_cons si_var (si_cons si_var si_nil))) sr_plus) si_nil)) sg_name si_yes (si_op si_int (si_def (si_cons si_var (si_cons si_var si_nil))) sr_plus) (by decide)) si_nil) sc_tuple)), fun ds q e h => ?_⟩)
  obtain ⟨a, most, many, rfl, h1, h2, h3, h4, h⟩ := h
  refine ⟨_, rfl, _, rfl, a, most, rfl, by omega, by omega, fun n n0 n1 => ⟨_, rfl, by omega, by omega, ?_⟩⟩
  refine lcL_step (fun i acc => ∃ ns : List Int, acc = ns.map .int ∧ ns.length = i ∧ ∀ k ∈ ns, 1 ≤ k ∧ k ≤ many) _ 0 [] ⟨[], rfl, rfl, fun _ h => nomatch h⟩ ?_ ?_
  · rintro j d acc N hj ⟨ns, rfl, hl, hb⟩ hN
    have hj' := (List.getElem?_eq_some_iff.mp hj).1
    rw [List.length_map, List.length_range] at hj'
    refine ifTT ⟨_, rfl, _, rfl, a, many, rfl, by omega, by omega, fun x x0 x1 => ⟨by rw [List.length_map]; exact szl (by omega), hN _ ⟨ns ++ [1 + x], by rw [List.map_append]; rfl, by rw [List.length_append, hl]; rfl, fun k hk => ?_⟩⟩⟩
    rcases List.mem_append.mp hk with hk | hk
    · exact hb k hk
    · rw [List.mem_singleton.mp hk]; omega
  · rintro acc ⟨ns, rfl, hl, hb⟩
    rw [List.length_map, List.length_range] at hl
    exact ⟨_, .inr rfl, h ns (by omega) (by omega) hb⟩
abbrev s_free : Stmt := top 28
abbrev N_free : List Str := ["_law_load", "_law_pair", "_law_one"]
theorem sc_free : FnScope N_free ["_law_load", "_law_pair"] (defScope s_free) := ⟨rfl, rfl, rfl, by decide +kernel, rfl, by decide +kernel, by decide +kernel⟩
theorem ok_lfree (T : Blt mg) (Df : DefAt K mg "_law_free" s_free ["_law_load", "_law_pair"]) : DefOk P w K mg base CX0 1 "_law_free" (spOf sdIsFree) := by
  refine DefAtD.ok Df sc_free (fun ds q e h => by obtain ⟨_, _, _, rfl, _⟩ := h; rfl) (fun f cdv A outer s H E hr => ?_)
  have hu := hr.units
  refine ⟨_, _, (pss_one (ps_ret (pe_callB (cl_all K) (by rfl) T.z_all (by decide +kernel) (pa_cons (pe_lc (own := [("_law_one", 2)]) (g := gName 2) (tt := tYes) rfl sc_free.nd (pi_seq K (pv 0)) (blkOk_by (N := N_free) (sc := defScope s_free) (by decide +kernel)) (fun _ _ _ _ _ => (pg_name (i := 2) sc_free.nd rfl (Or.inl rfl))) (fun _ _ _ _ _ => pts_nil) (fun _ _ _ _ _ => (pe_and (pe_cmpR (neD K hu) (pe_ix (ixU K) (pv 2) pe_int (fun _ _ => rfl)) (pe_ix (ixU K) (pv 1) pe_int (fun _ _ => rfl)) (nomark _)) (pe_one (pe_cmpR (neD K hu) (pe_ix (ixU K) (pv 2) pe_int (fun _ _ => rfl)) (pe_ix (ixU K) (pv 1) pe_int (fun _ _ => rfl)) (nomark _)))))) pa_nil)))), (ss_ret (si_cb (si_cons (si_lc (si_seq si_var) sg_name si_yes (si_andV (si_op (si_op si_var si_int sr_ix) (si_op si_var si_int sr_ix) sr_ne) (si_op (si_op si_var si_int sr_ix) (si_op si_var si_int sr_ix) sr_ne)) (by decide)) si_nil) sc_all)), fun ds q e h => ?_⟩
  obtain ⟨ld, L, p, rfl, hl, h5, h⟩ := h
  refine ⟨_, rfl, _, hl, lcL_map (fun d => .bl (frB p d)) _ [] (by rw [List.length_map]; show 0 + _ ≤ _; omega) (fun d hd Q hQ => ?_) ?_⟩
  · obtain ⟨c, _, rfl⟩ := List.mem_map.mp hd
    exact free_elt hQ
  rw [List.nil_append, frB_all]
  refine ⟨_, rfl, ?_⟩
  rw [List.all_map]
  exact h
abbrev s_middles : Stmt := top 32
abbrev N_middles : List Str := ["_law_standing", "_law_pair", "_law_k"]
theorem sc_middles : FnScope N_middles ["_law_standing", "_law_pair"] (defScope s_middles) := ⟨rfl, rfl, rfl, by decide +kernel, rfl, by decide +kernel, by decide +kernel⟩
theorem ok_lmiddles (T : Blt mg) (D_free : DefOk P w K mg base CX0 1 "_law_free" (spOf sdIsFree)) (Df : DefAt K mg "_law_middles" s_middles ["_law_standing", "_law_pair"]) : DefOk P w K mg base CX0 2 "_law_middles" (spOf sdFreeFor) := by
  refine DefAtD.ok Df sc_middles (fun ds q e h => by obtain ⟨_, _, rfl, _⟩ := h; rfl) (fun f cdv A outer s H E hr => ⟨_, _, (pss_one (ps_ret (pe_lc (own := [("_law_k", 2)]) (g := gName 2) (tt := _) rfl sc_middles.nd (pi_range1 (by rfl) T.z_range (pa_cons (pe_callB (cl_len K) (by rfl) T.z_len (by decide +kernel) (pa_cons (pv 0) pa_nil)) pa_nil)) (blkOk_by (N := N_middles) (sc := defScope s_middles) (by decide +kernel)) (fun _ _ _ _ _ => (pg_name (i := 2) sc_middles.nd rfl (Or.inl rfl))) (fun _ _ _ _ _ => (pts_one (pt_val (pe_def D_free hr (by decide) passE (pa_cons (pe_ix (ixU K) (pv 0) (pv 2) (fun _ _ => rfl)) (pa_cons (pv 1) pa_nil)))))) (fun _ _ _ _ _ => (pv 2))))), (ss_ret (si_lc (si_rng1 (si_cons (si_cb (si_cons si_var si_nil) sc_len) si_nil)) sg_name (si_B (si_def (si_cons (si_op si_var si_var sr_ix) (si_cons si_var si_nil)))) si_var (by decide))), fun ds q e h => ?_⟩)
  obtain ⟨S, p, rfl, h5, hL, h⟩ := h
  refine ⟨_, rfl, go_lenT ⟨_, rfl, by rw [List.length_map]; omega, by omega, ?_⟩⟩
  rw [List.length_map, Int.toNat_natCast]
  refine lcL_filter (fun d => match d with | .int k => freeB (S.getD k.toNat []) p | _ => false) id _ [] (by rw [List.length_map, List.length_range]; show 0 + _ ≤ _; omega) (fun d hd Q hQ => ?_) ?_
  · obtain ⟨k, hk, rfl⟩ := List.mem_map.mp hd
    have hk := List.mem_range.mp hk
    have e1 : S[k]? = some (S.getD k []) := by rw [List.getD_eq_getElem?_getD, List.getElem?_eq_getElem hk]; rfl
    refine ⟨_, rfl, _, rfl, go_ixT (d := ldD (S.getD k [])) (by rw [List.getElem?_map, e1]; rfl) ⟨_, rfl, _, _, p, rfl, .inl rfl, hL _ (List.mem_of_getElem? e1), _, rfl, ?_⟩⟩
    exact hQ [some (.d (stD S)), some (.d (Dt.pairD p)), some (.d (.int (k : Int)))] fun _ Q' hQ' => ⟨_, rfl, hQ'⟩
  · rw [List.nil_append, List.map_id, List.filter_map]
    have e : ((List.range S.length).filter ((fun d => match d with | Dt.D.int k => freeB (S.getD k.toNat []) p | _ => false) ∘ fun (i : Nat) => Dt.D.int (i : Int))).map (fun (i : Nat) => Dt.D.int (i : Int)) = (frees S p).map .int := by
      unfold frees
      rw [List.map_map]
      rfl
    rw [e]
    exact h
abbrev s_calls : Stmt := top 29
abbrev N_calls : List Str := ["_law_standing", "_law_pairs", "_law_load"]
theorem sc_calls : FnScope N_calls ["_law_standing"] (defScope s_calls) := ⟨rfl, rfl, rfl, by decide +kernel, rfl, by decide +kernel, by decide +kernel⟩
def sdLCalls : SpD := fun xs q _ => ∃ S, xs = [stD S] ∧ S.length ≤ 100 ∧ (∀ L ∈ S, L.length ≤ 500) ∧ q (.lst ((srt S.flatten).map Dt.pairD))
theorem ok_lcalls (T : Blt mg) (Df : DefAt K mg "_law_calls" s_calls ["_law_standing"]) : DefOk P w K mg base CX0 1 "_law_calls" (spOf sdLCalls) := by
  refine DefAtD.ok Df sc_calls (fun ds q e h => by obtain ⟨_, rfl, _⟩ := h; rfl) (fun f cdv A outer s H E hr => ⟨_, _, (pss_cons (ps_set (i := 1) sc_calls.nd rfl (Or.inl rfl) (pe_lst pa_nil))
    (pss_cons (ps_for PassesOwn.never rfl (pi_seq K (pv 0)) (pg_name (i := 2) sc_calls.nd rfl (Or.inl rfl))
      (pss_one (ps_set (i := 1) sc_calls.nd rfl (Or.inl rfl) (pe_op op_plus (pv 1) (pe_callTy (cl_list K) (by rfl) T.z_list (by decide +kernel) (pa_cons (pv 2) pa_nil))))))
    (pss_one (ps_ret (pe_callB (cr_srtP K) (by rfl) T.z_sorted (by decide +kernel) (pa_cons (pv 1) pa_nil)))))), (ss_seq (ss_asg (si_lst si_nil) sg_name)
    (ss_seq (ss_for (si_seq si_var) sg_name
      (ss_asg (si_op si_var (si_cb (si_cons si_var si_nil) sc_list) sr_plus) sg_name))
    (ss_ret (si_cb (si_cons si_var si_nil) sc_srtP)))), fun ds q e h => ?_⟩)
  obtain ⟨S, rfl, s1, s2, h⟩ := h
  have hlen : ∀ i, (S.take i).flatten.length ≤ i * 500 := by
    intro i
    induction i with
    | zero => simp
    | succ i ih =>
      rw [List.take_add_one, List.flatten_append, List.length_append]
      have : ((S[i]?).toList.flatten).length ≤ 500 := by
        cases e : S[i]? with
        | none => simp
        | some L => simpa using s2 L (List.mem_of_getElem? e)
      omega
  refine ⟨(by show 0 ≤ sizeLine; decide), _, rfl, S.map ldD, .inl rfl, loop_inv (fun i ρ => ∃ w1, ρ = [some (.d (stD S)), some (.d (.lst ((S.take i).flatten.map Dt.pairD))), w1]) _ 0 _ ⟨none, rfl⟩ ?_ ?_⟩
  · rintro k x ρ N hk ⟨w1, rfl⟩ hN
    rw [Nat.zero_add] at hN ⊢
    rw [List.getElem?_map] at hk
    cases hL : S[k]? with
    | none => rw [hL] at hk; cases hk
    | some L =>
      rw [hL] at hk
      cases hk
      have hkl := (List.getElem?_eq_some_iff.mp hL).1
      have := hlen k
      have := s2 L (List.mem_of_getElem? hL)
      refine ⟨_, rfl, _, rfl, _, .inl rfl, ?_⟩
      refine ⟨by rw [List.length_map, List.length_map]; exact szle (by omega), hN _ ⟨some (.d (ldD L)), ?_⟩⟩
      have e5 : (S.take (k + 1)).flatten = (S.take k).flatten ++ L := by
        rw [List.take_add_one, hL]
        simp
      rw [e5, List.map_append]
      rfl
  · rintro ρ ⟨w1, rfl⟩
    rw [Nat.zero_add, List.length_map, List.take_length]
    exact ⟨_, rfl, S.flatten, rfl, h⟩
abbrev s_left : Stmt := top 30
abbrev N_left : List Str := ["_law_exchange", "_law_standing", "_law_ins", "_law_outs", "_law_pair"]
theorem sc_left : FnScope N_left ["_law_exchange", "_law_standing"] (defScope s_left) := ⟨rfl, rfl, rfl, by decide +kernel, rfl, by decide +kernel, by decide +kernel⟩
def sdLLeft (C : Addr) : SpD := fun xs q _ => ∃ ds es m S, xs = [exD C ds es m, stD S] ∧ S.length ≤ 100 ∧ (∀ L ∈ S, L.length ≤ 500) ∧ (∀ L ∈ S, ∀ p ∈ L, InP ds.length es.length p) ∧ q (.lst [lsD (left ds (fs S)), lsD (left es (sn S))])
theorem ok_lleft (T : Blt mg) (X : ExC K mg C) (D_calls : DefOk P w K mg base CX0 1 "_law_calls" (spOf sdLCalls)) (Df : DefAt K mg "_law_left" s_left ["_law_exchange", "_law_standing"]) : DefOk P w K mg base CX0 2 "_law_left" (spOf (sdLLeft C)) := by
  refine DefAtD.ok Df sc_left (fun ds q e h => by obtain ⟨_, _, _, _, rfl, _⟩ := h; rfl) (fun f cdv A outer s H E hr => ?_)
  refine ⟨_, _, (pss_cons (ps_set (i := 2) sc_left.nd rfl (Or.inl rfl) (pe_callTy (cl_list K) (by rfl) T.z_list (by decide +kernel) (pa_cons (pe_fldK K (pv 0)) pa_nil)))
    (pss_cons (ps_set (i := 3) sc_left.nd rfl (Or.inl rfl) (pe_callTy (cl_list K) (by rfl) T.z_list (by decide +kernel) (pa_cons (pe_fldK K (pv 0)) pa_nil)))
    (pss_cons (ps_for PassesOwn.never rfl (pi_seq K (pe_def D_calls hr (by decide) passE (pa_cons (pv 1) pa_nil))) (pg_name (i := 4) sc_left.nd rfl (Or.inl rfl))
      (pss_cons (ps_augS (pv 2) (pe_ix (ixU K) (pv 4) pe_int (fun _ _ => rfl)) (getL K) pe_int ip_sub set_list)
      (pss_one (ps_augS (pv 3) (pe_ix (ixU K) (pv 4) pe_int (fun _ _ => rfl)) (getL K) pe_int ip_sub set_list))))
    (pss_one (ps_ret (pe_lst (pa_cons (pv 2) (pa_cons (pv 3) pa_nil)))))))), (ss_seq (ss_own (sn_cb (si_cons (si_fld X.t.cl X.nI si_var) si_nil) scn_list))
    (ss_seq (ss_own (sn_cb (si_cons (si_fld X.t.cl X.nO si_var) si_nil) scn_list))
    (ss_seq (ss_for (si_seq (si_def (si_cons si_var si_nil))) sg_name
      (ss_seq (ss_augS si_int (si_op si_var si_int sr_ix) ip_I)
      (ss_augS si_int (si_op si_var si_int sr_ix) ip_I)))
    (ss_frz (i := 3) (ss_frz (i := 2) (ss_ret (si_lst (si_cons si_var (si_cons si_var si_nil))))))))), fun ds q e h => ?_⟩
  obtain ⟨ds, es, m, S, rfl, s1, s2, hR, h⟩ := h
  have pm := srt_perm S.flatten
  have hR2 : ∀ p ∈ srt S.flatten, InP ds.length es.length p := fun p hp => by
    obtain ⟨L, hL, hpL⟩ := List.mem_flatten.mp (pm.mem_iff.mp hp)
    exact hR L hL p hpL
  have p1 : left ds ((srt S.flatten).map (·.1)) = left ds (fs S) := left_perm (pm.map _)
  have p2 : left es ((srt S.flatten).map (·.2)) = left es (sn S) := left_perm (pm.map _)
  refine ⟨_, rfl, _, _, _, rfl, rfl, ds.map Dt.D.int, .inl rfl, _, rfl, _, _, _, rfl, rfl, es.map Dt.D.int, .inl rfl, ?_⟩
  refine ⟨_, rfl, S, rfl, s1, s2, _, .inr rfl, loop_inv (fun j ρ => ∃ w1, ρ = [some (.d (exD C ds es m)), some (.d (stD S)), some (.own ((left ds (((srt S.flatten).take j).map (·.1))).map .int)), some (.own ((left es (((srt S.flatten).take j).map (·.2))).map .int)), w1]) _ 0 _ ⟨none, ?_⟩ ?_ ?_⟩
  · rw [List.take_zero, List.map_nil, List.map_nil, left_nil, left_nil]
    rfl
  · rintro j x ρ N2 hj ⟨w1, rfl⟩ hN2
    rw [Nat.zero_add] at hN2 ⊢
    rw [List.getElem?_map] at hj
    cases hp : (srt S.flatten)[j]? with
    | none => rw [hp] at hj; cases hj
    | some p =>
      rw [hp] at hj
      cases hj
      obtain ⟨r1, r2, r3, r4⟩ := hR2 p (List.mem_of_getElem? hp)
      have eL : (srt S.flatten).take (j + 1) = (srt S.flatten).take j ++ [p] := by
        rw [List.take_add_one, hp]
        rfl
      refine ⟨_, rfl, _, rfl, go_p0 (dl_step r1 r2 (ρ := [some (.d (exD C ds es m)), some (.d (stD S)), some (.own ((left ds (((srt S.flatten).take j).map (·.1))).map .int)), some (.own ((left es (((srt S.flatten).take j).map (·.2))).map .int)), some (.d (Dt.pairD p))]) ?_)⟩
      refine ⟨_, rfl, _, rfl, go_p1 (dl_step r3 r4 (ρ := [some (.d (exD C ds es m)), some (.d (stD S)), some (.own ((left ds (((srt S.flatten).take j).map (·.1) ++ [p.1])).map .int)), some (.own ((left es (((srt S.flatten).take j).map (·.2))).map .int)), some (.d (Dt.pairD p))]) ?_)⟩
      refine hN2 _ ⟨some (.d (Dt.pairD p)), ?_⟩
      rw [eL, List.map_append, List.map_append]
      rfl
  · rintro ρ ⟨w1, rfl⟩
    rw [Nat.zero_add, List.length_map, List.take_length, p1, p2]
    exact ⟨_, rfl, _, rfl, _, rfl, _, rfl, (by show 2 ≤ sizeLine; decide), h⟩
abbrev s_put : Stmt := top 33
abbrev N_put : List Str := ["_law_standing", "_law_pair", "_law_k"]
theorem sc_put : FnScope N_put ["_law_standing", "_law_pair", "_law_k"] (defScope s_put) := ⟨rfl, rfl, rfl, by decide +kernel, rfl, by decide +kernel, by decide +kernel⟩
def sdLPut : SpD := fun xs q _ => ∃ S p k L, xs = [stD S, Dt.pairD p, .int ((k : Nat) : Int)] ∧ S[k]? = some L ∧ S.length ≤ 100 ∧ L.length ≤ 500 ∧ q (stD (S.set k (srt (L ++ [p]))))
theorem ok_lput (T : Blt mg) (Df : DefAt K mg "_law_put" s_put ["_law_standing", "_law_pair", "_law_k"]) : DefOk P w K mg base CX0 1 "_law_put" (spOf sdLPut) := by
  refine DefAtD.ok Df sc_put (fun ds q e h => by obtain ⟨_, _, _, _, rfl, _⟩ := h; rfl) (fun f cdv A outer s H E hr => ⟨_, _, (pss_one (ps_ret (pe_op op_plus (pe_op op_plus (pe_slice (slU K) (pv 0) po_none (po_some (pv 2))) (pe_tup (pa_cons (pe_callTy (cl_tuple K) (by rfl) T.z_tuple (by decide +kernel) (pa_cons (pe_callB (cr_srtP K) (by rfl) T.z_sorted (by decide +kernel) (pa_cons (pe_op op_plus (pe_callTy (cl_list K) (by rfl) T.z_list (by decide +kernel) (pa_cons (pe_ix (ixU K) (pv 0) (pv 2) (fun _ _ => rfl)) pa_nil)) (pe_lst (pa_cons (pv 1) pa_nil))) pa_nil)) pa_nil)) pa_nil))) (pe_slice (slU K) (pv 0) (po_some (pe_op op_plus (pv 2) pe_int)) po_none)))), (ss_ret (si_op (si_op (si_sl si_var si_noP (si_part si_var) sl_U) (si_tup (si_cons (si_cb (si_cons (si_cb (si_cons (si_op (si_cb (si_cons (si_op si_var si_var sr_ix) si_nil) sc_list) (si_lst (si_cons si_var si_nil)) sr_plus) si_nil) sc_srtP) si_nil) sc_tuple) si_nil)) sr_plus) (si_sl si_var (si_part (si_op si_var si_int sr_plus)) si_noP sl_U) sr_plus)), fun ds q e h => ?_⟩)
  obtain ⟨S, p, k, L, rfl, hk, s1, l1, h⟩ := h
  have hkl := (List.getElem?_eq_some_iff.mp hk).1
  refine ⟨_, rfl, _, rfl, _, rfl, go_slT (ys := (S.take k).map ldD) (by rw [cut_take (by omega), Int.toNat_natCast, List.map_take]) ?_⟩
  refine ⟨_, rfl, _, rfl, go_ixT (d := ldD L) (by rw [List.getElem?_map, hk]; rfl) ⟨_, .inl rfl, _, rfl, (by show 1 ≤ sizeLine; decide), ?_⟩⟩
  refine ⟨by rw [List.length_map]; exact szle (by show _ + 1 ≤ _; omega), L ++ [p], by rw [List.map_append]; rfl, _, .inr rfl, (by show 1 ≤ sizeLine; decide), ?_⟩
  refine ⟨by rw [List.length_map, List.length_take]; show _ + 1 ≤ 1000; omega, _, rfl, _, rfl, _, rfl, go_slT (ys := (S.drop (k + 1)).map ldD) ?_ ⟨?_, ?_⟩⟩
  · rw [cut_drop (by omega) (by rw [List.length_map]; omega), show ((k : Int) + 1).toNat = k + 1 by omega, List.map_drop]
  · rw [List.length_append, List.length_map, List.length_map, List.length_take, List.length_drop]
    show _ + 1 + _ ≤ 1000
    omega
  · have e : stD (S.set k (srt (L ++ [p]))) = .tup ((S.take k).map ldD ++ [.tup ((srt (L ++ [p])).map Dt.pairD)] ++ (S.drop (k + 1)).map ldD) := by
      rw [List.set_eq_take_append_cons_drop, if_pos hkl]
      unfold stD
      rw [List.map_append, List.map_cons, List.append_assoc]
      rfl
    rw [e] at h
    exact h
end
end K12
set_option Elab.async false
set_option linter.all false
set_option maxRecDepth 100000
set_option maxHeartbeats 4000000
namespace K12
open PySem PySem.Spec PyProof.Rows L2 Com Sd StV Gn Ext Dt
open Et (br_dec e_var e_int e_bl e_op e_nil e_cons e_tup e_cb e_test e_or e_def e_fld ixA e_ix cl_lenA e_len op_notInA e_notin t_name i_seq i_rng1 s_nx s_brk s_seq s_if s_ret s_for n_lst s_frz p_var go_upd s_app set_A s_set n_of s_ownU go_l0U go_ixAt U EndsU SpU spU endU xendU startU endE xendE br MethAtU.ok DefAtU.ok FunU.ok DefAtE.ok MethAtE.ok FunE.ok DefAtUX.ok MethAtUX.ok DefAtEX.ok CS CE CX sLoop sloop_inv ixV putU)
variable [Dt.Tb]
section
variable {P : Program} {w : World} {K : PySem.W.Frag} {mg : Str → Option Value} {base : Heap} {C : Addr}
open Dbf
abbrev s_longer : Stmt := top 35
abbrev N_longer : List Str := ["_law_exchange", "_law_one", "_law_rows", "_law_left_here", "_law_i", "_law_o", "_law_k"]
theorem sc_longer : FnScope N_longer ["_law_exchange", "_law_one"] (defScope s_longer) := ⟨rfl, rfl, rfl, by decide +kernel, rfl, by decide +kernel, by decide +kernel⟩
def sdLonger (C : Addr) : SpD := fun xs q _ => ∃ ds es m S, xs = [exD C ds es m, stD S] ∧ GE ds es m ∧ StdOk ds es m S ∧ ∀ Ts : List Std, (∀ T ∈ Ts, ∃ p k L, Nx ds es S p k L ∧ T.Perm (S.set k (srt (L ++ [p])))) → (∀ p k L, Nx ds es S p k L → ∃ T ∈ Ts, T.Perm (S.set k (srt (L ++ [p])))) → Ts.length ≤ 112 → q (.lst (Ts.map stD))
structure LgOk (ds es : List Int) (S : Std) (Ts : List Std) (Done : PP → Nat → Prop) (n : Nat) : Prop where
  snd : ∀ T ∈ Ts, ∃ p k L, Nx ds es S p k L ∧ T.Perm (S.set k (srt (L ++ [p])))
  cov : ∀ p k L, Nx ds es S p k L → Done p k → ∃ T ∈ Ts, T.Perm (S.set k (srt (L ++ [p])))
  ln : Ts.length ≤ n
theorem LgOk.imp {ds es : List Int} {S : Std} {Ts : List Std} {D D' : PP → Nat → Prop} {n n' : Nat} (h : LgOk ds es S Ts D n) (hn : n ≤ n') (hd : ∀ p k L, Nx ds es S p k L → D' p k → D p k) : LgOk ds es S Ts D' n' := ⟨h.snd, fun p k L x d => h.cov p k L x (hd p k L x d), Nat.le_trans h.ln hn⟩
theorem rng_get {n j : Nat} {x : Dt.D} (h : ((List.range n).map fun (i : Nat) => Dt.D.int (i : Int))[j]? = some x) : j < n ∧ x = .int ((j : Nat) : Int) := by
  rw [List.getElem?_map] at h
  cases e : (List.range n)[j]? with
  | none => rw [e] at h; cases h
  | some z =>
    rw [e] at h
    cases h
    have h1 := (List.getElem?_eq_some_iff.mp e).1
    have h2 := (List.getElem?_eq_some_iff.mp e).2
    rw [List.getElem_range] at h2
    subst h2
    exact ⟨by simpa using h1, rfl⟩
theorem frees_mem {S : Std} {p : PP} {z : Int} (h : z ∈ frees S p) : ∃ k L, z = ((k : Nat) : Int) ∧ S[k]? = some L ∧ freeB L p = true := by
  unfold frees at h
  obtain ⟨k, hk, rfl⟩ := List.mem_map.mp h
  obtain ⟨h1, h2⟩ := List.mem_filter.mp hk
  have h1 := List.mem_range.mp h1
  refine ⟨k, S[k], rfl, List.getElem?_eq_getElem h1, ?_⟩
  rw [List.getD_eq_getElem?_getD, List.getElem?_eq_getElem h1] at h2
  exact h2
theorem mem_frees {S : Std} {p : PP} {k : Nat} {L : List PP} (hk : S[k]? = some L) (hf : freeB L p = true) : ((k : Nat) : Int) ∈ frees S p := by
  unfold frees
  refine List.mem_map.mpr ⟨k, List.mem_filter.mpr ⟨List.mem_range.mpr (List.getElem?_eq_some_iff.mp hk).1, ?_⟩, rfl⟩
  rw [List.getD_eq_getElem?_getD, hk]
  exact hf
theorem frees_len (S : Std) (p : PP) : (frees S p).length ≤ S.length := by
  unfold frees
  rw [List.length_map]
  exact Nat.le_trans (List.length_filter_le _ _) (by rw [List.length_range]; exact Nat.le_refl _)
theorem ok_longer (T : Blt mg) (X : ExC K mg C) (D_left : DefOk P w K mg base CX0 2 "_law_left" (spOf (sdLLeft C))) (D_middles : DefOk P w K mg base CX0 2 "_law_middles" (spOf sdFreeFor)) (D_put : DefOk P w K mg base CX0 1 "_law_put" (spOf sdLPut)) (Df : DefAt K mg "_law_longer" s_longer ["_law_exchange", "_law_one"]) : DefOk P w K mg base CX0 3 "_law_longer" (spOf (sdLonger C)) := by
  refine DefAtD.ok Df sc_longer (fun ds q e h => by obtain ⟨_, _, _, _, rfl, _⟩ := h; rfl) (fun f cdv A outer s H E hr => ?_)
  have hu := hr.units
  refine ⟨_, _, (pss_cons (ps_set (i := 2) sc_longer.nd rfl (Or.inl rfl) (pe_lst pa_nil))
    (pss_cons (ps_set (i := 3) sc_longer.nd rfl (Or.inl rfl) (pe_def D_left hr (by decide) passE (pa_cons (pv 0) (pa_cons (pv 1) pa_nil))))
    (pss_cons (ps_for PassesOwn.never rfl (pi_range1 (by rfl) T.z_range (pa_cons (pe_callB (cl_len K) (by rfl) T.z_len (by decide +kernel) (pa_cons (pe_fldK K (pv 0)) pa_nil)) pa_nil)) (pg_name (i := 4) sc_longer.nd rfl (Or.inl rfl))
      (pss_one (ps_for PassesOwn.never rfl (pi_range1 (by rfl) T.z_range (pa_cons (pe_callB (cl_len K) (by rfl) T.z_len (by decide +kernel) (pa_cons (pe_fldK K (pv 0)) pa_nil)) pa_nil)) (pg_name (i := 5) sc_longer.nd rfl (Or.inl rfl))
        (pss_one (ps_if (PW.pt (pw_and (pt_cmpR op_gt (pe_ix (ixU K) (pe_ix (ixU K) (pv 3) pe_int (fun _ _ => rfl)) (pv 4) (fun _ _ => rfl)) pe_int (nomark _)) (pw_and1 (pt_cmpR op_gt (pe_ix (ixU K) (pe_ix (ixU K) (pv 3) pe_int (fun _ _ => rfl)) (pv 5) (fun _ _ => rfl)) pe_int (nomark _)))))
          (pss_one (ps_for PassesOwn.never rfl (pi_seq K (pe_def D_middles hr (by decide) passE (pa_cons (pv 1) (pa_cons (pe_tup (pa_cons (pv 4) (pa_cons (pv 5) pa_nil))) pa_nil)))) (pg_name (i := 6) sc_longer.nd rfl (Or.inl rfl))
            (pss_one (ps_expr (pe_bm PySem.F.plainAttrs_list PySem.F.slot_list_append PySem.F.type_list_append mt_append (pv 2) (pa_cons (pe_callTy (cl_tuple K) (by rfl) T.z_tuple (by decide +kernel) (pa_cons (pe_callB (Srl.cr_srtL hu K) (by rfl) T.z_sorted (by decide +kernel) (pa_cons (pe_def D_put hr (by decide) passE (pa_cons (pv 1) (pa_cons (pe_tup (pa_cons (pv 4) (pa_cons (pv 5) pa_nil))) (pa_cons (pv 6) pa_nil)))) pa_nil)) pa_nil)) pa_nil))))))
          pss_nil)))))
    (pss_one (ps_ret (pv 2)))))), (ss_seq (ss_own (sn_lst si_nil))
    (ss_seq (ss_asg (si_def (si_cons si_var (si_cons si_var si_nil))) sg_name)
    (ss_seq (ss_for (si_rng1 (si_cons (si_cb (si_cons (si_fld X.t.cl X.nI si_var) si_nil) sc_len) si_nil)) sg_name
      (ss_for (si_rng1 (si_cons (si_cb (si_cons (si_fld X.t.cl X.nO si_var) si_nil) sc_len) si_nil)) sg_name
        (ss_if (si_and (si_test (si_op (si_op (si_op si_var si_int sr_ix) si_var sr_ix) si_int sr_B0)) (si_test (si_op (si_op (si_op si_var si_int sr_ix) si_var sr_ix) si_int sr_B0)))
          (ss_for (si_seq (si_def (si_cons si_var (si_cons (si_tup (si_cons si_var (si_cons si_var si_nil))) si_nil)))) sg_name
            (ss_app (si_cb (si_cons (si_cb (si_cons (si_def (si_cons si_var (si_cons (si_tup (si_cons si_var (si_cons si_var si_nil))) (si_cons si_var si_nil)))) si_nil) sc_srtL) si_nil) sc_tuple)))
          ss_nx)))
    (ss_frz (i := 2) (ss_ret si_var))))), fun xs q e h => ?_⟩
  obtain ⟨ds, es, m, S, rfl, g, hS, h⟩ := h
  have hl := hS.len
  have m1 := g.m1
  have m2 := g.m2
  have g1 := g.gi.2.1
  have g2 := g.go.2.1
  have l4 : ∀ L ∈ S, L.length ≤ 500 := fun L hL => by
    have := (hS.ld L hL).len
    omega
  refine ⟨by decide, _, rfl, _, rfl, ds, es, m, S, rfl, by omega, l4, fun L hL => (hS.ld L hL).rng, ?_⟩
  have n0 : (left ds (fs S)).length = ds.length := left_len ..
  have n1 : (left es (sn S)).length = es.length := left_len ..
  have hop : ∀ i o : Nat, (0 < (left ds (fs S)).getD i 0 ∧ 0 < (left es (sn S)).getD o 0) ↔ openB ds es S (((i : Nat) : Int), ((o : Nat) : Int)) = true := fun i o => by
    rw [open_iff]
    exact Iff.rfl
  generalize left ds (fs S) = l0 at n0 hop
  generalize left es (sn S) = l1 at n1 hop
  have Rg : ∀ ns : List Int, ((List.range (((ns.map Dt.D.int).length : Nat) : Int).toNat).map fun (i : Nat) => Dt.D.int (i : Int)) = (List.range ns.length).map fun (i : Nat) => Dt.D.int (i : Int) := fun ns => by rw [List.length_map, Int.toNat_natCast]
  have Rl : ∀ n : Nat, ((List.range n).map fun (i : Nat) => Dt.D.int (i : Int)).length = n := fun n => by rw [List.length_map, List.length_range]
  refine ⟨_, rfl, _, _, _, rfl, rfl, go_lenT ⟨_, rfl, by rw [List.length_map]; omega, by omega, ?_⟩⟩
  rw [Rg]
  refine loop_inv (fun i ρ => ∃ Ts w4 w5 w6, ρ = [some (.d (exD C ds es m)), some (.d (stD S)), some (.own (Ts.map stD)), some (.d (.lst [lsD l0, lsD l1])), w4, w5, w6] ∧ LgOk ds es S Ts (fun p _ => p.1 < (i : Int)) (i * 28)) _ 0 _ ⟨[], none, none, none, rfl, (fun _ h => nomatch h), (fun p k L x d => absurd d (by have := x.1.1; show ¬ p.1 < ((0 : Nat) : Int); omega)), Nat.zero_le _⟩ ?_ ?_
  · rintro i x ρ N hi ⟨Ts, w4, w5, w6, rfl, lg⟩ hN
    rw [Nat.zero_add] at lg hN
    obtain ⟨hi1, rfl⟩ := rng_get hi
    refine ⟨_, rfl, _, _, _, rfl, rfl, go_lenT ⟨_, rfl, by rw [List.length_map]; omega, by omega, ?_⟩⟩
    rw [Rg]
    refine loop_inv (fun o ρ => ∃ Ts w5 w6, ρ = [some (.d (exD C ds es m)), some (.d (stD S)), some (.own (Ts.map stD)), some (.d (.lst [lsD l0, lsD l1])), some (.d (.int ((i : Nat) : Int))), w5, w6] ∧ LgOk ds es S Ts (fun p _ => p.1 < (i : Int) ∨ p.1 = (i : Int) ∧ p.2 < (o : Int)) (i * 28 + o * 7)) _ 0 _ ⟨Ts, w5, w6, rfl, lg.imp (by omega) (fun p k L x d => d.elim id fun d => absurd d.2 (by have := x.1.2.2.1; omega))⟩ ?_ ?_
    · rintro o x ρ N2 ho ⟨Ts, w5, w6, rfl, lg⟩ hN2
      rw [Nat.zero_add] at lg hN2
      obtain ⟨ho1, rfl⟩ := rng_get ho
      refine ⟨_, rfl, go_ixL (i := 0) rfl ⟨_, rfl, go_lsI (by omega) (by omega) ⟨trivial, _, rfl, ?_⟩⟩⟩
      rw [Int.toNat_natCast]
      have skip : ¬ (0 < l0.getD i 0 ∧ 0 < l1.getD o 0) → N2 [some (.d (exD C ds es m)), some (.d (stD S)), some (.own (Ts.map stD)), some (.d (.lst [lsD l0, lsD l1])), some (.d (.int ((i : Nat) : Int))), some (.d (.int ((o : Nat) : Int))), w6] := fun z => hN2 _ ⟨Ts, _, w6, rfl, lg.imp (by omega) fun p k L x d => by
        rcases d with d | ⟨d1, d2⟩
        · exact .inl d
        · by_cases c : p.2 = (o : Int)
          · have ep : p = (((i : Nat) : Int), ((o : Nat) : Int)) := Prod.ext d1 c
            exact absurd ((hop i o).mpr (by rw [← ep]; exact x.2.1)) z
          · exact .inr ⟨d1, by omega⟩⟩
      by_cases b1 : 0 < l0.getD i 0
      · rw [decide_eq_true b1]
        refine ifTT ⟨_, rfl, go_ixL (i := 1) rfl ⟨_, rfl, go_lsI (by omega) (by omega) ⟨trivial, _, rfl, ?_⟩⟩⟩
        rw [Int.toNat_natCast]
        by_cases b2 : 0 < l1.getD o 0
        · rw [decide_eq_true b2]
          have hop' := (hop i o).mp ⟨b1, b2⟩
          have hin : InP ds.length es.length (((i : Nat) : Int), ((o : Nat) : Int)) := ⟨by show (0 : Int) ≤ (i : Int); omega, by show (i : Int) < _; omega, by show (0 : Int) ≤ (o : Int); omega, by show (o : Int) < _; omega⟩
          refine ifTT ⟨_, rfl, _, rfl, _, rfl, (by show 2 ≤ sizeLine; decide), S, (((i : Nat) : Int), ((o : Nat) : Int)), rfl, by omega, l4, _, .inr rfl, ?_⟩
          have fl := frees_len S (((i : Nat) : Int), ((o : Nat) : Int))
          refine loop_inv (fun c ρ => ∃ Ts w6, ρ = [some (.d (exD C ds es m)), some (.d (stD S)), some (.own (Ts.map stD)), some (.d (.lst [lsD l0, lsD l1])), some (.d (.int ((i : Nat) : Int))), some (.d (.int ((o : Nat) : Int))), w6] ∧ LgOk ds es S Ts (fun p k => p.1 < (i : Int) ∨ p.1 = (i : Int) ∧ p.2 < (o : Int) ∨ p = (((i : Nat) : Int), ((o : Nat) : Int)) ∧ ((k : Nat) : Int) ∈ (frees S (((i : Nat) : Int), ((o : Nat) : Int))).take c) (i * 28 + o * 7 + c)) _ 0 _ ⟨Ts, w6, rfl, lg.imp (by omega) fun p k L x d => by
            rcases d with d | d | ⟨_, d⟩
            · exact .inl d
            · exact .inr d
            · rw [List.take_zero] at d; cases d⟩ ?_ ?_
          · rintro c x ρ N3 hc ⟨Ts, w6, rfl, lg⟩ hN3
            rw [Nat.zero_add] at lg hN3
            rw [List.getElem?_map] at hc
            cases hz : (frees S (((i : Nat) : Int), ((o : Nat) : Int)))[c]? with
            | none => rw [hz] at hc; cases hc
            | some z =>
              rw [hz] at hc
              cases hc
              obtain ⟨k, L, rfl, hk, hf⟩ := frees_mem (List.mem_of_getElem? hz)
              have hcl := (List.getElem?_eq_some_iff.mp hz).1
              refine ⟨_, rfl, _, rfl, _, rfl, _, rfl, (by show 2 ≤ sizeLine; decide), _, rfl, S, (((i : Nat) : Int), ((o : Nat) : Int)), k, L, rfl, hk, by omega, l4 L (List.mem_of_getElem? hk), _, rfl, _, .inr rfl, ?_⟩
              have hlen := lg.ln
              refine ⟨Dt.szl (by rw [List.length_map]; omega), hN3 _ ⟨Ts ++ [Srl.srtL (S.set k (srt (L ++ [(((i : Nat) : Int), ((o : Nat) : Int))])))], some (.d (.int ((k : Nat) : Int))), by rw [List.map_append]; rfl, ⟨fun T hT => ?_, fun p k' L' x d => ?_, by rw [List.length_append]; exact Nat.succ_le_succ hlen⟩⟩⟩
              · rcases List.mem_append.mp hT with hT | hT
                · exact lg.snd T hT
                · rw [List.mem_singleton.mp hT]
                  exact ⟨_, k, L, ⟨hin, hop', hk, hf⟩, Srl.srtL_perm _⟩
              · have old : (p.1 < (i : Int) ∨ p.1 = (i : Int) ∧ p.2 < (o : Int) ∨ p = (((i : Nat) : Int), ((o : Nat) : Int)) ∧ ((k' : Nat) : Int) ∈ (frees S (((i : Nat) : Int), ((o : Nat) : Int))).take c) ∨ (p = (((i : Nat) : Int), ((o : Nat) : Int)) ∧ k' = k) := by
                  rcases d with d | d | ⟨d1, d2⟩
                  · exact .inl (.inl d)
                  · exact .inl (.inr (.inl d))
                  · rw [List.take_add_one, hz] at d2
                    rcases List.mem_append.mp d2 with d2 | d2
                    · exact .inl (.inr (.inr ⟨d1, d2⟩))
                    · have d2 : ((k' : Nat) : Int) ∈ [((k : Nat) : Int)] := d2
                      exact .inr ⟨d1, by have := List.mem_singleton.mp d2; omega⟩
                rcases old with d | ⟨rfl, rfl⟩
                · obtain ⟨T, hT, pT⟩ := lg.cov p k' L' x d
                  exact ⟨T, List.mem_append_left _ hT, pT⟩
                · have eL : L' = L := by
                    have := x.2.2.1
                    rw [hk] at this
                    cases this
                    rfl
                  subst eL
                  exact ⟨_, List.mem_append_right _ (List.mem_singleton.mpr rfl), Srl.srtL_perm _⟩
          · rintro ρ ⟨Ts, w6, rfl, lg⟩
            rw [Nat.zero_add, List.length_map] at lg
            refine hN2 _ ⟨Ts, _, w6, rfl, lg.imp (by omega) fun p k L x d => ?_⟩
            rcases d with d | ⟨d1, d2⟩
            · exact .inl d
            · by_cases c : p.2 = (o : Int)
              · have ep : p = (((i : Nat) : Int), ((o : Nat) : Int)) := Prod.ext d1 c
                refine .inr (.inr ⟨ep, ?_⟩)
                rw [List.take_length]
                exact mem_frees x.2.2.1 (by rw [← ep]; exact x.2.2.2)
              · exact .inr (.inl ⟨d1, by omega⟩)
        · rw [decide_eq_false b2]
          exact ifFF (skip fun z => b2 z.2)
      · rw [decide_eq_false b1]
        exact ifFF (skip fun z => b1 z.1)
    · rintro ρ ⟨Ts, w5, w6, rfl, lg⟩
      rw [Nat.zero_add, Rl] at lg
      refine hN _ ⟨Ts, _, w5, w6, rfl, lg.imp (by omega) fun p k L x d => ?_⟩
      by_cases c : p.1 = (i : Int)
      · exact .inr ⟨c, x.1.2.2.2⟩
      · exact .inl (by omega)
  · rintro ρ ⟨Ts, w4, w5, w6, rfl, lg⟩
    rw [Nat.zero_add, Rl] at lg
    exact ⟨_, rfl, _, rfl, h Ts lg.snd (fun p k L x => lg.cov p k L x x.1.2.1) (by have := lg.ln; omega)⟩
end
end K12
set_option Elab.async false
set_option linter.all false
set_option maxRecDepth 100000
set_option maxHeartbeats 4000000
namespace K12
open PySem PySem.Spec PyProof.Rows L2 Com Sd StV Gn Ext Dt
open Et (br_dec e_var e_int e_bl e_op e_nil e_cons e_tup e_cb e_test e_or e_def e_fld ixA e_ix cl_lenA e_len op_notInA e_notin t_name i_seq i_rng1 s_nx s_brk s_seq s_if s_ret s_for n_lst s_frz p_var go_upd s_app set_A s_set n_of s_ownU go_l0U go_ixAt U EndsU SpU spU endU xendU startU endE xendE br MethAtU.ok DefAtU.ok FunU.ok DefAtE.ok MethAtE.ok FunE.ok DefAtUX.ok MethAtUX.ok DefAtEX.ok CS CE CX sLoop sloop_inv ixV putU)
variable [Dt.Tb]
section
variable {P : Program} {w : World} {K : PySem.W.Frag} {mg : Str → Option Value} {base : Heap} {C : Addr}
open Dbf
abbrev s_all : Stmt := top 36
abbrev N_all : List Str := ["_law_exchange", "_law_found", "_law_known", "_law_at", "_law_one"]
theorem sc_all : FnScope N_all ["_law_exchange"] (defScope s_all) := ⟨rfl, rfl, rfl, by decide +kernel, rfl, by decide +kernel, by decide +kernel⟩
def sdAll (C : Addr) : SpD := fun xs q _ => ∃ ds es m, xs = [exD C ds es m] ∧ GE ds es m ∧ ∀ Fs : List Std, (∀ S ∈ Fs, StdOk ds es m S) → Fs.length ≤ 2000 → ((∀ Gs : List Std, Gs.Nodup → (∀ S ∈ Gs, StdOk ds es m S) → Gs.length ≤ 1000) → List.replicate m.toNat [] ∈ Fs ∧ ∀ S ∈ Fs, ClosedAt ds es Fs S) → q (.lst (Fs.map stD))
theorem emS_rep (n : Nat) : (List.replicate n [Dt.D.tup []]).flatten = (List.replicate n ([] : List PP)).map ldD := by
  induction n with
  | zero => rfl
  | succ n ih => rw [List.replicate_succ, List.replicate_succ, List.flatten_cons, ih]; rfl
theorem keyOkU {S : Std} {q : NestedKey → Prop} (h : q (nkS S)) : Et.keyOk true (.tup (S.map ldD)) q := keyOk_st (S := S) h
theorem onD_go {x : Dt.D} {k : Dt.D → Prop} (h : k x) : Et.onD (.d x) k := h
theorem s_join {a b : Et.CS} {d : Et.EndsU} {ρ : Et.Ev} {e : Et.XU} (Pr : Et.Ev → Prop) (h2 : ∀ N : Et.Ev → Prop, (∀ ρ', Pr ρ' → N ρ') → a { d with nx := N } ρ e) (h1 : ∀ ρ', Pr ρ' → b d ρ' e) : Et.sSeq a b d ρ e := h2 _ h1
structure FinOk (ds es : List Int) (m : Int) (Fs : List Std) : Prop where
  ok : ∀ S ∈ Fs, StdOk ds es m S
  ln : Fs.length ≤ 2000
  cl : (∀ Gs : List Std, Gs.Nodup → (∀ S ∈ Gs, StdOk ds es m S) → Gs.length ≤ 1000) → List.replicate m.toNat [] ∈ Fs ∧ ∀ S ∈ Fs, ClosedAt ds es Fs S
def stU (S : Std) : Et.U := .d (stD S)
/-- the listing at its a-th turn -/
structure BfOk (ds es : List Int) (m : Int) (Fs : List Std) (ks : List NestedKey) (us : List Et.U) (a : Nat) : Prop where
  ok : ∀ S ∈ Fs, StdOk ds es m S
  nd : Fs.Nodup
  ky : ∀ S : Std, nkS S ∈ ks ↔ S ∈ Fs
  lu : us.length = Fs.length
  hd : List.replicate m.toNat [] ∈ Fs
  ln : Fs.length ≤ 1112
  cl : ∀ b S, b < a → Fs[b]? = some S → ClosedAt ds es Fs S
theorem closed_mono {ds es : List Int} {Fs Gs : List Std} {S : Std} (h : ClosedAt ds es Fs S) (sub : ∀ T ∈ Fs, T ∈ Gs) : ClosedAt ds es Gs S := fun p k L x => let ⟨T, hT, pT⟩ := h p k L x; ⟨T, sub T hT, pT⟩
theorem BfOk.start {ds es : List Int} {m : Int} {u : Et.U} (g : GE ds es m) : BfOk ds es m [List.replicate m.toNat []] [nkS (List.replicate m.toNat [])] [u] 0 where
  ok := fun S hS => by
    rw [List.mem_singleton.mp hS]
    have := StdOk.empty (ds := ds) (es := es) (n := m.toNat) (fun d hd => (g.gi.2.2 d hd).1) fun d hd => (g.go.2.2 d hd).1
    rwa [show ((m.toNat : Nat) : Int) = m by have := g.m1; omega] at this
  nd := by simp
  ky := fun S => by
    rw [List.mem_singleton, List.mem_singleton]
    exact ⟨nkS_inj _ _, fun e => by rw [e]⟩
  lu := rfl
  hd := List.mem_singleton.mpr rfl
  ln := by show 1 ≤ 1112; decide
  cl := fun b S h => absurd h (Nat.not_lt_zero b)
theorem BfOk.add {ds es : List Int} {m : Int} {Fs : List Std} {ks : List NestedKey} {us : List Et.U} {a : Nat} {T : Std} {u : Et.U} (h : BfOk ds es m Fs ks us a) (hT : StdOk ds es m T) (hn : T ∉ Fs) (hl : Fs.length ≤ 1111) (ha : a ≤ Fs.length) : BfOk ds es m (Fs ++ [T]) (ks ++ [nkS T]) (us ++ [u]) a where
  ok := fun S hS => (List.mem_append.mp hS).elim (h.ok S) fun hS => by rw [List.mem_singleton.mp hS]; exact hT
  nd := by
    rw [List.nodup_append]
    exact ⟨h.nd, by simp, fun x hx y hy z => hn (by rw [← List.mem_singleton.mp hy, ← z]; exact hx)⟩
  ky := fun S => by
    rw [List.mem_append, List.mem_append, h.ky S, List.mem_singleton, List.mem_singleton]
    exact ⟨fun z => z.imp id (nkS_inj _ _), fun z => z.imp id fun e => by rw [e]⟩
  lu := by rw [List.length_append, List.length_append, h.lu]; rfl
  hd := List.mem_append_left _ h.hd
  ln := by rw [List.length_append]; exact Nat.succ_le_succ hl
  cl := fun b S hb e => by
    rw [List.getElem?_append_left (by omega)] at e
    exact closed_mono (h.cl b S hb e) fun T hT => List.mem_append_left _ hT
theorem BfOk.next {ds es : List Int} {m : Int} {Fs : List Std} {ks : List NestedKey} {us : List Et.U} {a : Nat} (h : BfOk ds es m Fs ks us a) (hc : ∀ S, Fs[a]? = some S → ClosedAt ds es Fs S) : BfOk ds es m Fs ks us (a + 1) := ⟨h.ok, h.nd, h.ky, h.lu, h.hd, h.ln, fun b S hb e => by
  by_cases c : b = a
  · subst c; exact hc S e
  · exact h.cl b S (by omega) e⟩
theorem BfOk.fin {ds es : List Int} {m : Int} {Fs : List Std} {ks : List NestedKey} {us : List Et.U} {a : Nat} (h : BfOk ds es m Fs ks us a) (ha : Fs.length ≤ a ∨ 1000 < Fs.length ∨ 1000 < a) : FinOk ds es m Fs := ⟨h.ok, by have := h.ln; omega, fun cap => ⟨h.hd, fun S hS => by
  have l := cap Fs h.nd h.ok
  obtain ⟨b, hb⟩ := List.getElem?_of_mem hS
  have := (List.getElem?_eq_some_iff.mp hb).1
  exact h.cl b S (by omega) hb⟩⟩
theorem go_nin {w : World} {T : Std} {ks : List NestedKey} {us : List Et.U} {q : Dt.D → Prop} (h : q (.bl (!decide (nkS T ∈ ks)))) : Et.inU w true (.d (stD T)) (.dct w true ks us) q := by
  refine ⟨rfl, ?_⟩
  unfold Et.inU.keyIn
  rw [nk_st]
  exact ⟨depth_S T, h⟩
def pP (p : PP) : PyData := .tuple [.int p.1, .int p.2]
def ldP (L : List PP) : PyData := .tuple (L.map pP)
def stP (S : Std) : PyData := .tuple (S.map ldP)
theorem toPy_ld (L : List PP) : toPy (ldD L) = some (ldP L) := by
  show toPy (.tup (L.map Dt.pairD)) = _
  rw [toPy, Et.toPyA_map (py := pP) fun _ => rfl]
  rfl
theorem toPy_st (S : Std) : toPy (stD S) = some (stP S) := by
  show toPy (.tup (S.map ldD)) = _
  rw [toPy, Et.toPyA_map (py := ldP) toPy_ld]
  rfl
theorem alikeAll_of {α : Type} {f : α → PyData} (h : ∀ a b, PySem.W.alike (f a) (f b) = true) : ∀ xs ys : List α, PySem.W.alikeAll (xs.map f) (ys.map f) = true
  | [], _ => by rw [List.map_nil, PySem.W.alikeAll]
  | _ :: _, [] => by rw [List.map_nil, List.map_cons, PySem.W.alikeAll]
  | x :: xs, y :: ys => by
    rw [List.map_cons, List.map_cons, PySem.W.alikeAll, h x y, alikeAll_of h xs ys]
    rfl
theorem alike_p (a b : PP) : PySem.W.alike (pP a) (pP b) = true := rfl
theorem alike_l (a b : List PP) : PySem.W.alike (ldP a) (ldP b) = true := by
  unfold ldP
  rw [PySem.W.alike]
  exact alikeAll_of alike_p a b
theorem alike_s (a b : Std) : PySem.W.alike (stP a) (stP b) = true := by
  unfold stP
  rw [PySem.W.alike]
  exact alikeAll_of alike_l a b
theorem dep_st (S : Std) : ∃ p, toPy (stD S) = some p ∧ p.depth ≤ 60 := by
  obtain ⟨py, h1, h2, _⟩ := Et.EqE.st.ex
  exact ⟨py S, h1 S, by have := (h2 S).2; omega⟩
theorem ok_all (T : Blt mg) (X : ExC K mg C) (D_longer : DefOk P w K mg base CX0 3 "_law_longer" (spOf (sdLonger C))) (Df : DefAt K mg "_law_all" s_all ["_law_exchange"]) : DefOk P w K mg base CX0 4 "_law_all" (spOf (sdAll C)) := by
  refine DefAtE.ok [0, 1, 2, 3, 4] Df sc_all (fun us q e h => by obtain ⟨_, _, _, rfl, _⟩ := h; rfl) (fun f cdv A outer s H E hr => ?_)
  have hu := hr.units
  have hu9 : (A.deeper (envOfC "_law_all" (defScope s_all) s.heap.objs.size f cdv)).units + 9 < cLine := by omega
  have hu8 : (A.deeper (envOfC "_law_all" (defScope s_all) s.heap.objs.size f cdv)).units + 8 < cLine := by omega
  have hu5 := r65 hr
  refine ⟨_, _, (pss_cons (ps_set (i := 1) sc_all.nd rfl (Or.inl rfl) (pe_lst (pa_cons (pe_op (repA K) (pe_tup (pa_cons (pe_tup pa_nil) pa_nil)) (pe_fldK K (pv 0))) pa_nil)))
    (pss_cons (ps_set (i := 2) sc_all.nd rfl (Or.inl rfl) (Nd.pe_disp1 hu8 (pe_ix (ixA K hu9) (pv 1) pe_int (fun _ _ => rfl)) pe_bl))
    (pss_cons (ps_for PassesOwn.never rfl (pi_range1 (by rfl) T.z_range (pa_cons pe_int pa_nil)) (pg_name (i := 3) sc_all.nd rfl (Or.inl rfl))
      (pss_cons (ps_if (PW.pt (pw_or (pt_cmpR op_ge (pv 3) (pe_callB (cl_lenA K) (by rfl) T.z_len (by decide +kernel) (pa_cons (pv 1) pa_nil)) (nomark _)) (pw_or1 (pt_cmpR op_gt (pe_callB (cl_lenA K) (by rfl) T.z_len (by decide +kernel) (pa_cons (pv 1) pa_nil)) pe_int (nomark _)))))
        (pss_one ps_break)
        pss_nil)
      (pss_one (ps_for PassesOwn.never rfl (pi_seq K (pe_def D_longer hr (by decide) passE (pa_cons (pv 0) (pa_cons (pe_ix (ixA K hu9) (pv 1) (pv 3) (fun _ _ => rfl)) pa_nil)))) (pg_name (i := 4) sc_all.nd rfl (Or.inl rfl))
        (pss_one (ps_if (pt_cmpR (op_notInA K hu9 hu5) (pv 4) (pv 2) rfl)
          (pss_cons (ps_asg pe_bl (pg_sub (pv 2) (pv 4) (set_A hu9)))
          (pss_one (ps_expr (pe_bm PySem.F.plainAttrs_list PySem.F.slot_list_append PySem.F.type_list_append mt_append (pv 1) (pa_cons (pv 4) pa_nil)))))
          pss_nil))))))
    (pss_one (ps_ret (pe_callB (Srt2.cr_srtD K hu) (by rfl) T.z_sorted (by decide +kernel) (pa_cons (pv 1) pa_nil))))))), (s_seq (s_ownU (n_of (n_lst (e_cons (e_op (e_tup (e_cons (e_tup e_nil) e_nil)) (e_fld X.t.cl X.nM e_var) sr_rep) e_nil))))
    (s_seq (s_ownU (Et.n_disp1 (e_ix e_var e_int) e_bl))
    (s_seq (s_for (i_rng1 (e_cons e_int e_nil)) t_name
      (s_seq (s_if (e_or (e_test (e_op e_var (e_len e_var) sr_B0)) (e_test (e_op (e_len e_var) e_int sr_B0)))
        s_brk
        s_nx)
      (s_for (i_seq (e_def (e_cons e_var (e_cons (e_ix e_var e_var) e_nil)))) t_name
        (s_if (e_test (e_notin e_var e_var))
          (s_seq (s_set p_var e_var e_bl)
          (s_app p_var e_var))
          s_nx))))
    (s_frz (j := 1) (s_ret (e_cb (e_cons e_var e_nil) sc_srtD)))))), fun us q e h => ?_⟩
  obtain ⟨ds, es, m, rfl, g, h⟩ := h
  have m1 := g.m1
  have m2 := g.m2
  refine ⟨rfl, by decide, m1, by omega, by decide, ?_⟩
  rw [emS_rep]
  refine go_l0U ?_
  refine onD_go (keyOkU (S := List.replicate m.toNat []) ?_)
  dsimp only [Et.cC]
  refine onD_go ?_
  refine s_join (fun ρ => ∃ Fs u2 w3 w4, ρ = [some (.d (exD C ds es m)), some (.lst (Fs.map stU)), u2, w3, w4] ∧ FinOk ds es m Fs) (fun N hN => ?_) ?_
  · refine ⟨by decide, by decide, sloop_inv (fun a ρ => ∃ Fs ks us w3 w4, ρ = [some (.d (exD C ds es m)), some (.lst (Fs.map stU)), some (.dct w true ks us), w3, w4] ∧ BfOk ds es m Fs ks us a) _ 0 _ ⟨[List.replicate m.toNat []], [nkS (List.replicate m.toNat [])], [.d (.bl true)], none, none, rfl, ?_⟩ ?_ ?_⟩
    · exact .start g
    · rintro a x ρ N2 ha ⟨Fs, ks, us, w3, w4, rfl, bf⟩ hN2
      rw [Nat.zero_add] at bf hN2
      obtain ⟨ha1, rfl⟩ := rng_get ha
      refine ⟨trivial, br_dec (fun c => hN _ ⟨Fs, _, _, _, rfl, bf.fin (.inl (by rw [List.length_map] at c; omega))⟩) (fun c => ⟨trivial, br_dec (fun c2 => hN _ ⟨Fs, _, _, _, rfl, bf.fin (.inr (.inl (by rw [List.length_map] at c2; omega)))⟩) (fun c2 => ?_)⟩)⟩
      rw [List.length_map] at c c2
      have hal : a < Fs.length := by omega
      refine go_ixAt (k := a) (by rw [List.getElem?_map, List.getElem?_eq_getElem hal]; rfl) ?_
      refine ⟨ds, es, m, Fs[a], rfl, g, bf.ok _ (List.getElem_mem hal), fun Ts h1 h2 h3 => ?_⟩
      refine sloop_inv (fun c ρ => ∃ Gs ks us w4, ρ = [some (.d (exD C ds es m)), some (.lst (Gs.map stU)), some (.dct w true ks us), some (.d (.int ((a : Nat) : Int))), w4] ∧ BfOk ds es m Gs ks us a ∧ Gs.length ≤ 1000 + c ∧ a < Gs.length ∧ Gs[a]? = some Fs[a] ∧ ∀ T ∈ Ts.take c, T ∈ Gs) _ 0 _ ⟨Fs, ks, us, w4, rfl, bf, by omega, hal, List.getElem?_eq_getElem hal, fun T hT => by rw [List.take_zero] at hT; cases hT⟩ ?_ ?_
      · rintro c x ρ N3 hc ⟨Gs, ks, us, w4, rfl, bg, gl, gal, gget, gin⟩ hN3
        rw [Nat.zero_add] at gl gin hN3
        rw [List.getElem?_map] at hc
        cases hT : Ts[c]? with
        | none => rw [hT] at hc; cases hc
        | some T =>
          rw [hT] at hc
          cases hc
          have hcl := (List.getElem?_eq_some_iff.mp hT).1
          have tk : ∀ Hs : List Std, (∀ S ∈ Gs, S ∈ Hs) → T ∈ Hs → ∀ S ∈ Ts.take (c + 1), S ∈ Hs := fun Hs sub hm S hS => by
            rw [List.take_add_one, hT] at hS
            rcases List.mem_append.mp hS with hS | hS
            · exact sub S (gin S hS)
            · have hS : S ∈ [T] := hS
              rw [List.mem_singleton.mp hS]; exact hm
          refine go_nin ?_
          by_cases z : T ∈ Gs
          · rw [decide_eq_true ((bg.ky T).mpr z)]
            exact hN3 _ ⟨Gs, ks, us, _, rfl, bg, by omega, gal, gget, tk Gs (fun S h => h) z⟩
          · have nk : ¬ nkS T ∈ ks := fun y => z ((bg.ky T).mp y)
            rw [decide_eq_false nk]
            have okT : StdOk ds es m T := by
              obtain ⟨p, k, L, nx, pm⟩ := h1 T (List.mem_of_getElem? hT)
              exact nx_ok (bf.ok _ (List.getElem_mem hal)) nx pm
            refine ⟨rfl, by have := bg.lu; omega, keyOkU (S := T) ?_⟩
            refine ⟨Dt.szl (by rw [List.length_map]; omega), ?_⟩
            refine hN3 _ ⟨Gs ++ [T], ks ++ [nkS T], us ++ [.d (.bl true)], some (.d (stD T)), ?_, bg.add okT z (by omega) (by omega), by rw [List.length_append]; show _ + 1 ≤ _; omega, by rw [List.length_append]; show _ < _ + 1; omega, by rw [List.getElem?_append_left gal]; exact gget, tk _ (fun S h => List.mem_append_left _ h) (List.mem_append_right _ (List.mem_singleton.mpr rfl))⟩
            have e1 : Et.putKs (nkS T) ks = ks ++ [nkS T] := by unfold Et.putKs; rw [if_neg nk]
            have e2 : Et.putVs (nkS T) (Et.U.d (.bl true)) ks us = us ++ [.d (.bl true)] := by unfold Et.putVs; rw [if_neg nk]
            rw [List.map_append, ← e1, ← e2]
            rfl
      · rintro ρ ⟨Gs, ks, us, w4, rfl, bg, gl, gal, gget, gin⟩
        rw [Nat.zero_add, List.length_map, List.take_length] at gin
        refine hN2 _ ⟨Gs, ks, us, _, w4, rfl, bg.next fun S hS p k L nx => ?_⟩
        rw [gget] at hS
        cases hS
        obtain ⟨T, hT, pT⟩ := h2 p k L nx
        exact ⟨T, gin T hT, pT⟩
    · rintro ρ ⟨Fs, ks, us, w3, w4, rfl, bf⟩
      exact hN _ ⟨Fs, _, _, _, rfl, bf.fin (.inr (.inr (by rw [Nat.zero_add, List.length_map, List.length_range]; decide)))⟩
  · rintro ρ ⟨Fs, u2, w3, w4, rfl, fin⟩
    have eF : Fs.map stU = (Fs.map stD).map Et.U.d := by rw [List.map_map]; rfl
    have eP : (Fs.map stD).map pyOf = Fs.map stP := by
      rw [List.map_map]
      refine List.map_congr_left fun S _ => ?_
      show (toPy (stD S)).getD .none = _
      rw [toPy_st]
      rfl
    have e2 : sortD (Fs.map stD) = (Fs.mergeSort fun a b => leD (stD a) (stD b)).map stD := (List.map_mergeSort (f := stD) (r := fun a b => leD (stD a) (stD b)) (s := leD) (l := Fs) (fun a _ b _ => rfl)).symm
    have pm := List.mergeSort_perm Fs fun a b => leD (stD a) (stD b)
    generalize (Fs.mergeSort fun a b => leD (stD a) (stD b)) = Gs at e2 pm
    refine ⟨Fs.map stD, by rw [eF]; show [Dt.D.lst (Et.ers _)] = _; rw [Et.ers_d], fun d hd => ?_, ?_, ?_, ?_⟩
    · obtain ⟨S, _, rfl⟩ := List.mem_map.mp hd
      exact dep_st S
    · rw [eP]
      exact PySem.W.AllAlike.of alike_s
    · rw [eP]
      refine .inl fun d hd => ?_
      obtain ⟨S, hS, rfl⟩ := List.mem_map.mp hd
      have := (fin.ok S hS).len
      cases S with
      | nil => have : ((0 : Nat) : Int) = m := this; omega
      | cons L S => exact ⟨_, _, rfl⟩
    · rw [e2]
      exact h Gs (fun S hS => fin.ok S (pm.mem_iff.mp hS)) (by rw [pm.length_eq]; exact fin.ln) fun cap => ⟨pm.mem_iff.mpr (fin.cl cap).1, fun S hS => closed_mono ((fin.cl cap).2 S (pm.mem_iff.mp hS)) fun T hT => pm.mem_iff.mpr hT⟩
end
end K12
set_option Elab.async false
set_option linter.all false
set_option maxRecDepth 100000
set_option maxHeartbeats 4000000
namespace K12
open PySem PySem.Spec PyProof.Rows L2 Com Sd StV Gn Ext Dt
open Et (br_dec e_var e_int e_bl e_op e_nil e_cons e_tup e_cb e_test e_or e_def e_fld ixA e_ix cl_lenA e_len op_notInA e_notin t_name i_seq i_rng1 s_nx s_brk s_seq s_if s_ret s_for n_lst s_frz p_var go_upd s_app set_A s_set n_of s_ownU go_l0U go_ixAt U EndsU SpU spU endU xendU startU endE xendE br MethAtU.ok DefAtU.ok FunU.ok DefAtE.ok MethAtE.ok FunE.ok DefAtUX.ok MethAtUX.ok DefAtEX.ok CS CE CX sLoop sloop_inv ixV putU)
variable [Dt.Tb]
section
variable {P : Program} {w : World} {K : PySem.W.Frag} {mg : Str → Option Value} {base : Heap} {C : Addr}
open Dbf
abbrev s_some_barred : Stmt := top 37
abbrev N_some_barred : List Str := ["_law_exchange", "_law_one", "_law_left_here", "_law_i", "_law_o"]
theorem sc_some_barred : FnScope N_some_barred ["_law_exchange"] (defScope s_some_barred) := ⟨rfl, rfl, rfl, by decide +kernel, rfl, by decide +kernel, by decide +kernel⟩
def Cap (ds es : List Int) (m : Int) : Prop := ∀ Gs : List Std, Gs.Nodup → (∀ S ∈ Gs, StdOk ds es m S) → Gs.length ≤ 1000
def sdSome (C : Addr) : SpD := fun xs q _ => ∃ ds es m, xs = [exD C ds es m] ∧ GE ds es m ∧ (((∀ p, InP ds.length es.length p → bz ds es p < m) ∧ q (.bl false)) ∨ (Cap ds es m ∧ ∃ p, InP ds.length es.length p ∧ m ≤ bz ds es p ∧ q (.bl true)))
def Bars (ds es : List Int) (S : Std) (p : PP) : Prop := openB ds es S p = true ∧ frees S p = []
theorem ok_some (T : Blt mg) (X : ExC K mg C) (D_all : DefOk P w K mg base CX0 4 "_law_all" (spOf (sdAll C))) (D_left : DefOk P w K mg base CX0 2 "_law_left" (spOf (sdLLeft C))) (D_middles : DefOk P w K mg base CX0 2 "_law_middles" (spOf sdFreeFor)) (Df : DefAt K mg "_law_some_barred" s_some_barred ["_law_exchange"]) : DefOk P w K mg base CX0 5 "_law_some_barred" (spOf (sdSome C)) := by
  refine DefAtD.ok Df sc_some_barred (fun ds q e h => by obtain ⟨_, _, _, rfl, _⟩ := h; rfl) (fun f cdv A outer s H E hr => ?_)
  have hu := hr.units
  refine ⟨_, _, (pss_cons (ps_for PassesOwn.never rfl (pi_seq K (pe_def D_all hr (by decide) passE (pa_cons (pv 0) pa_nil))) (pg_name (i := 1) sc_some_barred.nd rfl (Or.inl rfl))
      (pss_cons (ps_set (i := 2) sc_some_barred.nd rfl (Or.inl rfl) (pe_def D_left hr (by decide) passE (pa_cons (pv 0) (pa_cons (pv 1) pa_nil))))
      (pss_one (ps_for PassesOwn.never rfl (pi_range1 (by rfl) T.z_range (pa_cons (pe_callB (cl_len K) (by rfl) T.z_len (by decide +kernel) (pa_cons (pe_fldK K (pv 0)) pa_nil)) pa_nil)) (pg_name (i := 3) sc_some_barred.nd rfl (Or.inl rfl))
        (pss_one (ps_for PassesOwn.never rfl (pi_range1 (by rfl) T.z_range (pa_cons (pe_callB (cl_len K) (by rfl) T.z_len (by decide +kernel) (pa_cons (pe_fldK K (pv 0)) pa_nil)) pa_nil)) (pg_name (i := 4) sc_some_barred.nd rfl (Or.inl rfl))
          (pss_one (ps_if (PW.pt (pw_and (pt_cmpR op_gt (pe_ix (ixU K) (pe_ix (ixU K) (pv 2) pe_int (fun _ _ => rfl)) (pv 3) (fun _ _ => rfl)) pe_int (nomark _)) (pw_and (pt_cmpR op_gt (pe_ix (ixU K) (pe_ix (ixU K) (pv 2) pe_int (fun _ _ => rfl)) (pv 4) (fun _ _ => rfl)) pe_int (nomark _)) (pw_and1 (pt_cmpR (eqD K hu) (pe_def D_middles hr (by decide) passE (pa_cons (pv 1) (pa_cons (pe_tup (pa_cons (pv 3) (pa_cons (pv 4) pa_nil))) pa_nil))) (pe_lst pa_nil) (nomark _))))))
            (pss_one (ps_ret pe_bl))
            pss_nil))))))))
    (pss_one (ps_ret pe_bl))), (ss_seq (ss_for (si_seq (si_def (si_cons si_var si_nil))) sg_name
      (ss_seq (ss_asg (si_def (si_cons si_var (si_cons si_var si_nil))) sg_name)
      (ss_for (si_rng1 (si_cons (si_cb (si_cons (si_fld X.t.cl X.nI si_var) si_nil) sc_len) si_nil)) sg_name
        (ss_for (si_rng1 (si_cons (si_cb (si_cons (si_fld X.t.cl X.nO si_var) si_nil) sc_len) si_nil)) sg_name
          (ss_if (si_and (si_test (si_op (si_op (si_op si_var si_int sr_ix) si_var sr_ix) si_int sr_B0)) (si_and (si_test (si_op (si_op (si_op si_var si_int sr_ix) si_var sr_ix) si_int sr_B0)) (si_test (si_op (si_def (si_cons si_var (si_cons (si_tup (si_cons si_var (si_cons si_var si_nil))) si_nil))) (si_lst si_nil) sr_eq))))
            (ss_ret si_bl)
            ss_nx)))))
    (ss_ret si_bl)), fun xs q e h => ?_⟩
  obtain ⟨ds, es, m, rfl, g, h⟩ := h
  have m1 := g.m1
  have m2 := g.m2
  have g1 := g.gi.2.1
  have g2 := g.go.2.1
  refine ⟨_, rfl, ds, es, m, rfl, g, fun Fs f1 f2 f3 => ⟨_, .inr rfl, ?_⟩⟩
  have Rg : ∀ ns : List Int, ((List.range (((ns.map Dt.D.int).length : Nat) : Int).toNat).map fun (i : Nat) => Dt.D.int (i : Int)) = (List.range ns.length).map fun (i : Nat) => Dt.D.int (i : Int) := fun ns => by rw [List.length_map, Int.toNat_natCast]
  have Rl : ∀ n : Nat, ((List.range n).map fun (i : Nat) => Dt.D.int (i : Int)).length = n := fun n => by rw [List.length_map, List.length_range]
  have yes : ∀ S ∈ Fs, ∀ p, InP ds.length es.length p → Bars ds es S p → q (.bl true) := fun S hS p hp hb => by
    have := Bzm.bars_le (f1 S hS) hp hb.1 hb.2
    rcases h with ⟨h, _⟩ | ⟨_, _, _, _, h⟩
    · have := h p hp; omega
    · exact h
  have no : (∀ S ∈ Fs, ∀ p, InP ds.length es.length p → ¬ Bars ds es S p) → q (.bl false) := fun z => by
    rcases h with ⟨_, h⟩ | ⟨cap, p, hp, hm, _⟩
    · exact h
    · obtain ⟨c1, c2⟩ := f3 cap
      obtain ⟨S, hS, ho, hf⟩ := bars_of_closed g.gi g.go (by omega) hp hm c1 c2
      refine absurd ⟨ho, ?_⟩ (z S hS p hp)
      unfold frees
      rw [List.map_eq_nil_iff, List.filter_eq_nil_iff]
      intro k hk
      have hk := List.mem_range.mp hk
      rw [List.getD_eq_getElem?_getD, List.getElem?_eq_getElem hk]
      show ¬ freeB S[k] p = true
      rw [hf _ (List.getElem_mem hk)]
      decide
  refine loop_inv (fun a ρ => ∃ w1 w2 w3 w4, ρ = [some (.d (exD C ds es m)), w1, w2, w3, w4] ∧ ∀ S ∈ Fs.take a, ∀ p, InP ds.length es.length p → ¬ Bars ds es S p) _ 0 _ ⟨none, none, none, none, rfl, fun S hS => by rw [List.take_zero] at hS; cases hS⟩ ?_ ?_
  · rintro a x ρ N ha ⟨w1, w2, w3, w4, rfl, hno⟩ hN
    rw [Nat.zero_add] at hno hN
    rw [List.getElem?_map] at ha
    cases hS : Fs[a]? with
    | none => rw [hS] at ha; cases ha
    | some S =>
      rw [hS] at ha
      cases ha
      have hSm := List.mem_of_getElem? hS
      have ok := f1 S hSm
      have hl := ok.len
      have l4 : ∀ L ∈ S, L.length ≤ 500 := fun L hL => by
        have := (ok.ld L hL).len
        omega
      refine ⟨_, rfl, _, rfl, ds, es, m, S, rfl, by omega, l4, fun L hL => (ok.ld L hL).rng, ?_⟩
      have n0 : (left ds (fs S)).length = ds.length := left_len ..
      have n1 : (left es (sn S)).length = es.length := left_len ..
      have hop : ∀ i o : Nat, (0 < (left ds (fs S)).getD i 0 ∧ 0 < (left es (sn S)).getD o 0) ↔ openB ds es S (((i : Nat) : Int), ((o : Nat) : Int)) = true := fun i o => by
        rw [open_iff]
        exact Iff.rfl
      generalize left ds (fs S) = l0 at n0 hop
      generalize left es (sn S) = l1 at n1 hop
      refine ⟨_, rfl, _, _, _, rfl, rfl, go_lenT ⟨_, rfl, by rw [List.length_map]; omega, by omega, ?_⟩⟩
      rw [Rg]
      refine loop_inv (fun i ρ => ∃ w3 w4, ρ = [some (.d (exD C ds es m)), some (.d (stD S)), some (.d (.lst [lsD l0, lsD l1])), w3, w4] ∧ ∀ p, InP ds.length es.length p → p.1 < (i : Int) → ¬ Bars ds es S p) _ 0 _ ⟨w3, w4, rfl, fun p hp d => absurd d (by have := hp.1; show ¬ p.1 < ((0 : Nat) : Int); omega)⟩ ?_ ?_
      · rintro i x ρ N2 hi ⟨w3, w4, rfl, hq⟩ hN2
        rw [Nat.zero_add] at hq hN2
        obtain ⟨hi1, rfl⟩ := rng_get hi
        refine ⟨_, rfl, _, _, _, rfl, rfl, go_lenT ⟨_, rfl, by rw [List.length_map]; omega, by omega, ?_⟩⟩
        rw [Rg]
        refine loop_inv (fun o ρ => ∃ w4, ρ = [some (.d (exD C ds es m)), some (.d (stD S)), some (.d (.lst [lsD l0, lsD l1])), some (.d (.int ((i : Nat) : Int))), w4] ∧ ∀ p, InP ds.length es.length p → p.1 < (i : Int) ∨ p.1 = (i : Int) ∧ p.2 < (o : Int) → ¬ Bars ds es S p) _ 0 _ ⟨w4, rfl, fun p hp d => d.elim (hq p hp) fun d => absurd d.2 (by have := hp.2.2.1; omega)⟩ ?_ ?_
        · rintro o x ρ N3 ho ⟨w4, rfl, hq2⟩ hN3
          rw [Nat.zero_add] at hq2 hN3
          obtain ⟨ho1, rfl⟩ := rng_get ho
          have hin : InP ds.length es.length (((i : Nat) : Int), ((o : Nat) : Int)) := ⟨by show (0 : Int) ≤ (i : Int); omega, by show (i : Int) < _; omega, by show (0 : Int) ≤ (o : Int); omega, by show (o : Int) < _; omega⟩
          have go : ¬ Bars ds es S (((i : Nat) : Int), ((o : Nat) : Int)) → N3 [some (.d (exD C ds es m)), some (.d (stD S)), some (.d (.lst [lsD l0, lsD l1])), some (.d (.int ((i : Nat) : Int))), some (.d (.int ((o : Nat) : Int)))] := fun z => hN3 _ ⟨_, rfl, fun p hp d => by
            rcases d with d | ⟨d1, d2⟩
            · exact hq2 p hp (.inl d)
            · by_cases c : p.2 = (o : Int)
              · rw [show p = (((i : Nat) : Int), ((o : Nat) : Int)) from Prod.ext d1 c]; exact z
              · exact hq2 p hp (.inr ⟨d1, by omega⟩)⟩
          refine ⟨_, rfl, go_ixL (i := 0) rfl ⟨_, rfl, go_lsI (by omega) (by omega) ⟨trivial, _, rfl, ?_⟩⟩⟩
          rw [Int.toNat_natCast]
          by_cases b1 : 0 < l0.getD i 0
          · rw [decide_eq_true b1]
            refine ifTT ⟨_, rfl, go_ixL (i := 1) rfl ⟨_, rfl, go_lsI (by omega) (by omega) ⟨trivial, _, rfl, ?_⟩⟩⟩
            rw [Int.toNat_natCast]
            by_cases b2 : 0 < l1.getD o 0
            · rw [decide_eq_true b2]
              have hop' := (hop i o).mp ⟨b1, b2⟩
              refine ifTT ⟨_, rfl, _, rfl, _, rfl, (by show 2 ≤ sizeLine; decide), S, (((i : Nat) : Int), ((o : Nat) : Int)), rfl, by omega, l4, (by decide), ?_⟩
              refine Et.EqE.int.lst.eq (b := []) (by decide) ⟨_, rfl, ?_⟩
              by_cases c : frees S (((i : Nat) : Int), ((o : Nat) : Int)) = []
              · rw [decide_eq_true c]
                exact ifTT (yes S hSm _ hin ⟨hop', c⟩)
              · rw [decide_eq_false c]
                exact ifFF (go fun z => c z.2)
            · rw [decide_eq_false b2]
              exact ifFF (go fun z => b2 ((hop i o).mpr z.1).2)
          · rw [decide_eq_false b1]
            exact ifFF (go fun z => b1 ((hop i o).mpr z.1).1)
        · rintro ρ ⟨w4, rfl, hq2⟩
          rw [Nat.zero_add, Rl] at hq2
          refine hN2 _ ⟨_, w4, rfl, fun p hp d => hq2 p hp ?_⟩
          by_cases c : p.1 = (i : Int)
          · exact .inr ⟨c, hp.2.2.2⟩
          · exact .inl (by omega)
      · rintro ρ ⟨w3, w4, rfl, hq⟩
        rw [Nat.zero_add, Rl] at hq
        refine hN _ ⟨_, _, w3, w4, rfl, fun S' hS' => ?_⟩
        rw [List.take_add_one, hS] at hS'
        rcases List.mem_append.mp hS' with hS' | hS'
        · exact hno S' hS'
        · have hS' : S' ∈ [S] := hS'
          rw [List.mem_singleton.mp hS']
          exact fun p hp => hq p hp hp.2.1
  · rintro ρ ⟨w1, w2, w3, w4, rfl, hno⟩
    rw [Nat.zero_add, List.length_map, List.take_length] at hno
    exact no hno
end
end K12
set_option Elab.async false
set_option linter.all false
set_option maxRecDepth 100000
set_option maxHeartbeats 4000000
namespace K12
open PySem PySem.Spec PyProof.Rows L2 Com Sd StV Gn Ext Dt
open Et (br_dec e_var e_int e_bl e_op e_nil e_cons e_tup e_cb e_test e_or e_def e_fld ixA e_ix cl_lenA e_len op_notInA e_notin t_name i_seq i_rng1 s_nx s_brk s_seq s_if s_ret s_for n_lst s_frz p_var go_upd s_app set_A s_set n_of s_ownU go_l0U go_ixAt U EndsU SpU spU endU xendU startU endE xendE br MethAtU.ok DefAtU.ok FunU.ok DefAtE.ok MethAtE.ok FunE.ok DefAtUX.ok MethAtUX.ok DefAtEX.ok CS CE CX sLoop sloop_inv ixV putU)
variable [Dt.Tb]
section
variable {P : Program} {w : World} {K : PySem.W.Frag} {mg : Str → Option Value} {base : Heap} {C : Addr}
open Dbf
abbrev s_Exchange_turned : Stmt := inClass (top 22) 3
abbrev N_Exchange_turned : List Str := ["self"]
theorem sc_Exchange_turned : FnScope N_Exchange_turned ["self"] (defScope s_Exchange_turned) := ⟨rfl, rfl, rfl, by decide +kernel, rfl, by decide +kernel, by decide +kernel⟩
def sdTurned (C : Addr) : SpD := fun xs q _ => ∃ ds es m, xs = [exD C ds es m] ∧ Good ds ∧ Good es ∧ 1 ≤ m ∧ m ≤ 7 ∧ q (exD C es ds m)
theorem ok_turned (T : Blt mg) (X : ExC K mg C) (M_Exchange : NewOk P w K mg base CX0 4 "Exchange" C (spInit C)) (Df : MethAt K C "turned" "Exchange.turned" s_Exchange_turned ["self"]) : MethOk P w K mg base CX0 6 C "turned" (spOf (sdTurned C)) := by
  refine MethAtD.ok Df sc_Exchange_turned (fun ds q e h => by obtain ⟨_, _, _, rfl, _⟩ := h; rfl) (fun f cdv A outer s H E hr => ⟨_, _, (pss_one (ps_ret (pe_new M_Exchange hr (by decide) passE (pa_cons (pe_fldK K (pv 0)) (pa_cons (pe_fldK K (pv 0)) (pa_cons (pe_fldK K (pv 0)) pa_nil)))))), (ss_ret (si_newEx (si_cons (si_fld X.t.cl X.nO si_var) (si_cons (si_fld X.t.cl X.nI si_var) (si_cons (si_fld X.t.cl X.nM si_var) si_nil))))), fun ds q e h => ?_⟩)
  obtain ⟨ds, es, m, rfl, gi, go, k1, k2, h⟩ := h
  exact ⟨_, rfl, _, _, _, rfl, rfl, _, rfl, _, _, _, rfl, rfl, _, rfl, _, _, _, rfl, rfl, es, ds, m, rfl, go, gi, k1, k2, h⟩
theorem bz_le6 {ds es : List Int} {p : PP} (gi : Good ds) (go : Good es) (hp : InP ds.length es.length p) : bz ds es p ≤ 6 := by
  obtain ⟨h1, h2, h3, h4⟩ := hp
  have a := Bzm.getD_in gi h1 h2
  have b := Bzm.getD_in go h3 h4
  unfold bz bzI
  omega
theorem strict_b {ds es : List Int} {m : Int} (g : GE ds es m) : 1 ≤ strictI ds es ∧ strictI ds es ≤ 7 ∧ (∀ p, InP ds.length es.length p → bz ds es p < strictI ds es) ∧ ∀ k, k < strictI ds es → 1 ≤ k → ∃ p, InP ds.length es.length p ∧ k ≤ bz ds es p := by
  have nn := mx_nn ((pairsL ds.length es.length).map (bz ds es))
  have l6 : mx ((pairsL ds.length es.length).map (bz ds es)) ≤ 6 := mx_le (by decide) fun x hx => by
    obtain ⟨p, hp, rfl⟩ := List.mem_map.mp hx
    exact bz_le6 g.gi g.go (pairsL_in hp)
  unfold strictI
  refine ⟨by omega, by omega, fun p hp => ?_, fun k hk k1 => ?_⟩
  · have := mx_ge (List.mem_map_of_mem (f := bz ds es) (pairsL_mem hp))
    omega
  · apply Classical.byContradiction
    intro hn
    have : mx ((pairsL ds.length es.length).map (bz ds es)) ≤ k - 1 := mx_le (by omega) fun x hx => by
      obtain ⟨p, hp, rfl⟩ := List.mem_map.mp hx
      have : ¬ k ≤ bz ds es p := fun z => hn ⟨p, pairsL_in hp, z⟩
      omega
    omega
/-- the drawn sides -/
structure Sm (ds es : List Int) : Prop where
  gi : Good ds
  go : Good es
  ab : ∀ d ∈ ds, ∀ e ∈ es, d + e ≤ 5
  cn : (es.length + 1) ^ ds.length ≤ 9
theorem sm_two {ds es : List Int} (a1 : 1 ≤ ds.length) (a2 : (ds.length : Int) ≤ 2) (a3 : ∀ d ∈ ds, 1 ≤ d ∧ d ≤ 2) (b1 : 1 ≤ es.length) (b2 : (es.length : Int) ≤ 2) (b3 : ∀ d ∈ es, 1 ≤ d ∧ d ≤ 2) : Sm ds es := by
  refine ⟨⟨a1, by omega, fun d hd => by have := a3 d hd; omega⟩, ⟨b1, by omega, fun d hd => by have := b3 d hd; omega⟩, fun d hd e he => by have := a3 d hd; have := b3 e he; omega, ?_⟩
  have h1 : ds.length = 1 ∨ ds.length = 2 := by omega
  have h2 : es.length = 1 ∨ es.length = 2 := by omega
  rcases h1 with h1 | h1 <;> rcases h2 with h2 | h2 <;> rw [h1, h2] <;> decide
theorem good1 {x : Int} (h : 1 ≤ x ∧ x ≤ 3) : Good [x] := ⟨by show 1 ≤ 1; decide, by show 1 ≤ 4; decide, fun d hd => by rw [List.mem_singleton.mp hd]; omega⟩
theorem good3 {a b c : Int} (h1 : 1 ≤ a ∧ a ≤ 2) (h2 : 1 ≤ b ∧ b ≤ 2) (h3 : 1 ≤ c ∧ c ≤ 2) : Good [a, b, c] ∧ ∀ d ∈ [a, b, c], d ≤ 2 := by
  have : ∀ d ∈ [a, b, c], 1 ≤ d ∧ d ≤ 2 := fun d hd => by
    simp only [List.mem_cons, List.not_mem_nil, or_false] at hd
    rcases hd with rfl | rfl | rfl
    · exact h1
    · exact h2
    · exact h3
  exact ⟨⟨by show 1 ≤ 3; decide, by show 3 ≤ 4; decide, fun d hd => by have := this d hd; omega⟩, fun d hd => (this d hd).2⟩
theorem sm_13 {x a b c : Int} (h : 1 ≤ x ∧ x ≤ 3) (h1 : 1 ≤ a ∧ a ≤ 2) (h2 : 1 ≤ b ∧ b ≤ 2) (h3 : 1 ≤ c ∧ c ≤ 2) : Sm [x] [a, b, c] ∧ Sm [a, b, c] [x] := by
  obtain ⟨g, u⟩ := good3 h1 h2 h3
  refine ⟨⟨good1 h, g, fun d hd e he => ?_, by show (3 + 1) ^ 1 ≤ 9; decide⟩, ⟨g, good1 h, fun d hd e he => ?_, by show (1 + 1) ^ 3 ≤ 9; decide⟩⟩
  · have := List.mem_singleton.mp hd
    have := u e he
    omega
  · have := List.mem_singleton.mp he
    have := u d hd
    omega
theorem Sm.strict {ds es : List Int} {m : Int} (s : Sm ds es) (g : GE ds es m) : strictI ds es ≤ 4 := by
  have : mx ((pairsL ds.length es.length).map (bz ds es)) ≤ 3 := mx_le (by decide) fun x hx => by
    obtain ⟨p, hp, rfl⟩ := List.mem_map.mp hx
    obtain ⟨h1, h2, h3, h4⟩ := pairsL_in hp
    have ea : ds.getD p.1.toNat 0 ∈ ds := by
      rw [List.getD_eq_getElem?_getD, List.getElem?_eq_getElem (by omega)]
      exact List.getElem_mem (by omega)
    have eb : es.getD p.2.toNat 0 ∈ es := by
      rw [List.getD_eq_getElem?_getD, List.getElem?_eq_getElem (by omega)]
      exact List.getElem_mem (by omega)
    have := s.ab _ ea _ eb
    have := (s.gi.2.2 _ ea).1
    have := (s.go.2.2 _ eb).1
    unfold bz bzI
    omega
  unfold strictI
  omega
theorem Sm.cap {ds es : List Int} {m : Int} (s : Sm ds es) (h : m ≤ 3) : Cap ds es m := fun Gs nd ok => by
  refine Nat.le_trans (few nd ok) ?_
  refine Nat.le_trans (Nat.pow_le_pow_left s.cn _) ?_
  refine Nat.le_trans (Nat.pow_le_pow_right (by decide) (by omega : m.toNat ≤ 3)) (by decide)
abbrev s_law : Stmt := top 38
abbrev N_law : List Str := ["_law_script", "_law_flow_here", "_law_ins", "_law_outs", "_law_doors_here", "_law_many", "_law_middles_here", "_law_exchange", "_law_found"]
theorem sc_law : FnScope N_law ["_law_script"] (defScope s_law) := ⟨rfl, rfl, rfl, by decide +kernel, rfl, by decide +kernel, by decide +kernel⟩
def sdLaw (K : PySem.W.Frag) : SpD := fun xs q _ => ∃ ns : List Int, xs = [.scr K ns] ∧ ns.length ≤ 63 ∧ q (.bl true)
theorem ms_join2 {m : MS} {d : EndsD} {ρ : Ev} {e : XD} (Pr : Ev → Prop) (h1 : ∀ ρ', Pr ρ' → d.nx ρ') (h2 : ∀ N : Ev → Prop, (∀ ρ', Pr ρ' → N ρ') → m { d with nx := N } ρ e) : m d ρ e := h2 d.nx h1
theorem go_neBB {a b : Bool} {q : KD} (h : q (.bl (!decide (a = b)))) : fEq true (.bl a) (.bl b) q := ⟨_, _, rfl, rfl, by cases a <;> rfl, by cases b <;> rfl, by
  cases a <;> cases b <;> exact h⟩
theorem go_eqBB {a b : Bool} {q : KD} (h : q (.bl (decide (a = b)))) : fEq false (.bl a) (.bl b) q := ⟨_, _, rfl, rfl, by cases a <;> rfl, by cases b <;> rfl, by
  cases a <;> cases b <;> exact h⟩
theorem ok_law_fn (T : Blt mg) (X : ExC K mg C) (D_flow : DefOk P w K mg base CX0 1 "_law_flow" (spOf (spFlowD K))) (D_pick : DefOk P w K mg base CX0 1 "_law_pick" (spOf spPickD)) (D_doors : DefOk P w K mg base CX0 2 "_law_doors" (spOf sdDoors)) (D_is_integer : DefOk P w K mg base CX0 1 "_law_is_integer" (spOf (sdPlain K)))
    (M_Exchange : NewOk P w K mg base CX0 4 "Exchange" C (spInit C)) (M_turned : MethOk P w K mg base CX0 6 C "turned" (spOf (sdTurned C))) (M_with_middles : MethOk P w K mg base CX0 6 C "with_middles" (spOf (sdWith C))) (D_strict : DefOk P w K mg base CX0 6 "strict" (spOf (sdStrict C))) (D_barring : DefOk P w K mg base CX0 2 "barring" (spOf (sdBarring C))) (D_some_barred : DefOk P w K mg base CX0 5 "_law_some_barred" (spOf (sdSome C)))
    {f : Addr} {fd : FuncData} (FF : Fun K "law" "law" s_law f fd) : FnOk P w K mg base CX0 8 f fd ["_law_script"] (spOf (sdLaw K)) := by
  refine FunD.ok FF sc_law (fun ds q e h => by obtain ⟨_, rfl, _⟩ := h; rfl) (fun cdv A outer s H E hr => ?_)
  have hu := hr.units
  refine ⟨_, _, (pss_cons (ps_set (i := 1) sc_law.nd rfl (Or.inl rfl) (pe_def D_flow hr (by decide) passE (pa_cons (pv 0) (pa_cons pe_int pa_nil))))
    (pss_cons (ps_set (i := 2) sc_law.nd rfl (Or.inl rfl) (pe_def D_doors hr (by decide) passE (pa_cons (pv 1) (pa_cons pe_int (pa_cons pe_int pa_nil)))))
    (pss_cons (ps_set (i := 3) sc_law.nd rfl (Or.inl rfl) (pe_def D_doors hr (by decide) passE (pa_cons (pv 1) (pa_cons pe_int (pa_cons pe_int pa_nil)))))
    (pss_cons (ps_if (pt_cmpR (eqD K hu) (pe_def D_pick hr (by decide) passE (pa_cons (pv 1) (pa_cons pe_int pa_nil))) pe_int (nomark _))
      (pss_cons (ps_set (i := 2) sc_law.nd rfl (Or.inl rfl) (pe_tup (pa_cons (pe_op op_plus pe_int (pe_def D_pick hr (by decide) passE (pa_cons (pv 1) (pa_cons pe_int pa_nil)))) pa_nil)))
      (pss_one (ps_set (i := 3) sc_law.nd rfl (Or.inl rfl) (pe_tup (pa_cons (pe_op op_plus pe_int (pe_def D_pick hr (by decide) passE (pa_cons (pv 1) (pa_cons pe_int pa_nil)))) (pa_cons (pe_op op_plus pe_int (pe_def D_pick hr (by decide) passE (pa_cons (pv 1) (pa_cons pe_int pa_nil)))) (pa_cons (pe_op op_plus pe_int (pe_def D_pick hr (by decide) passE (pa_cons (pv 1) (pa_cons pe_int pa_nil)))) pa_nil)))))))
      pss_nil)
    (pss_cons (ps_set (i := 4) sc_law.nd rfl (Or.inl rfl) (pe_new M_Exchange hr (by decide) passE (pa_cons (pv 2) (pa_cons (pv 3) (pa_cons pe_int pa_nil)))))
    (pss_cons (ps_if (pt_cmpR (eqD K hu) (pe_def D_pick hr (by decide) passE (pa_cons (pv 1) (pa_cons pe_int pa_nil))) pe_int (nomark _))
      (pss_one (ps_set (i := 4) sc_law.nd rfl (Or.inl rfl) (pe_mth0 (pv 4) X.t.cl M_turned hr (by decide) passE)))
      pss_nil)
    (pss_cons (ps_set (i := 5) sc_law.nd rfl (Or.inl rfl) (pe_def D_strict hr (by decide) passE (pa_cons (pv 4) pa_nil)))
    (pss_cons (ps_if (PW.pt (pw_or (pt_not (pt_val (pe_def D_is_integer hr (by decide) passE (pa_cons (pv 5) pa_nil)))) (pw_or1 (pt_not (pt_chain op_le op_le pe_int (pv 5) pe_int)))))
      (pss_one (ps_ret pe_bl))
      pss_nil)
    (pss_cons (ps_for PassesOwn.never rfl (pi_range2 (by rfl) T.z_range (pa_cons pe_int (pa_cons (pe_op op_plus (pv 5) pe_int) pa_nil))) (pg_name (i := 6) sc_law.nd rfl (Or.inl rfl))
      (pss_cons (ps_set (i := 7) sc_law.nd rfl (Or.inl rfl) (pe_mth (pv 4) X.t.cl M_with_middles hr (by decide) passE (pa_cons (pv 6) pa_nil)))
      (pss_cons (ps_set (i := 8) sc_law.nd rfl (Or.inl rfl) (pe_def D_some_barred hr (by decide) passE (pa_cons (pv 7) pa_nil)))
      (pss_one (ps_if (PW.pt (pw_or (pt_cmpR (neD K hu) (pv 8) (pe_cmpR op_lt (pv 6) (pv 5) (nomark _)) (nomark _)) (pw_or1 (pt_cmpR (eqD K hu) (pe_cmpR op_isN (pe_def D_barring hr (by decide) passE (pa_cons (pv 7) pa_nil)) pe_non (nomark _)) (pv 8) (nomark _)))))
        (pss_one (ps_ret pe_bl))
        pss_nil)))))
    (pss_one (ps_ret pe_bl))))))))))), (ss_seq (ss_asg (si_def (si_cons si_var (si_cons si_int si_nil))) sg_name)
    (ss_seq (ss_asg (si_def (si_cons si_var (si_cons si_int (si_cons si_int si_nil)))) sg_name)
    (ss_seq (ss_asg (si_def (si_cons si_var (si_cons si_int (si_cons si_int si_nil)))) sg_name)
    (ss_seq (ss_if (si_test (si_op (si_def (si_cons si_var (si_cons si_int si_nil))) si_int sr_eq))
      (ss_seq (ss_asg (si_tup (si_cons (si_op si_int (si_def (si_cons si_var (si_cons si_int si_nil))) sr_plus) si_nil)) sg_name)
      (ss_asg (si_tup (si_cons (si_op si_int (si_def (si_cons si_var (si_cons si_int si_nil))) sr_plus) (si_cons (si_op si_int (si_def (si_cons si_var (si_cons si_int si_nil))) sr_plus) (si_cons (si_op si_int (si_def (si_cons si_var (si_cons si_int si_nil))) sr_plus) si_nil)))) sg_name))
      ss_nx)
    (ss_seq (ss_asg (si_newEx (si_cons si_var (si_cons si_var (si_cons si_int si_nil)))) sg_name)
    (ss_seq (ss_if (si_test (si_op (si_def (si_cons si_var (si_cons si_int si_nil))) si_int sr_eq))
      (ss_asg (si_mth si_var si_nil) sg_name)
      ss_nx)
    (ss_seq (ss_asg (si_def (si_cons si_var si_nil)) sg_name)
    (ss_seq (ss_if (si_or (si_not (si_B (si_def (si_cons si_var si_nil)))) (si_not (si_test (si_chain si_int si_var si_int sr_B0 sr_B0))))
      (ss_ret si_bl)
      ss_nx)
    (ss_seq (ss_for (si_rng2 (si_cons si_int (si_cons (si_op si_var si_int sr_plus) si_nil))) sg_name
      (ss_seq (ss_asg (si_mth si_var (si_cons si_var si_nil)) sg_name)
      (ss_seq (ss_asg (si_def (si_cons si_var si_nil)) sg_name)
      (ss_if (si_or (si_test (si_op si_var (si_op si_var si_var sr_B0) sr_ne)) (si_test (si_op (si_op (si_def (si_cons si_var si_nil)) si_non sr_isN) si_var sr_eq)))
        (ss_ret si_bl)
        ss_nx))))
    (ss_ret si_bl)))))))))), fun xs q e h => ?_⟩
  obtain ⟨ns, rfl, n63, h⟩ := h
  refine ⟨_, rfl, ns, 0, rfl, n63, by decide, fun a => ?_⟩
  refine ⟨_, rfl, a, 2, 2, rfl, by decide, by decide, by decide, by decide, fun ds a1 a2 a3 => ?_⟩
  refine ⟨_, rfl, a, 2, 2, rfl, by decide, by decide, by decide, by decide, fun es b1 b2 b3 => ?_⟩
  dsimp only [mgN]
  refine ms_join2 (m := msIf _ _ _) (fun ρ => ∃ ds es, ρ = [some (.d (.scr K ns)), some (.d (.flow a)), some (.d (intsD ds)), some (.d (intsD es)), none, none, none, none, none] ∧ Sm ds es ∧ Sm es ds) ?_ (fun N hN => ?_)
  rotate_left
  · refine ⟨_, rfl, a, 3, rfl, by decide, by decide, fun k k0 k1 => go_eqI ⟨_, rfl, ?_⟩⟩
    by_cases c : k = 0
    · rw [decide_eq_true c]
      refine ifTT ⟨_, rfl, a, 3, rfl, by decide, by decide, fun x x0 x1 => ⟨(by show 1 ≤ sizeLine; decide), ?_⟩⟩
      refine ⟨_, rfl, a, 2, rfl, by decide, by decide, fun y y0 y1 => ⟨_, rfl, a, 2, rfl, by decide, by decide, fun z z0 z1 => ⟨_, rfl, a, 2, rfl, by decide, by decide, fun u u0 u1 => ⟨(by show 3 ≤ sizeLine; decide), ?_⟩⟩⟩⟩
      obtain ⟨s1, s2⟩ := sm_13 (x := 1 + x) (a := 1 + y) (b := 1 + z) (c := 1 + u) (by omega) (by omega) (by omega) (by omega)
      exact hN _ ⟨[1 + x], [1 + y, 1 + z, 1 + u], rfl, s1, s2⟩
    · rw [decide_eq_false c]
      exact ifFF (hN _ ⟨ds, es, rfl, sm_two a1 a2 a3 b1 b2 b3, sm_two b1 b2 b3 a1 a2 a3⟩)
  clear a1 a2 a3 b1 b2 b3
  rintro ρ ⟨ds, es, rfl, s1, s2⟩
  refine ⟨_, rfl, _, rfl, ds, es, 1, rfl, s1.gi, s1.go, by decide, by decide, ?_⟩
  dsimp only [mgN]
  refine ms_join2 (m := msIf _ _ _) (fun ρ => ∃ ds es w2 w3, ρ = [some (.d (.scr K ns)), some (.d (.flow a)), w2, w3, some (.d (exD C ds es 1)), none, none, none, none] ∧ Sm ds es) ?_ (fun N hN => ?_)
  rotate_left
  · refine ⟨_, rfl, a, 2, rfl, by decide, by decide, fun k k0 k1 => go_eqI ⟨_, rfl, ?_⟩⟩
    by_cases c : k = 1
    · rw [decide_eq_true c]
      exact ifTT ⟨_, rfl, _, _, rfl, by decide, ds, es, 1, rfl, s1.gi, s1.go, by decide, by decide, hN _ ⟨es, ds, _, _, rfl, s2⟩⟩
    · rw [decide_eq_false c]
      exact ifFF (hN _ ⟨ds, es, _, _, rfl, s1⟩)
  clear s1 s2
  rintro ρ ⟨ds, es, w2, w3, rfl, sm⟩
  have g : GE ds es 1 := ⟨sm.gi, sm.go, by decide, by decide⟩
  obtain ⟨t1, t7, tlt, tge⟩ := strict_b g
  have t4 := sm.strict g
  refine ⟨_, rfl, ds, es, 1, rfl, g, ?_⟩
  generalize strictI ds es = t at t1 t7 tlt tge t4
  refine ⟨_, rfl, _, rfl, trivial, _, rfl, ifFF ⟨_, rfl, trivial, _, rfl, ?_⟩⟩
  rw [decide_eq_true t1]
  refine ifTT ⟨trivial, _, rfl, ?_⟩
  rw [decide_eq_true t4]
  refine ifFF ⟨_, rfl, 1, t + 1, rfl, ⟨by omega, by omega, by omega, by omega⟩, ?_⟩
  refine loop_inv (fun i ρ => ∃ w6 w7 w8, ρ = [some (.d (.scr K ns)), some (.d (.flow a)), w2, w3, some (.d (exD C ds es 1)), some (.d (.int t)), w6, w7, w8]) _ 0 _ ⟨none, none, none, rfl⟩ ?_ ?_
  · rintro j x ρ N hj ⟨w6, w7, w8, rfl⟩ hN
    have hj' := (List.getElem?_eq_some_iff.mp hj).1
    rw [List.length_map, List.length_range] at hj'
    rw [List.getElem?_map, List.getElem?_range hj'] at hj
    cases hj
    have hjt : 1 + (j : Int) ≤ t := by omega
    have gk : GE ds es (1 + (j : Int)) := ⟨g.gi, g.go, by omega, by omega⟩
    refine ⟨_, rfl, _, _, rfl, by decide, _, rfl, ds, es, 1, _, rfl, g.gi, g.go, gk.m1, gk.m2, ?_⟩
    by_cases c : 1 + (j : Int) < t
    · obtain ⟨p, hp, hle⟩ := tge (1 + (j : Int)) c gk.m1
      refine ⟨_, rfl, ds, es, _, rfl, gk, .inr ⟨sm.cap (by omega), p, hp, hle, ?_⟩⟩
      refine ⟨_, rfl, _, rfl, _, rfl, trivial, ?_⟩
      refine go_neBB (a := true) (b := decide (1 + (j : Int) < t)) ⟨_, rfl, ?_⟩
      rw [decide_eq_true c]
      refine ifFF ⟨_, rfl, ds, es, _, rfl, gk, fun hno => ?_, fun p' hp' hle' => ?_⟩
      · have := hno p (pairsL_mem hp)
        omega
      · exact ⟨rfl, _, rfl, go_eqBB ⟨_, rfl, ifFF (hN _ ⟨_, _, _, rfl⟩)⟩⟩
    · have hall : ∀ p, InP ds.length es.length p → bz ds es p < 1 + (j : Int) := fun p hp => by
        have := tlt p hp
        omega
      refine ⟨_, rfl, ds, es, _, rfl, gk, .inl ⟨hall, ?_⟩⟩
      refine ⟨_, rfl, _, rfl, _, rfl, trivial, ?_⟩
      refine go_neBB (a := false) (b := decide (1 + (j : Int) < t)) ⟨_, rfl, ?_⟩
      rw [decide_eq_false c]
      refine ifFF ⟨_, rfl, ds, es, _, rfl, gk, fun hno => ?_, fun p' hp' hle' => ?_⟩
      · exact ⟨rfl, _, rfl, go_eqBB ⟨_, rfl, ifFF (hN _ ⟨_, _, _, rfl⟩)⟩⟩
      · have := hall p' hp'
        omega
  · rintro ρ ⟨w6, w7, w8, rfl⟩
    exact h
end
end K12
set_option Elab.async false
set_option linter.all false
set_option maxRecDepth 100000
set_option maxHeartbeats 4000000
namespace K12o
open PySem PySem.Spec PyProof.Rows L2 Com Sd StV Gn Ext
def top (i : Nat) : Stmt := PySem.Challenge.pw_callsthrough_k12_whole_strict_over_all_s.main.body.getD i (.Pass ⟨0, 0, 0, 0⟩)
/-- the module's names that are built-ins, its constants -/
structure Blt (mg : Str → Option Value) : Prop where
  z_len : mg "len" = none
  z_abs : mg "abs" = none
  z_int : mg "int" = none
  z_bool : mg "bool" = none
  z_tuple : mg "tuple" = none
  z_list : mg "list" = none
  z_isinstance : mg "isinstance" = none
  z_all : mg "all" = none
  z_range : mg "range" = none
  z_set : mg "set" = none
  z_sorted : mg "sorted" = none
  z_min : mg "min" = none
  z_max : mg "max" = none
  z_enumerate : mg "enumerate" = none
  c_MOST_SWITCHES : ∃ t, mg "MOST_SWITCHES" = some (.int 4 t)
  c_MOST_DOORS : ∃ t, mg "MOST_DOORS" = some (.int 4 t)
  c_MOST_MIDDLES : ∃ t, mg "MOST_MIDDLES" = some (.int 7 t)
local macro_rules | `(tactic| walk_at "rd1") => `(tactic| (first
  | refine ⟨_, rfl, ?_⟩
  | refine ⟨_, _, rfl, rfl, ?_⟩
  | refine ⟨.inl ⟨by decide, by decide⟩, ?_⟩
  | refine ⟨.inr ⟨by decide, by decide⟩, ?_⟩
  | refine ⟨(by decide : (0 : Int) < _), ?_⟩
  | refine ⟨⟨by decide, by decide⟩, ?_⟩
  | refine ⟨⟨by decide, by decide, by decide⟩, ?_⟩
  | refine ⟨rfl, ?_⟩
  | refine .inl ⟨_, rfl, ?_⟩
  | refine .inr ⟨_, rfl, ?_⟩
  | refine ⟨_, _, _, _, rfl, rfl, SqL.of upd_same, rfl, ?_⟩
  | refine ⟨_, _, _, _, rfl, rfl, upd_same, rfl, ?_⟩
  | refine ⟨mulm (by decide) (by decide), ?_⟩
  | refine ⟨_, _, _, _, rfl, rfl, SqL.of (by assumption), rfl, ?_⟩
  | refine ⟨_, _, _, _, rfl, rfl, (by assumption), rfl, ?_⟩))
local macro_rules | `(tactic| walk_at "rd") => `(tactic| repeat (walk_at "rd1"))
section
variable {P : Program} {w : World} {K : PySem.W.Frag} {mg : Str → Option Value} {base : Heap}
abbrev s_flow : Stmt := top 24
abbrev N_flow : List Str := ["_law_script", "_law_k", "_law_cell", "_law_number"]
theorem sc_flow : FnScope N_flow ["_law_script", "_law_k"] (defScope s_flow) := ⟨rfl, rfl, rfl, by decide +kernel, rfl, by decide +kernel, by decide +kernel⟩
theorem ok_flow (T : Blt mg) (D : DefAt K mg "_law_flow" s_flow ["_law_script", "_law_k"]) : DefOk P w K mg base CX0 1 "_law_flow" (spFlow K) := by
  refine D.ok sc_flow (fun vs H Q E h => ?_) (fun f cdv A outer s H vs Q E hr h => ?_)
  · obtain ⟨a, ns, k, rfl, _⟩ := h
    rfl
  obtain ⟨a, ns, k, rfl, hS, hl, hk, q⟩ := h
  refine ⟨_, (pss_cons (ps_set (i := 2) sc_flow.nd rfl (Or.inl rfl) pe_int)
  (pss_cons (ps_if (pt_cmpR op_lt (pv 1) (pe_callB (cl_len K) (by rfl) T.z_len (by decide +kernel) (pa_cons (pv 0) pa_nil)) (nomark _))
    (pss_one (ps_set (i := 2) sc_flow.nd rfl (Or.inl rfl) (pe_ix (ixL K) (pv 0) (pv 1) (fun _ _ => rfl))))
    pss_nil)
  (pss_cons (ps_set (i := 3) sc_flow.nd rfl (Or.inl rfl) (pe_op op_add (pe_op op_mul pe_int (pe_callB call_abs (by rfl) T.z_abs (by decide +kernel) (pa_cons (pv 2) pa_nil))) (pe_callTy call_int1 (by rfl) T.z_int (by decide +kernel) (pa_cons (pe_cmpR op_lt (pv 2) pe_int (nomark _)) pa_nil))))
  (pss_cons (ps_if (pt_cmpR op_ge (pv 3) (pe_op op_pow pe_int pe_int) (nomark _))
    (pss_one (ps_ret (pe_lst (pa_cons (pv 3) (pa_cons pe_int (pa_cons (pe_op op_mod (pe_callTy call_int1 (by rfl) T.z_int (by decide +kernel) (pa_cons (pv 3) pa_nil)) pe_int) pa_nil))))))
    pss_nil)
  (pss_one (ps_ret (pe_lst (pa_cons pe_int (pa_cons pe_int (pa_cons (pe_op op_mod (pe_callTy call_int1 (by rfl) T.z_int (by decide +kernel) (pa_cons (pe_op op_add (pe_op op_add (pv 3) (pe_op op_mul pe_int (pv 1))) pe_int) pa_nil)) pe_int) pa_nil)))))))))), ?_⟩
  refine ⟨_, rfl, _, rfl, a, _, rfl, .inl hS, _, _, rfl, rfl, _, rfl, ?_⟩
  refine ifB (fun c => ?_) (fun c => ?_)
  · have hk' : k < ns.length := by
      have c' := of_decide_eq_true c
      rw [List.length_map] at c'
      omega
    refine ⟨_, rfl, _, rfl, a, _, _, _, rfl, rfl, hS, atI_nat (j := k) (v := V.int ns[k]) (by rw [List.getElem?_map, List.getElem?_eq_getElem hk']; rfl), ?_⟩
    walk_at "rd"
    refine ifB (fun _ => ?_) (fun _ => ?_) <;> walk_at "rd" <;> exact ⟨by show 3 ≤ sizeLine; decide, fun p hp => q p _ hp .new .upd⟩
  · walk_at "rd"
    exact ⟨by show 3 ≤ sizeLine; decide, fun p hp => q p _ hp .new .upd⟩
abbrev s_pick : Stmt := top 25
abbrev N_pick : List Str := ["_law_flow_here", "_law_size", "_law_digit", "_law_number"]
theorem sc_pick : FnScope N_pick ["_law_flow_here", "_law_size"] (defScope s_pick) := ⟨rfl, rfl, rfl, by decide +kernel, rfl, by decide +kernel, by decide +kernel⟩
theorem ok_pick (T : Blt mg) (D : DefAt K mg "_law_pick" s_pick ["_law_flow_here", "_law_size"]) : DefOk P w K mg base CX0 1 "_law_pick" spPick := by
  refine D.ok sc_pick (fun vs H Q E h => ?_) (fun f cdv A outer s H vs Q E hr h => ?_)
  · obtain ⟨a, size, rfl, _⟩ := h
    rfl
  obtain ⟨a, size, rfl, ⟨n, c, r, h0⟩, s1, s2, q⟩ := h
  refine ⟨_, (pss_cons (ps_if (PW.pt (pw_and (pt_cmpR op_ge (pe_ix (ixL K) (pv 0) pe_int (fun _ _ => rfl)) (pv 1) (nomark _)) (pw_and1 (pt_cmpR op_gt (pe_ix (ixL K) (pv 0) pe_int (fun _ _ => rfl)) pe_int (nomark _)))))
    (pss_cons (ps_set (i := 2) sc_pick.nd rfl (Or.inl rfl) (pe_op op_mod (pe_callTy call_int1 (by rfl) T.z_int (by decide +kernel) (pa_cons (pe_ix (ixL K) (pv 0) pe_int (fun _ _ => rfl)) pa_nil)) (pv 1)))
    (pss_cons (ps_asg (pe_op op_fdivW (pe_ix (ixL K) (pv 0) pe_int (fun _ _ => rfl)) (pv 1)) (pg_sub (pv 0) pe_int set_list))
    (pss_one (ps_ret (pv 2)))))
    pss_nil)
  (pss_cons (ps_augS (pv 0) pe_int (getL K) pe_int ip_add set_list)
  (pss_cons (ps_set (i := 3) sc_pick.nd rfl (Or.inl rfl) (pe_op op_mod (pe_callTy call_int1 (by rfl) T.z_int (by decide +kernel) (pa_cons (pe_op op_mul (pe_op op_add (pe_op op_add (pe_ix (ixL K) (pv 0) pe_int (fun _ _ => rfl)) (pe_op op_mul pe_int (pe_ix (ixL K) (pv 0) pe_int (fun _ _ => rfl)))) pe_int) pe_int) pa_nil)) pe_int))
  (pss_cons (ps_set (i := 3) sc_pick.nd rfl (Or.inl rfl) (pe_op op_mod (pe_callTy call_int1 (by rfl) T.z_int (by decide +kernel) (pa_cons (pe_op op_mul (pv 3) (pe_op op_add (pe_op op_fdiv (pv 3) pe_int) pe_int)) pa_nil)) pe_int))
  (pss_cons (ps_set (i := 3) sc_pick.nd rfl (Or.inl rfl) (pe_op op_mod (pe_callTy call_int1 (by rfl) T.z_int (by decide +kernel) (pa_cons (pe_op op_mul (pv 3) (pe_op op_add (pe_op op_fdiv (pv 3) pe_int) pe_int)) pa_nil)) pe_int))
  (pss_one (ps_ret (pe_op op_mod (pe_op op_fdiv (pv 3) pe_int) (pv 1))))))))), ?_⟩
  walk_at "rd"
  refine ifB (fun c1 => ?_) (fun c1 => ?_)
  · walk_at "rd"
    refine ifB (fun c2 => ?_) (fun c2 => ?_)
    · walk_at "rd"
      refine ⟨(by show 0 < size; omega), ?_⟩
      walk_at "rd"
      refine ⟨divW s1 s2, ?_⟩
      walk_at "rd"
      exact q _ _ (Int.emod_nonneg _ (by omega)) (Int.emod_lt_of_pos _ (by omega)) .new .upd
    · walk_at "rd"
      refine ⟨(by show 0 < size; omega), ?_⟩
      exact q _ _ (Int.emod_nonneg _ (by omega)) (Int.emod_lt_of_pos _ (by omega)) .new .upd
  · walk_at "rd"
    refine ⟨(by show 0 < size; omega), ?_⟩
    exact q _ _ (Int.emod_nonneg _ (by omega)) (Int.emod_lt_of_pos _ (by omega)) .new .upd
end
section
variable {P : Program} {w : World} {K : PySem.W.Frag} {mg : Str → Option Value} {base : Heap}
abbrev s_is_plain_int : Stmt := top 2
abbrev N_is_plain_int : List Str := ["value"]
theorem sc_is_plain_int : FnScope N_is_plain_int ["value"] (defScope s_is_plain_int) := ⟨rfl, rfl, rfl, by decide +kernel, rfl, by decide +kernel, by decide +kernel⟩
theorem ok_is_plain_int (T : Blt mg) (D : DefAt K mg "is_plain_int" s_is_plain_int ["value"]) : DefOk P w K mg base CX0 1 "is_plain_int" (spPlain K) := by
  refine D.ok sc_is_plain_int (fun vs H Q E h => ?_) (fun f cdv A outer s H vs Q E hr h => ?_)
  · obtain ⟨x, b, rfl, _⟩ := h
    rfl
  obtain ⟨x, b, rfl, ⟨t, b1, ty, k1, kF, kT⟩, q⟩ := h
  refine ⟨_, (pss_one (ps_ret (pe_and (pe_callB (cl_isi K) (by rfl) T.z_isinstance (by decide +kernel) (pa_cons (pv 0) (pa_cons (pe_bltn (v := .ty "int") (by rfl) T.z_int (by decide +kernel) rfl) pa_nil))) (pe_one (pe_not (pe_callB (cl_isi K) (by rfl) T.z_isinstance (by decide +kernel) (pa_cons (pv 0) (pa_cons (pe_bltn (v := .ty "bool") (by rfl) T.z_bool (by decide +kernel) rfl) pa_nil)))))))), ?_⟩
  refine ⟨_, rfl, x, _, t, _, b1, rfl, .ty "int", ty, k1, _, rfl, ?_⟩
  refine ifB (fun c => ?_) (fun c => ?_)
  · obtain ⟨b2, k2, rfl⟩ := kT c
    exact ⟨_, rfl, x, _, t, _, b2, rfl, .ty "bool", ty, k2, _, rfl, q⟩
  · rw [kF c] at q
    exact q
end
section
variable {P : Program} {w : World} {K : PySem.W.Frag} {mg : Str → Option Value} {base : Heap}
abbrev s_is_int_within : Stmt := top 3
abbrev N_is_int_within : List Str := ["value", "low", "high"]
theorem sc_is_int_within : FnScope N_is_int_within ["value", "low", "high"] (defScope s_is_int_within) := ⟨rfl, rfl, rfl, by decide +kernel, rfl, by decide +kernel, by decide +kernel⟩
theorem ok_is_int_within (T : Blt mg) (D_is_plain_int : DefOk P w K mg base CX0 1 "is_plain_int" (spPlain K)) (D : DefAt K mg "is_int_within" s_is_int_within ["value", "low", "high"]) : DefOk P w K mg base CX0 2 "is_int_within" (spWithin K) := by
  refine D.ok sc_is_int_within (fun vs H Q E h => ?_) (fun f cdv A outer s H vs Q E hr h => ?_)
  · obtain ⟨x, lo, hi, b, rfl, _⟩ := h
    rfl
  obtain ⟨x, lo, hi, b, rfl, hx, q⟩ := h
  refine ⟨_, (pss_one (ps_ret (pe_and (pe_def D_is_plain_int hr (by decide) pass0 (pa_cons (pv 0) pa_nil)) (pe_one (pe_chain op_le op_le (pv 1) (pv 0) (pv 2)))))), ?_⟩
  rcases hx with ⟨i, rfl, rfl⟩ | ⟨hp, rfl⟩
  · refine ⟨_, rfl, _, true, rfl, PlainI.int i, _, rfl, iteT ?_⟩
    walk_at "rd"
    refine ifB (fun c => ?_) (fun c => ?_)
    · walk_at "rd"
      rw [c] at q
      exact q
    · rw [c] at q
      exact q
  · refine ⟨_, rfl, _, false, rfl, hp, _, rfl, iteF ?_⟩
    exact q
end
section
variable {P : Program} {w : World} {K : PySem.W.Frag} {mg : Str → Option Value} {base : Heap}
abbrev s_is_side : Stmt := top 21
abbrev N_is_side : List Str := ["value", "doors"]
theorem sc_is_side : FnScope N_is_side ["value"] (defScope s_is_side) := ⟨rfl, rfl, rfl, by decide +kernel, rfl, by decide +kernel, by decide +kernel⟩
theorem ok_is_side (T : Blt mg) (D_is_int_within : DefOk P w K mg base CX0 2 "is_int_within" (spWithin K)) (D : DefAt K mg "_is_side" s_is_side ["value"]) : DefOk P w K mg base CX0 3 "_is_side" (spSide K) := by
  refine D.ok sc_is_side (fun vs H Q E h => ?_) (fun f cdv A outer s H vs Q E hr h => ?_)
  · obtain ⟨x, b, rfl, _⟩ := h
    rfl
  obtain ⟨x, b, rfl, hx, q⟩ := h
  obtain ⟨t1, c_MOST_SWITCHES⟩ := T.c_MOST_SWITCHES
  obtain ⟨t2, c_MOST_DOORS⟩ := T.c_MOST_DOORS
  refine ⟨_, (pss_cons (ps_if (PW.pt (pw_or (pt_not (pt_val (pe_callB (cl_isi K) (by rfl) T.z_isinstance (by decide +kernel) (pa_cons (pv 0) (pa_cons (pe_bltn (v := .ty "tuple") (by rfl) T.z_tuple (by decide +kernel) rfl) pa_nil))))) (pw_or1 (pt_not (pt_chain op_le op_le pe_int (pe_callB (cl_len K) (by rfl) T.z_len (by decide +kernel) (pa_cons (pv 0) pa_nil)) (pe_gint (by rfl) c_MOST_SWITCHES))))))
    (pss_one (ps_ret pe_bl))
    pss_nil)
  (pss_one (ps_ret (pe_callB (cl_all K) (by rfl) T.z_all (by decide +kernel) (pa_cons (pe_lc (own := [("doors", 1)]) (g := gName 1) (tt := tYes) rfl sc_is_side.nd (piT K (pv 0)) (blkOk_by (N := N_is_side) (sc := defScope s_is_side) (by decide +kernel)) (fun _ _ _ _ _ => (pg_name (i := 1) sc_is_side.nd rfl (Or.inl rfl))) (fun _ _ _ _ _ => pts_nil) (fun _ _ _ _ _ => (pe_def D_is_int_within hr (by decide) pass0 (pa_cons (pv 1) (pa_cons pe_int (pa_cons (pe_gint (by rfl) c_MOST_DOORS) pa_nil)))))) pa_nil))))), ?_⟩
  rcases hx with ⟨a, xs, bs, rfl, hxs, hl, hin, rfl⟩ | ⟨t, ty, k1, rfl⟩
  · refine ⟨_, rfl, _, _, .type "tuple", _, true, rfl, .ty "tuple", .base (.tup hxs), kit_ty (by decide +kernel), _, rfl, iteF ?_⟩
    walk_at "rd"
    refine ⟨a, xs, rfl, .inr (SqT.of hxs), ?_⟩
    walk_at "rd"
    refine ifB (fun c1 => ?_) (fun c1 => ?_)
    · walk_at "rd"
      have c1' := of_decide_eq_true c1
      by_cases c2 : xs.length ≤ 4
      · rw [show decide ((xs.length : Int) ≤ 4) = true from decide_eq_true (by omega)]
        refine iteF ?_
        refine ⟨_, rfl, a, rfl, ⟨_, SqT.of hxs⟩, fun D hD => lp_tup (K := K) (xs := xs) (fun i H' => H' D = some (.lst ((bs.take i).map V.bl)) ∧ But D H H')
          ⟨upd_same, .upd⟩ (fun i H' _ p => SqT.of (by rw [p.2 a (ne_of_none hxs hD)]; exact hxs)) ?_ ?_⟩
        · rintro i v H' hi ⟨h1, h2⟩
          have hib : i < bs.length := by rw [hl]; exact (List.getElem?_eq_some_iff.mp hi).1
          refine ⟨rfl, ?_⟩
          refine ⟨_, rfl, v, 1, 4, bs[i], rfl, (hin i v _ hi (List.getElem?_eq_getElem hib)).same (h2.same hD), _, h1, ?_, ?_⟩
          · rw [List.length_map, List.length_take]
            exact small1000 (by omega)
          · refine ⟨?_, fun b hb => ?_⟩
            · show upd H' D _ D = _
              rw [upd_same, List.take_add_one, List.map_append, List.getElem?_eq_getElem hib]
              rfl
            · rw [upd_ne hb]
              exact h2 b hb
        · rintro H' ⟨h1, h2⟩
          refine ⟨D, bs, rfl, SqL.of (by rw [h1, List.take_of_length_le (by omega)]), ?_⟩
          have := q H' (h2.same hD)
          rw [decide_eq_true (by omega : 1 ≤ xs.length), decide_eq_true c2] at this
          exact this
      · rw [show decide ((xs.length : Int) ≤ 4) = false from decide_eq_false (by omega)]
        refine iteT ?_
        have := q H (Same.refl H)
        rw [decide_eq_false c2, Bool.and_false, Bool.false_and] at this
        exact this
    · have c1' := of_decide_eq_false c1
      have := q H (Same.refl H)
      rw [decide_eq_false (by omega : ¬ 1 ≤ xs.length), Bool.false_and, Bool.false_and] at this
      exact ⟨_, rfl, this⟩
  · refine ⟨_, rfl, x, _, t, _, false, rfl, .ty "tuple", ty, k1, _, rfl, iteT ?_⟩
    exact q H (Same.refl H)
end
section
variable {P : Program} {w : World} {K : PySem.W.Frag} {mg : Str → Option Value} {base : Heap} {C : Addr}
abbrev s_Exchange___init : Stmt := inClass (top 22) 0
abbrev N_Exchange___init : List Str := ["self", "ins", "outs", "middles"]
theorem sc_Exchange___init : FnScope N_Exchange___init ["self", "ins", "outs", "middles"] (defScope s_Exchange___init) := ⟨rfl, rfl, rfl, by decide +kernel, rfl, by decide +kernel, by decide +kernel⟩
theorem ok_init (T : Blt mg) (X : ExT K mg C) (D_is_side : DefOk P w K mg base CX0 3 "_is_side" (spSide K)) (D_is_int_within : DefOk P w K mg base CX0 2 "is_int_within" (spWithin K))
    (D : MethAt K C "__init__" "Exchange.__init__" s_Exchange___init ["self", "ins", "outs", "middles"]) : MethOk P w K mg base CX0 4 C "__init__" (spInit C) := by
  refine D.fn sc_Exchange___init (fun vs H Q E h => ?_) (fun f cdv A outer s H vs Q E hr h => ?_)
  · obtain ⟨p, dx, i, o, ds, es, m, rfl, _⟩ := h
    rfl
  obtain ⟨p, dx, i, o, ds, es, m, rfl, hp, hi, gi, ho, go, m1, m2, q⟩ := h
  obtain ⟨t1, c_MOST_MIDDLES⟩ := T.c_MOST_MIDDLES
  refine ⟨_, (pss_cons (ps_if (pt_not (pt_val (pe_def D_is_side hr (by decide) pass0 (pa_cons (pv 1) pa_nil))))
    (pss_one ps_never)
    pss_nil)
  (pss_cons (ps_if (pt_not (pt_val (pe_def D_is_side hr (by decide) pass0 (pa_cons (pv 2) pa_nil))))
    (pss_one ps_never)
    pss_nil)
  (pss_cons (ps_if (pt_not (pt_val (pe_def D_is_int_within hr (by decide) pass0 (pa_cons (pv 3) (pa_cons pe_int (pa_cons (pe_gint (by rfl) c_MOST_MIDDLES) pa_nil))))))
    (pss_one ps_never)
    pss_nil)
  (pss_cons (ps_fldK K (pv 0) (pv 1))
  (pss_cons (ps_fldK K (pv 0) (pv 2))
  (pss_one (ps_fldK K (pv 0) (pv 3)))))))), ?_⟩
  refine ⟨_, rfl, _, true, rfl, gi.side hi, fun H1 s1 => ⟨_, rfl, ?_⟩⟩
  refine ⟨_, rfl, _, true, rfl, go.side (Same.tup s1 ho), fun H2 s2 => ⟨_, rfl, ?_⟩⟩
  refine ⟨_, rfl, _, _, _, true, rfl, InR.good m1 m2, _, rfl, ?_⟩
  have hp2 : H2 p = some (.ins C dx []) := s2 _ _ (s1 _ _ hp)
  refine ⟨_, rfl, _, rfl, p, C, dx, [], rfl, hp2, X.cl, X.nI, (by show 0 < 1000; decide), ?_⟩
  refine ⟨_, rfl, _, rfl, p, C, dx, _, rfl, upd_same, X.cl, X.nO, (by rw [putF_nil]; show 1 < 1000; decide), ?_⟩
  refine ⟨_, rfl, _, rfl, p, C, dx, _, rfl, upd_same, X.cl, X.nM, (by rw [putF_nil, putF_ne no1, putF_nil]; show 2 < 1000; decide), ?_⟩
  refine q _ ⟨dx, by rw [upd_same, exF_put]⟩ fun b u hb ne => ?_
  rw [upd_ne ne, upd_ne ne, upd_ne ne]
  exact s2 _ _ (s1 _ _ hb)
end
end K12o
set_option Elab.async false
set_option linter.all false
set_option maxRecDepth 100000
set_option maxHeartbeats 4000000
namespace Hz
open PySem PySem.Spec PyProof.Rows L2 He
section
variable {K : PySem.W.Frag} {h : Heap} {mg : Str → Option Value} {C f : Addr}
abbrev FnC : Type := Option (Str × Str × Arguments × FuncBody × Scope × Addr × List Str × Addr)
def fnC (K : PySem.W.Frag) (f : Addr) : FnC := match K.lookup f with
  | some ⟨_, _, .func fd, _⟩ => some (fd.name, fd.qualname, fd.params, fd.body, fd.scope, fd.globals, fd.closure.map (·.1), fd.builtins)
  | _ => none
structure DefC where
  cls : Str
  qual : Str
  st : Stmt
def DefC.val (d : DefC) : FnC := some ("__init__", d.qual, defArgs d.st, .stmts (defBody d.st), defScope d.st, mainGlobals, ["__class__"], builtinsNs)
def eiA (K : PySem.W.Frag) (x : Str) : Addr := ma K (ga K x) "__init__"
theorem raw {x q : Str} {a : Arguments} {b : List Stmt} {s : Scope} (F : ∃ fd, FunD K x q a b s [] [] f fd) : ∃ oc od osl kV doc pm an cdv ct, K.lookup f = some ⟨oc, od, .func (PySem.W.fnOf x q a b s .none kV doc pm an cdv ct), osl⟩ ∧ PySem.W.codeIn K cdv q = true ∧ PySem.W.keepIn K (.ref f) = true := by
  obtain ⟨fd, ⟨oc, od, dV, kV, doc, pm, an, cdv, ct, osl, rfl, hl, hc, hd, _⟩, hk⟩ := F
  rcases hd with ⟨_, rfl⟩ | ⟨h, _⟩
  · exact ⟨oc, od, osl, kV, doc, pm, an, cdv, ct, hl, hc, hk⟩
  · exact absurd rfl h
theorem int_raw {x : Str} {i : Int} (c : (Fa.int x i).ok K = true) : ∃ t, PySem.W.nsIn K mainGlobals x = some (some (.int i t)) := by
  have c2 : (match PySem.W.nsIn K mainGlobals x with
    | some (some (.int j _)) => decide (j = i)
    | _ => false) = true := c
  split at c2
  · rename_i j t e
    rw [of_decide_eq_true c2] at e
    exact ⟨t, e⟩
  · cases c2
end
abbrev AlZ : Type := AlX × List FnC
def obsK (fa : List Fa) (fn : List DefD) (ts : List Tab) (tf : List Defn) (ex : PySem.W.Frag → Bool) (xs : List DefC) (g : Addr → Option Obj) (K : PySem.W.Frag) : AlZ := ((obsT fa fn ts K, ex K && tabsB g tf K), xs.map fun x => fnC K (eiA K x.cls))
def valZ (fn : List DefD) (ts : List Tab) (xs : List DefC) (w : World) : AlZ := (valX fn ts w, xs.map DefC.val)
structure SaysZ (fa : List Fa) (fn : List DefD) (ts : List Tab) (tf : List Defn) (ex : PySem.W.Frag → Bool) (xs : List DefC) (w : World) (h : Heap) (K : PySem.W.Frag) : Prop where
  x : SaysX fa fn ts tf ex w h K
  c : xs.map (fun x => fnC K (eiA K x.cls)) = xs.map DefC.val
theorem saysZ_of {fa : List Fa} {fn : List DefD} {ts : List Tab} {tf : List Defn} {ex : PySem.W.Frag → Bool} {xs : List DefC} {w : World} {h : Heap} {as : List Addr} (e : obsK fa fn ts tf ex xs h.get? (frT h.get? as) = valZ fn ts xs w) : SaysZ fa fn ts tf ex xs w h (frT h.get? as) := by
  have e1 : obsT fa fn ts (frT h.get? as) = valT fn ts w := congrArg (fun z : AlZ => z.1.1) e
  have e2 : (ex (frT h.get? as) && tabsB h.get? tf (frT h.get? as)) = true := congrArg (fun z : AlZ => z.1.2) e
  obtain ⟨h1, h2⟩ := ba e2
  have key : ∀ p ∈ tf, PySem.W.codeHdIn (frT h.get? as) (cT (frT h.get? as) p).1 (cT (frT h.get? as) p).2 = true ∧ ∃ o, h.get? (cT (frT h.get? as) p).2 = some o ∧ emptyTab o = true := fun p hp => by
    obtain ⟨h3, h4⟩ := ba (List.all_eq_true.mp h2 p hp)
    refine ⟨h3, ?_⟩
    cases q : h.get? (cT (frT h.get? as) p).2 with
    | none =>
      rw [q] at h4
      cases h4
    | some o =>
      rw [q] at h4
      exact ⟨o, rfl, h4⟩
  exact ⟨⟨e1, h1, fun p hp => (key p hp).1, fun p hp => by
    obtain ⟨_, o, q, z⟩ := key p hp
    exact frT_none q z, fun p hp => by
    obtain ⟨_, o, q, z⟩ := key p hp
    rw [q, emptyTab_eq z]⟩, congrArg (fun z : AlZ => z.2) e⟩
def obsA (as : List Addr) (fa : List Fa) (fn : List DefD) (ts : List Tab) (tf : List Defn) (ex : PySem.W.Frag → Bool) (xs : List DefC) (g : Addr → Option Obj) : AlZ := obsK fa fn ts tf ex xs g (frT g as)
def hookA (as : List Addr) (fa : List Fa) (fn : List DefD) (ts : List Tab) (tf : List Defn) (ex : PySem.W.Frag → Bool) (xs : List DefC) : PySem.W.Hook where
  α := AlZ
  obs := fun s => obsA as fa fn ts tf ex xs s.heap.get?
  val := fun w => valZ fn ts xs w
  says := fun w h => ∃ K : PySem.W.Frag, K.In h ∧ SaysZ fa fn ts tf ex xs w h K
  of := fun _ _ e => ⟨_, frT_in, saysZ_of e⟩
  keeps := fun _ _ _ ⟨K, hK, c⟩ k => ⟨K, PySem.W.Frag.In.keeps hK k, ⟨⟨c.x.t, c.x.more, c.x.hd, c.x.out, fun p hp => k _ _ (c.x.empty p hp)⟩, c.c⟩⟩
theorem obsA_eq {as : List Addr} {fa : List Fa} {fn : List DefD} {ts : List Tab} {tf : List Defn} {ex : PySem.W.Frag → Bool} {xs : List DefC} {g : Addr → Option Obj} {s : Shared} (h : ∀ a, g a = s.heap.get? a) : obsA as fa fn ts tf ex xs g = (hookA as fa fn ts tf ex xs).obs s := by
  have e : g = s.heap.get? := funext h
  rw [e] <;> rfl
section
variable {fa : List Fa} {fn : List DefD} {ts : List Tab} {tf : List Defn} {exs : List (PySem.W.Frag → Bool)} {xs : List DefC} {w : World} {h : Heap} {K : PySem.W.Frag}
theorem SaysZ.fact (c : SaysZ fa fn ts tf (fun K => exs.all fun t => t K) xs w h K) (i : Nat) {f : Fa} (hi : fa[i]? = some f := by rfl) : f.ok K = true := (SaysT.d c.x.t).fact i hi
theorem SaysZ.def_ (c : SaysZ fa fn ts tf (fun K => exs.all fun t => t K) xs w h K) (i : Nat) {d : DefD} (hi : fn[i]? = some d := by rfl) : ∃ fd, FunD K d.name d.qual d.params d.body d.scope (d.dvs K) (d.kws K) (fAd K d.at_) fd := (SaysT.d c.x.t).def_ i hi
theorem SaysZ.ex (c : SaysZ fa fn ts tf (fun K => exs.all fun t => t K) xs w h K) (i : Nat) {t : PySem.W.Frag → Bool} (hi : exs[i]? = some t := by rfl) : t K = true := List.all_eq_true.mp c.x.more t (List.mem_of_getElem? hi)
end
end Hz
set_option Elab.async false
set_option linter.all false
set_option maxRecDepth 100000
set_option maxHeartbeats 4000000
namespace K12
open PySem PySem.Spec PyProof.Rows L2 Com Sd StV Gn Ext Dt
theorem law_d {K : PySem.W.Frag} {vs : List V} {H : Hp} {Q : VK} {E : XK} (h : spLaw K vs H Q E) : spOf (sdLaw K) vs H Q E := by
  obtain ⟨a, ns, rfl, hS, hl, q⟩ := h
  exact ⟨⟨H, fun _ => False, []⟩, [.scr K ns], fun d => d = .bl true, fun _ _ _ => False, ⟨fun _ _ e => e, fun _ h => h.elim, ⟨rfl, fun _ h => nomatch h⟩⟩, .one (.scr fun H' e => sqlS hS e), ⟨ns, rfl, hl, rfl⟩, fun W' v d H' _ hv hd => by subst hd; cases hv; exact q H', fun _ _ _ _ _ _ _ _ _ _ h => h.elim⟩
theorem kN_of {K : PySem.W.Frag} {C : Addr} (h1 : PySem.W.subIn K (.ref C) (.type "int") = some false) (h2 : PySem.W.subIn K (.ref C) (.type "bool") = some false) (h3 : PySem.W.subIn K (.ref C) (.type "tuple") = some false) (h4 : PySem.W.subIn K (.ref C) (.type "list") = some false) (h5 : PySem.W.subIn K (.ref C) (.type "str") = some false) (h6 : PySem.W.subIn K (.ref C) (.type "dict") = some false) :
    ∀ n ∈ (["int", "bool", "tuple", "list", "str", "dict"] : List String), PySem.W.kitOne K (.ref C) (.type n) = some false := fun n hn => by
  have h : n = "int" ∨ n = "bool" ∨ n = "tuple" ∨ n = "list" ∨ n = "str" ∨ n = "dict" := by simpa using hn
  rcases h with rfl | rfl | rfl | rfl | rfl | rfl
  · exact kit_type (by decide +kernel) h1 rfl
  · exact kit_type (by decide +kernel) h2 rfl
  · exact kit_type (by decide +kernel) h3 rfl
  · exact kit_type (by decide +kernel) h4 rfl
  · exact kit_type (by decide +kernel) h5 rfl
  · exact kit_type (by decide +kernel) h6 rfl
open Et (SpU spU)
open K12o (s_is_side s_flow s_pick s_Exchange___init)
theorem all_mk {P : Program} {w : World} {K : PySem.W.Frag} {h : Heap} {mg : Str → Option Value} {fa : Addr} (X : K.In h) (G : h.Ns mainGlobals mg) (hfa : mg "law" = some (.ref fa))
    {C_Exchange : Addr}
    {f_is_plain_int : Addr} {od_is_plain_int an_is_plain_int : Option Addr} {sl_is_plain_int : Array (Option Value)} {oc_is_plain_int kV_is_plain_int dc_is_plain_int pm_is_plain_int cd_is_plain_int ct_is_plain_int : Value}
    {f_is_int_within : Addr} {od_is_int_within an_is_int_within : Option Addr} {sl_is_int_within : Array (Option Value)} {oc_is_int_within kV_is_int_within dc_is_int_within pm_is_int_within cd_is_int_within ct_is_int_within : Value}
    {f_is_pair : Addr} {od_is_pair an_is_pair : Option Addr} {sl_is_pair : Array (Option Value)} {oc_is_pair kV_is_pair dc_is_pair pm_is_pair cd_is_pair ct_is_pair : Value}
    {f_is_side : Addr} {od_is_side an_is_side : Option Addr} {sl_is_side : Array (Option Value)} {oc_is_side kV_is_side dc_is_side pm_is_side cd_is_side ct_is_side : Value}
    {f_check_pair : Addr} {od_check_pair an_check_pair : Option Addr} {sl_check_pair : Array (Option Value)} {oc_check_pair kV_check_pair dc_check_pair pm_check_pair cd_check_pair ct_check_pair : Value}
    {f_busiest : Addr} {od_busiest an_busiest : Option Addr} {sl_busiest : Array (Option Value)} {oc_busiest kV_busiest dc_busiest pm_busiest cd_busiest ct_busiest : Value}
    {f_busy_calls : Addr} {od_busy_calls an_busy_calls : Option Addr} {sl_busy_calls : Array (Option Value)} {oc_busy_calls kV_busy_calls dc_busy_calls pm_busy_calls cd_busy_calls ct_busy_calls : Value}
    {f_strict : Addr} {od_strict an_strict : Option Addr} {sl_strict : Array (Option Value)} {oc_strict kV_strict dc_strict pm_strict cd_strict ct_strict : Value}
    {f_barring : Addr} {od_barring an_barring : Option Addr} {sl_barring : Array (Option Value)} {oc_barring kV_barring dc_barring pm_barring cd_barring ct_barring : Value}
    {f_flow : Addr} {od_flow an_flow : Option Addr} {sl_flow : Array (Option Value)} {oc_flow kV_flow dc_flow pm_flow cd_flow ct_flow : Value}
    {f_pick : Addr} {od_pick an_pick : Option Addr} {sl_pick : Array (Option Value)} {oc_pick kV_pick dc_pick pm_pick cd_pick ct_pick : Value}
    {f_is_integer : Addr} {od_is_integer an_is_integer : Option Addr} {sl_is_integer : Array (Option Value)} {oc_is_integer kV_is_integer dc_is_integer pm_is_integer cd_is_integer ct_is_integer : Value}
    {f_doors : Addr} {od_doors an_doors : Option Addr} {sl_doors : Array (Option Value)} {oc_doors kV_doors dc_doors pm_doors cd_doors ct_doors : Value}
    {f_free : Addr} {od_free an_free : Option Addr} {sl_free : Array (Option Value)} {oc_free kV_free dc_free pm_free cd_free ct_free : Value}
    {f_calls : Addr} {od_calls an_calls : Option Addr} {sl_calls : Array (Option Value)} {oc_calls kV_calls dc_calls pm_calls cd_calls ct_calls : Value}
    {f_left : Addr} {od_left an_left : Option Addr} {sl_left : Array (Option Value)} {oc_left kV_left dc_left pm_left cd_left ct_left : Value}
    {f_middles : Addr} {od_middles an_middles : Option Addr} {sl_middles : Array (Option Value)} {oc_middles kV_middles dc_middles pm_middles cd_middles ct_middles : Value}
    {f_put : Addr} {od_put an_put : Option Addr} {sl_put : Array (Option Value)} {oc_put kV_put dc_put pm_put cd_put ct_put : Value}
    {f_longer : Addr} {od_longer an_longer : Option Addr} {sl_longer : Array (Option Value)} {oc_longer kV_longer dc_longer pm_longer cd_longer ct_longer : Value}
    {f_all : Addr} {od_all an_all : Option Addr} {sl_all : Array (Option Value)} {oc_all kV_all dc_all pm_all cd_all ct_all : Value}
    {f_some_barred : Addr} {od_some_barred an_some_barred : Option Addr} {sl_some_barred : Array (Option Value)} {oc_some_barred kV_some_barred dc_some_barred pm_some_barred cd_some_barred ct_some_barred : Value}
    {f_law : Addr} {od_law an_law : Option Addr} {sl_law : Array (Option Value)} {oc_law kV_law dc_law pm_law cd_law ct_law : Value}
    {f_Exchange_init : Addr} {od_Exchange_init an_Exchange_init : Option Addr} {sl_Exchange_init : Array (Option Value)} {oc_Exchange_init kV_Exchange_init dc_Exchange_init pm_Exchange_init cd_Exchange_init ct_Exchange_init : Value}
    {f_Exchange_pairs : Addr} {od_Exchange_pairs an_Exchange_pairs : Option Addr} {sl_Exchange_pairs : Array (Option Value)} {oc_Exchange_pairs kV_Exchange_pairs dc_Exchange_pairs pm_Exchange_pairs cd_Exchange_pairs ct_Exchange_pairs : Value}
    {f_Exchange_turned : Addr} {od_Exchange_turned an_Exchange_turned : Option Addr} {sl_Exchange_turned : Array (Option Value)} {oc_Exchange_turned kV_Exchange_turned dc_Exchange_turned pm_Exchange_turned cd_Exchange_turned ct_Exchange_turned : Value}
    {f_Exchange_with_middles : Addr} {od_Exchange_with_middles an_Exchange_with_middles : Option Addr} {sl_Exchange_with_middles : Array (Option Value)} {oc_Exchange_with_middles kV_Exchange_with_middles dc_Exchange_with_middles pm_Exchange_with_middles cd_Exchange_with_middles ct_Exchange_with_middles : Value}
    {t_MOST_SWITCHES : Tok}
    {t_MOST_DOORS : Tok}
    {t_MOST_MIDDLES : Tok}
    (a_Exchange : PySem.W.nsIn K mainGlobals "Exchange" = some (some (.ref C_Exchange)))
    (a_is_plain_int : PySem.W.nsIn K mainGlobals "is_plain_int" = some (some (.ref f_is_plain_int)))
    (l_is_plain_int : K.lookup f_is_plain_int = some ⟨oc_is_plain_int, od_is_plain_int, .func (PySem.W.fnOf "is_plain_int" "is_plain_int" (defArgs s_is_plain_int) (defBody s_is_plain_int) (defScope s_is_plain_int) .none kV_is_plain_int dc_is_plain_int pm_is_plain_int an_is_plain_int cd_is_plain_int ct_is_plain_int), sl_is_plain_int⟩)
    (c_is_plain_int : PySem.W.codeIn K cd_is_plain_int "is_plain_int" = true)
    (k_is_plain_int : PySem.W.keepIn K (.ref f_is_plain_int) = true)
    (a_is_int_within : PySem.W.nsIn K mainGlobals "is_int_within" = some (some (.ref f_is_int_within)))
    (l_is_int_within : K.lookup f_is_int_within = some ⟨oc_is_int_within, od_is_int_within, .func (PySem.W.fnOf "is_int_within" "is_int_within" (defArgs s_is_int_within) (defBody s_is_int_within) (defScope s_is_int_within) .none kV_is_int_within dc_is_int_within pm_is_int_within an_is_int_within cd_is_int_within ct_is_int_within), sl_is_int_within⟩)
    (c_is_int_within : PySem.W.codeIn K cd_is_int_within "is_int_within" = true)
    (k_is_int_within : PySem.W.keepIn K (.ref f_is_int_within) = true)
    (a_is_pair : PySem.W.nsIn K mainGlobals "is_pair" = some (some (.ref f_is_pair)))
    (l_is_pair : K.lookup f_is_pair = some ⟨oc_is_pair, od_is_pair, .func (PySem.W.fnOf "is_pair" "is_pair" (defArgs s_is_pair) (defBody s_is_pair) (defScope s_is_pair) .none kV_is_pair dc_is_pair pm_is_pair an_is_pair cd_is_pair ct_is_pair), sl_is_pair⟩)
    (c_is_pair : PySem.W.codeIn K cd_is_pair "is_pair" = true)
    (k_is_pair : PySem.W.keepIn K (.ref f_is_pair) = true)
    (a_is_side : PySem.W.nsIn K mainGlobals "_is_side" = some (some (.ref f_is_side)))
    (l_is_side : K.lookup f_is_side = some ⟨oc_is_side, od_is_side, .func (PySem.W.fnOf "_is_side" "_is_side" (defArgs s_is_side) (defBody s_is_side) (defScope s_is_side) .none kV_is_side dc_is_side pm_is_side an_is_side cd_is_side ct_is_side), sl_is_side⟩)
    (c_is_side : PySem.W.codeIn K cd_is_side "_is_side" = true)
    (k_is_side : PySem.W.keepIn K (.ref f_is_side) = true)
    (a_check_pair : PySem.W.nsIn K mainGlobals "check_pair" = some (some (.ref f_check_pair)))
    (l_check_pair : K.lookup f_check_pair = some ⟨oc_check_pair, od_check_pair, .func (PySem.W.fnOf "check_pair" "check_pair" (defArgs s_check_pair) (defBody s_check_pair) (defScope s_check_pair) .none kV_check_pair dc_check_pair pm_check_pair an_check_pair cd_check_pair ct_check_pair), sl_check_pair⟩)
    (c_check_pair : PySem.W.codeIn K cd_check_pair "check_pair" = true)
    (k_check_pair : PySem.W.keepIn K (.ref f_check_pair) = true)
    (a_busiest : PySem.W.nsIn K mainGlobals "busiest" = some (some (.ref f_busiest)))
    (l_busiest : K.lookup f_busiest = some ⟨oc_busiest, od_busiest, .func (PySem.W.fnOf "busiest" "busiest" (defArgs s_busiest) (defBody s_busiest) (defScope s_busiest) .none kV_busiest dc_busiest pm_busiest an_busiest cd_busiest ct_busiest), sl_busiest⟩)
    (c_busiest : PySem.W.codeIn K cd_busiest "busiest" = true)
    (k_busiest : PySem.W.keepIn K (.ref f_busiest) = true)
    (a_busy_calls : PySem.W.nsIn K mainGlobals "_busy_calls" = some (some (.ref f_busy_calls)))
    (l_busy_calls : K.lookup f_busy_calls = some ⟨oc_busy_calls, od_busy_calls, .func (PySem.W.fnOf "_busy_calls" "_busy_calls" (defArgs s_busy_calls) (defBody s_busy_calls) (defScope s_busy_calls) .none kV_busy_calls dc_busy_calls pm_busy_calls an_busy_calls cd_busy_calls ct_busy_calls), sl_busy_calls⟩)
    (c_busy_calls : PySem.W.codeIn K cd_busy_calls "_busy_calls" = true)
    (k_busy_calls : PySem.W.keepIn K (.ref f_busy_calls) = true)
    (a_strict : PySem.W.nsIn K mainGlobals "strict" = some (some (.ref f_strict)))
    (l_strict : K.lookup f_strict = some ⟨oc_strict, od_strict, .func (PySem.W.fnOf "strict" "strict" (defArgs s_strict) (defBody s_strict) (defScope s_strict) .none kV_strict dc_strict pm_strict an_strict cd_strict ct_strict), sl_strict⟩)
    (c_strict : PySem.W.codeIn K cd_strict "strict" = true)
    (k_strict : PySem.W.keepIn K (.ref f_strict) = true)
    (a_barring : PySem.W.nsIn K mainGlobals "barring" = some (some (.ref f_barring)))
    (l_barring : K.lookup f_barring = some ⟨oc_barring, od_barring, .func (PySem.W.fnOf "barring" "barring" (defArgs s_barring) (defBody s_barring) (defScope s_barring) .none kV_barring dc_barring pm_barring an_barring cd_barring ct_barring), sl_barring⟩)
    (c_barring : PySem.W.codeIn K cd_barring "barring" = true)
    (k_barring : PySem.W.keepIn K (.ref f_barring) = true)
    (a_flow : PySem.W.nsIn K mainGlobals "_law_flow" = some (some (.ref f_flow)))
    (l_flow : K.lookup f_flow = some ⟨oc_flow, od_flow, .func (PySem.W.fnOf "_law_flow" "_law_flow" (defArgs s_flow) (defBody s_flow) (defScope s_flow) .none kV_flow dc_flow pm_flow an_flow cd_flow ct_flow), sl_flow⟩)
    (c_flow : PySem.W.codeIn K cd_flow "_law_flow" = true)
    (k_flow : PySem.W.keepIn K (.ref f_flow) = true)
    (a_pick : PySem.W.nsIn K mainGlobals "_law_pick" = some (some (.ref f_pick)))
    (l_pick : K.lookup f_pick = some ⟨oc_pick, od_pick, .func (PySem.W.fnOf "_law_pick" "_law_pick" (defArgs s_pick) (defBody s_pick) (defScope s_pick) .none kV_pick dc_pick pm_pick an_pick cd_pick ct_pick), sl_pick⟩)
    (c_pick : PySem.W.codeIn K cd_pick "_law_pick" = true)
    (k_pick : PySem.W.keepIn K (.ref f_pick) = true)
    (a_is_integer : PySem.W.nsIn K mainGlobals "_law_is_integer" = some (some (.ref f_is_integer)))
    (l_is_integer : K.lookup f_is_integer = some ⟨oc_is_integer, od_is_integer, .func (PySem.W.fnOf "_law_is_integer" "_law_is_integer" (defArgs s_is_integer) (defBody s_is_integer) (defScope s_is_integer) .none kV_is_integer dc_is_integer pm_is_integer an_is_integer cd_is_integer ct_is_integer), sl_is_integer⟩)
    (c_is_integer : PySem.W.codeIn K cd_is_integer "_law_is_integer" = true)
    (k_is_integer : PySem.W.keepIn K (.ref f_is_integer) = true)
    (a_doors : PySem.W.nsIn K mainGlobals "_law_doors" = some (some (.ref f_doors)))
    (l_doors : K.lookup f_doors = some ⟨oc_doors, od_doors, .func (PySem.W.fnOf "_law_doors" "_law_doors" (defArgs s_doors) (defBody s_doors) (defScope s_doors) .none kV_doors dc_doors pm_doors an_doors cd_doors ct_doors), sl_doors⟩)
    (c_doors : PySem.W.codeIn K cd_doors "_law_doors" = true)
    (k_doors : PySem.W.keepIn K (.ref f_doors) = true)
    (a_free : PySem.W.nsIn K mainGlobals "_law_free" = some (some (.ref f_free)))
    (l_free : K.lookup f_free = some ⟨oc_free, od_free, .func (PySem.W.fnOf "_law_free" "_law_free" (defArgs s_free) (defBody s_free) (defScope s_free) .none kV_free dc_free pm_free an_free cd_free ct_free), sl_free⟩)
    (c_free : PySem.W.codeIn K cd_free "_law_free" = true)
    (k_free : PySem.W.keepIn K (.ref f_free) = true)
    (a_calls : PySem.W.nsIn K mainGlobals "_law_calls" = some (some (.ref f_calls)))
    (l_calls : K.lookup f_calls = some ⟨oc_calls, od_calls, .func (PySem.W.fnOf "_law_calls" "_law_calls" (defArgs s_calls) (defBody s_calls) (defScope s_calls) .none kV_calls dc_calls pm_calls an_calls cd_calls ct_calls), sl_calls⟩)
    (c_calls : PySem.W.codeIn K cd_calls "_law_calls" = true)
    (k_calls : PySem.W.keepIn K (.ref f_calls) = true)
    (a_left : PySem.W.nsIn K mainGlobals "_law_left" = some (some (.ref f_left)))
    (l_left : K.lookup f_left = some ⟨oc_left, od_left, .func (PySem.W.fnOf "_law_left" "_law_left" (defArgs s_left) (defBody s_left) (defScope s_left) .none kV_left dc_left pm_left an_left cd_left ct_left), sl_left⟩)
    (c_left : PySem.W.codeIn K cd_left "_law_left" = true)
    (k_left : PySem.W.keepIn K (.ref f_left) = true)
    (a_middles : PySem.W.nsIn K mainGlobals "_law_middles" = some (some (.ref f_middles)))
    (l_middles : K.lookup f_middles = some ⟨oc_middles, od_middles, .func (PySem.W.fnOf "_law_middles" "_law_middles" (defArgs s_middles) (defBody s_middles) (defScope s_middles) .none kV_middles dc_middles pm_middles an_middles cd_middles ct_middles), sl_middles⟩)
    (c_middles : PySem.W.codeIn K cd_middles "_law_middles" = true)
    (k_middles : PySem.W.keepIn K (.ref f_middles) = true)
    (a_put : PySem.W.nsIn K mainGlobals "_law_put" = some (some (.ref f_put)))
    (l_put : K.lookup f_put = some ⟨oc_put, od_put, .func (PySem.W.fnOf "_law_put" "_law_put" (defArgs s_put) (defBody s_put) (defScope s_put) .none kV_put dc_put pm_put an_put cd_put ct_put), sl_put⟩)
    (c_put : PySem.W.codeIn K cd_put "_law_put" = true)
    (k_put : PySem.W.keepIn K (.ref f_put) = true)
    (a_longer : PySem.W.nsIn K mainGlobals "_law_longer" = some (some (.ref f_longer)))
    (l_longer : K.lookup f_longer = some ⟨oc_longer, od_longer, .func (PySem.W.fnOf "_law_longer" "_law_longer" (defArgs s_longer) (defBody s_longer) (defScope s_longer) .none kV_longer dc_longer pm_longer an_longer cd_longer ct_longer), sl_longer⟩)
    (c_longer : PySem.W.codeIn K cd_longer "_law_longer" = true)
    (k_longer : PySem.W.keepIn K (.ref f_longer) = true)
    (a_all : PySem.W.nsIn K mainGlobals "_law_all" = some (some (.ref f_all)))
    (l_all : K.lookup f_all = some ⟨oc_all, od_all, .func (PySem.W.fnOf "_law_all" "_law_all" (defArgs s_all) (defBody s_all) (defScope s_all) .none kV_all dc_all pm_all an_all cd_all ct_all), sl_all⟩)
    (c_all : PySem.W.codeIn K cd_all "_law_all" = true)
    (k_all : PySem.W.keepIn K (.ref f_all) = true)
    (a_some_barred : PySem.W.nsIn K mainGlobals "_law_some_barred" = some (some (.ref f_some_barred)))
    (l_some_barred : K.lookup f_some_barred = some ⟨oc_some_barred, od_some_barred, .func (PySem.W.fnOf "_law_some_barred" "_law_some_barred" (defArgs s_some_barred) (defBody s_some_barred) (defScope s_some_barred) .none kV_some_barred dc_some_barred pm_some_barred an_some_barred cd_some_barred ct_some_barred), sl_some_barred⟩)
    (c_some_barred : PySem.W.codeIn K cd_some_barred "_law_some_barred" = true)
    (k_some_barred : PySem.W.keepIn K (.ref f_some_barred) = true)
    (a_law : PySem.W.nsIn K mainGlobals "law" = some (some (.ref f_law)))
    (l_law : K.lookup f_law = some ⟨oc_law, od_law, .func (PySem.W.fnOf "law" "law" (defArgs s_law) (defBody s_law) (defScope s_law) .none kV_law dc_law pm_law an_law cd_law ct_law), sl_law⟩)
    (c_law : PySem.W.codeIn K cd_law "law" = true)
    (k_law : PySem.W.keepIn K (.ref f_law) = true)
    (a_Exchange_init : PySem.W.findIn K (.ref C_Exchange) "__init__" = some (some (.ref f_Exchange_init)))
    (i_Exchange_init : PySem.W.isFn K (.ref f_Exchange_init) = true)
    (l_Exchange_init : K.lookup f_Exchange_init = some ⟨oc_Exchange_init, od_Exchange_init, .func (PySem.W.fnOf "__init__" "Exchange.__init__" (defArgs s_Exchange___init) (defBody s_Exchange___init) (defScope s_Exchange___init) .none kV_Exchange_init dc_Exchange_init pm_Exchange_init an_Exchange_init cd_Exchange_init ct_Exchange_init), sl_Exchange_init⟩)
    (c_Exchange_init : PySem.W.codeIn K cd_Exchange_init "Exchange.__init__" = true)
    (k_Exchange_init : PySem.W.keepIn K (.ref f_Exchange_init) = true)
    (a_Exchange_pairs : PySem.W.findIn K (.ref C_Exchange) "pairs" = some (some (.ref f_Exchange_pairs)))
    (i_Exchange_pairs : PySem.W.isFn K (.ref f_Exchange_pairs) = true)
    (l_Exchange_pairs : K.lookup f_Exchange_pairs = some ⟨oc_Exchange_pairs, od_Exchange_pairs, .func (PySem.W.fnOf "pairs" "Exchange.pairs" (defArgs s_Exchange_pairs) (defBody s_Exchange_pairs) (defScope s_Exchange_pairs) .none kV_Exchange_pairs dc_Exchange_pairs pm_Exchange_pairs an_Exchange_pairs cd_Exchange_pairs ct_Exchange_pairs), sl_Exchange_pairs⟩)
    (c_Exchange_pairs : PySem.W.codeIn K cd_Exchange_pairs "Exchange.pairs" = true)
    (k_Exchange_pairs : PySem.W.keepIn K (.ref f_Exchange_pairs) = true)
    (a_Exchange_turned : PySem.W.findIn K (.ref C_Exchange) "turned" = some (some (.ref f_Exchange_turned)))
    (i_Exchange_turned : PySem.W.isFn K (.ref f_Exchange_turned) = true)
    (l_Exchange_turned : K.lookup f_Exchange_turned = some ⟨oc_Exchange_turned, od_Exchange_turned, .func (PySem.W.fnOf "turned" "Exchange.turned" (defArgs s_Exchange_turned) (defBody s_Exchange_turned) (defScope s_Exchange_turned) .none kV_Exchange_turned dc_Exchange_turned pm_Exchange_turned an_Exchange_turned cd_Exchange_turned ct_Exchange_turned), sl_Exchange_turned⟩)
    (c_Exchange_turned : PySem.W.codeIn K cd_Exchange_turned "Exchange.turned" = true)
    (k_Exchange_turned : PySem.W.keepIn K (.ref f_Exchange_turned) = true)
    (a_Exchange_with_middles : PySem.W.findIn K (.ref C_Exchange) "with_middles" = some (some (.ref f_Exchange_with_middles)))
    (i_Exchange_with_middles : PySem.W.isFn K (.ref f_Exchange_with_middles) = true)
    (l_Exchange_with_middles : K.lookup f_Exchange_with_middles = some ⟨oc_Exchange_with_middles, od_Exchange_with_middles, .func (PySem.W.fnOf "with_middles" "Exchange.with_middles" (defArgs s_Exchange_with_middles) (defBody s_Exchange_with_middles) (defScope s_Exchange_with_middles) .none kV_Exchange_with_middles dc_Exchange_with_middles pm_Exchange_with_middles an_Exchange_with_middles cd_Exchange_with_middles ct_Exchange_with_middles), sl_Exchange_with_middles⟩)
    (c_Exchange_with_middles : PySem.W.codeIn K cd_Exchange_with_middles "Exchange.with_middles" = true)
    (k_Exchange_with_middles : PySem.W.keepIn K (.ref f_Exchange_with_middles) = true)
    (x_pg : PySem.W.plainGet K C_Exchange Str.empty = true)
    (x_hd : PySem.W.hasDictIn K C_Exchange = true)
    (x_po : PySem.W.plainOver K C_Exchange = true)
    (x_sa : PySem.W.findIn K (.ref C_Exchange) "__setattr__" = some (some (.builtin "object.__setattr__")))
    (x_mk : PySem.W.makesIn K C_Exchange = true)
    (x_kc : PySem.W.keepIn K (.ref C_Exchange) = true)
    (x_ca : PySem.W.findIn K (.ref C_Exchange) "__class__" = some (some (.builtin "object.__class__")))
    (x_cm : PySem.W.mroIn K C_Exchange (.type "object") = some true)
    (x_ic : PySem.W.isClsIn K C_Exchange = true)
    (x_ty : PySem.W.typeIn K (.ref C_Exchange) = some (.type "type"))
    (x_sI : PySem.W.subIn K (.type "int") (.ref C_Exchange) = some false)
    (x_fS : PySem.W.notFirst K C_Exchange (.ref C_Exchange) = true)
    (x_n_ins : PySem.W.findIn K (.ref C_Exchange) "ins" = some none)
    (x_n_outs : PySem.W.findIn K (.ref C_Exchange) "outs" = some none)
    (x_n_middles : PySem.W.findIn K (.ref C_Exchange) "middles" = some none)
    (x_x_int : PySem.W.subIn K (.ref C_Exchange) (.type "int") = some false)
    (x_x_bool : PySem.W.subIn K (.ref C_Exchange) (.type "bool") = some false)
    (x_x_tuple : PySem.W.subIn K (.ref C_Exchange) (.type "tuple") = some false)
    (x_x_list : PySem.W.subIn K (.ref C_Exchange) (.type "list") = some false)
    (x_x_str : PySem.W.subIn K (.ref C_Exchange) (.type "str") = some false)
    (x_x_dict : PySem.W.subIn K (.ref C_Exchange) (.type "dict") = some false)
    (cn : PySem.W.specialIn K (.builtin "object.__class__") "__get__" = some (some (.builtin "getset_descriptor.__get__")))
    (ct : PySem.W.takesIn K (.builtin "object.__class__") = some true)
    (x_sT : PySem.W.subIn K (.type "tuple") (.ref C_Exchange) = some false)
    (x_fT : PySem.W.notFirst K C_Exchange (.type "tuple") = true)
    (x_fI : PySem.W.notFirst K C_Exchange (.type "int") = true)
    (z_len : PySem.W.nsIn K mainGlobals "len" = some none)
    (z_abs : PySem.W.nsIn K mainGlobals "abs" = some none)
    (z_int : PySem.W.nsIn K mainGlobals "int" = some none)
    (z_bool : PySem.W.nsIn K mainGlobals "bool" = some none)
    (z_tuple : PySem.W.nsIn K mainGlobals "tuple" = some none)
    (z_list : PySem.W.nsIn K mainGlobals "list" = some none)
    (z_str : PySem.W.nsIn K mainGlobals "str" = some none)
    (z_dict : PySem.W.nsIn K mainGlobals "dict" = some none)
    (z_isinstance : PySem.W.nsIn K mainGlobals "isinstance" = some none)
    (z_all : PySem.W.nsIn K mainGlobals "all" = some none)
    (z_any : PySem.W.nsIn K mainGlobals "any" = some none)
    (z_sum : PySem.W.nsIn K mainGlobals "sum" = some none)
    (z_range : PySem.W.nsIn K mainGlobals "range" = some none)
    (z_set : PySem.W.nsIn K mainGlobals "set" = some none)
    (z_sorted : PySem.W.nsIn K mainGlobals "sorted" = some none)
    (z_min : PySem.W.nsIn K mainGlobals "min" = some none)
    (z_max : PySem.W.nsIn K mainGlobals "max" = some none)
    (z_enumerate : PySem.W.nsIn K mainGlobals "enumerate" = some none)
    (z_reversed : PySem.W.nsIn K mainGlobals "reversed" = some none)
    (z_super : PySem.W.nsIn K mainGlobals "super" = some none)
    (y_MOST_SWITCHES : PySem.W.nsIn K mainGlobals "MOST_SWITCHES" = some (some (.int 4 t_MOST_SWITCHES)))
    (y_MOST_DOORS : PySem.W.nsIn K mainGlobals "MOST_DOORS" = some (some (.int 4 t_MOST_DOORS)))
    (y_MOST_MIDDLES : PySem.W.nsIn K mainGlobals "MOST_MIDDLES" = some (some (.int 7 t_MOST_MIDDLES)))
    : ∃ fd : FuncData, (∀ (s : Shared) (v : Value), BindsTo s fd ⟨[v], []⟩ [("_law_script", v)]) ∧ ∀ base : Heap, K.In base → base.Ns mainGlobals mg → FnOk P w K mg base CX0 8 fa fd ["_law_script"] (spLaw K) := by
  have efa := hfa.symm.trans (PySem.W.mg_of X G a_law)
  cases efa
  have D_is_plain_int : DefAt K mg "is_plain_int" s_is_plain_int ["value"] := DefAt.of X G a_is_plain_int l_is_plain_int c_is_plain_int k_is_plain_int fun _ _ _ _ _ _ us hl => match us, hl with | [_], _ => rfl
  have D_is_int_within : DefAt K mg "is_int_within" s_is_int_within ["value", "low", "high"] := DefAt.of X G a_is_int_within l_is_int_within c_is_int_within k_is_int_within fun _ _ _ _ _ _ us hl => match us, hl with | [_, _, _], _ => rfl
  have D_is_pair : DefAt K mg "is_pair" s_is_pair ["exchange", "thing"] := DefAt.of X G a_is_pair l_is_pair c_is_pair k_is_pair fun _ _ _ _ _ _ us hl => match us, hl with | [_, _], _ => rfl
  have D_is_side : DefAt K mg "_is_side" s_is_side ["value"] := DefAt.of X G a_is_side l_is_side c_is_side k_is_side fun _ _ _ _ _ _ us hl => match us, hl with | [_], _ => rfl
  have D_check_pair : DefAt K mg "check_pair" s_check_pair ["exchange", "pair"] := DefAt.of X G a_check_pair l_check_pair c_check_pair k_check_pair fun _ _ _ _ _ _ us hl => match us, hl with | [_, _], _ => rfl
  have D_busiest : DefAt K mg "busiest" s_busiest ["exchange", "pair"] := DefAt.of X G a_busiest l_busiest c_busiest k_busiest fun _ _ _ _ _ _ us hl => match us, hl with | [_, _], _ => rfl
  have D_busy_calls : DefAt K mg "_busy_calls" s_busy_calls ["exchange", "pair"] := DefAt.of X G a_busy_calls l_busy_calls c_busy_calls k_busy_calls fun _ _ _ _ _ _ us hl => match us, hl with | [_, _], _ => rfl
  have D_strict : DefAt K mg "strict" s_strict ["exchange"] := DefAt.of X G a_strict l_strict c_strict k_strict fun _ _ _ _ _ _ us hl => match us, hl with | [_], _ => rfl
  have D_barring : DefAt K mg "barring" s_barring ["exchange"] := DefAt.of X G a_barring l_barring c_barring k_barring fun _ _ _ _ _ _ us hl => match us, hl with | [_], _ => rfl
  have D_flow : DefAt K mg "_law_flow" s_flow ["_law_script", "_law_k"] := DefAt.of X G a_flow l_flow c_flow k_flow fun _ _ _ _ _ _ us hl => match us, hl with | [_, _], _ => rfl
  have D_pick : DefAt K mg "_law_pick" s_pick ["_law_flow_here", "_law_size"] := DefAt.of X G a_pick l_pick c_pick k_pick fun _ _ _ _ _ _ us hl => match us, hl with | [_, _], _ => rfl
  have D_is_integer : DefAt K mg "_law_is_integer" s_is_integer ["_law_actual"] := DefAt.of X G a_is_integer l_is_integer c_is_integer k_is_integer fun _ _ _ _ _ _ us hl => match us, hl with | [_], _ => rfl
  have D_doors : DefAt K mg "_law_doors" s_doors ["_law_flow_here", "_law_most", "_law_doors_here"] := DefAt.of X G a_doors l_doors c_doors k_doors fun _ _ _ _ _ _ us hl => match us, hl with | [_, _, _], _ => rfl
  have D_free : DefAt K mg "_law_free" s_free ["_law_load", "_law_pair"] := DefAt.of X G a_free l_free c_free k_free fun _ _ _ _ _ _ us hl => match us, hl with | [_, _], _ => rfl
  have D_calls : DefAt K mg "_law_calls" s_calls ["_law_standing"] := DefAt.of X G a_calls l_calls c_calls k_calls fun _ _ _ _ _ _ us hl => match us, hl with | [_], _ => rfl
  have D_left : DefAt K mg "_law_left" s_left ["_law_exchange", "_law_standing"] := DefAt.of X G a_left l_left c_left k_left fun _ _ _ _ _ _ us hl => match us, hl with | [_, _], _ => rfl
  have D_middles : DefAt K mg "_law_middles" s_middles ["_law_standing", "_law_pair"] := DefAt.of X G a_middles l_middles c_middles k_middles fun _ _ _ _ _ _ us hl => match us, hl with | [_, _], _ => rfl
  have D_put : DefAt K mg "_law_put" s_put ["_law_standing", "_law_pair", "_law_k"] := DefAt.of X G a_put l_put c_put k_put fun _ _ _ _ _ _ us hl => match us, hl with | [_, _, _], _ => rfl
  have D_longer : DefAt K mg "_law_longer" s_longer ["_law_exchange", "_law_one"] := DefAt.of X G a_longer l_longer c_longer k_longer fun _ _ _ _ _ _ us hl => match us, hl with | [_, _], _ => rfl
  have D_all : DefAt K mg "_law_all" s_all ["_law_exchange"] := DefAt.of X G a_all l_all c_all k_all fun _ _ _ _ _ _ us hl => match us, hl with | [_], _ => rfl
  have D_some_barred : DefAt K mg "_law_some_barred" s_some_barred ["_law_exchange"] := DefAt.of X G a_some_barred l_some_barred c_some_barred k_some_barred fun _ _ _ _ _ _ us hl => match us, hl with | [_], _ => rfl
  have D_law : DefAt K mg "law" s_law ["_law_script"] := DefAt.of X G a_law l_law c_law k_law fun _ _ _ _ _ _ us hl => match us, hl with | [_], _ => rfl
  have D_Exchange_init : MethAt K C_Exchange "__init__" "Exchange.__init__" s_Exchange___init ["self", "ins", "outs", "middles"] := MethAt.of a_Exchange_init i_Exchange_init l_Exchange_init c_Exchange_init k_Exchange_init fun _ _ _ _ _ _ us hl => match us, hl with | [_, _, _, _], _ => rfl
  have D_Exchange_pairs : MethAt K C_Exchange "pairs" "Exchange.pairs" s_Exchange_pairs ["self"] := MethAt.of a_Exchange_pairs i_Exchange_pairs l_Exchange_pairs c_Exchange_pairs k_Exchange_pairs fun _ _ _ _ _ _ us hl => match us, hl with | [_], _ => rfl
  have D_Exchange_turned : MethAt K C_Exchange "turned" "Exchange.turned" s_Exchange_turned ["self"] := MethAt.of a_Exchange_turned i_Exchange_turned l_Exchange_turned c_Exchange_turned k_Exchange_turned fun _ _ _ _ _ _ us hl => match us, hl with | [_], _ => rfl
  have D_Exchange_with_middles : MethAt K C_Exchange "with_middles" "Exchange.with_middles" s_Exchange_with_middles ["self", "middles"] := MethAt.of a_Exchange_with_middles i_Exchange_with_middles l_Exchange_with_middles c_Exchange_with_middles k_Exchange_with_middles fun _ _ _ _ _ _ us hl => match us, hl with | [_, _], _ => rfl
  have To : K12o.Blt mg := ⟨PySem.W.mg_none_of X G z_len, PySem.W.mg_none_of X G z_abs, PySem.W.mg_none_of X G z_int, PySem.W.mg_none_of X G z_bool, PySem.W.mg_none_of X G z_tuple, PySem.W.mg_none_of X G z_list, PySem.W.mg_none_of X G z_isinstance, PySem.W.mg_none_of X G z_all, PySem.W.mg_none_of X G z_range, PySem.W.mg_none_of X G z_set, PySem.W.mg_none_of X G z_sorted, PySem.W.mg_none_of X G z_min, PySem.W.mg_none_of X G z_max, PySem.W.mg_none_of X G z_enumerate, ⟨_, PySem.W.mg_of X G y_MOST_SWITCHES⟩, ⟨_, PySem.W.mg_of X G y_MOST_DOORS⟩, ⟨_, PySem.W.mg_of X G y_MOST_MIDDLES⟩⟩
  have T : Blt mg := ⟨PySem.W.mg_none_of X G z_len, PySem.W.mg_none_of X G z_abs, PySem.W.mg_none_of X G z_int, PySem.W.mg_none_of X G z_bool, PySem.W.mg_none_of X G z_tuple, PySem.W.mg_none_of X G z_list, PySem.W.mg_none_of X G z_str, PySem.W.mg_none_of X G z_dict, PySem.W.mg_none_of X G z_isinstance, PySem.W.mg_none_of X G z_all, PySem.W.mg_none_of X G z_any, PySem.W.mg_none_of X G z_sum, PySem.W.mg_none_of X G z_range, PySem.W.mg_none_of X G z_set, PySem.W.mg_none_of X G z_sorted, PySem.W.mg_none_of X G z_min, PySem.W.mg_none_of X G z_max, PySem.W.mg_none_of X G z_enumerate, PySem.W.mg_none_of X G z_reversed, ⟨_, PySem.W.mg_of X G y_MOST_SWITCHES⟩, ⟨_, PySem.W.mg_of X G y_MOST_DOORS⟩, ⟨_, PySem.W.mg_of X G y_MOST_MIDDLES⟩⟩
  have XT : Gn.ExT K mg C_Exchange := ⟨⟨x_pg, x_hd, x_po, x_sa⟩, x_n_ins, x_n_outs, x_n_middles, x_ca, cn, ct, x_cm, kit_self, kit_own x_ic x_ty x_sT rfl, kit_own x_ic x_ty x_sI rfl, x_fS, x_fT, x_fI, PySem.W.mg_of X G a_Exchange⟩
  have XC : ExC K mg C_Exchange := ⟨⟨⟨x_pg, x_hd, x_po, x_sa⟩, x_ca, cn, ct, x_cm, kN_of x_x_int x_x_bool x_x_tuple x_x_list x_x_str x_x_dict⟩, x_n_ins, x_n_outs, x_n_middles⟩
  refine ⟨PySem.W.fnOf "law" "law" (defArgs s_law) (defBody s_law) (defScope s_law) .none kV_law dc_law pm_law an_law cd_law ct_law, fun s v => .of_eq rfl, fun base _ _ => ?_⟩
  have O1 : DefOk P w K mg base CX0 1 "is_plain_int" (spPlain K) := K12o.ok_is_plain_int To D_is_plain_int
  have O2 : DefOk P w K mg base CX0 2 "is_int_within" (spWithin K) := K12o.ok_is_int_within To O1 D_is_int_within
  have O3 : DefOk P w K mg base CX0 3 "_is_side" (spSide K) := K12o.ok_is_side To O2 D_is_side
  have I1 : MethOk P w K mg base CX0 4 C_Exchange "__init__" (spInit C_Exchange) := K12o.ok_init To XT O3 O2 D_Exchange_init
  have N1 : NewOk P w K mg base CX0 4 "Exchange" C_Exchange (spInit C_Exchange) := I1.new x_mk x_kc (PySem.W.mg_of X G a_Exchange)
  have FL0 : DefOk P w K mg base CX0 1 "_law_flow" (spFlow K) := K12o.ok_flow To D_flow
  have PI0 : DefOk P w K mg base CX0 1 "_law_pick" spPick := K12o.ok_pick To D_pick
  have FL : DefOk P w K mg base CX0 1 "_law_flow" (spOf (spFlowD K)) := defok_imp FL0 fun _ _ _ _ => flow_d
  have PI : DefOk P w K mg base CX0 1 "_law_pick" (spOf spPickD) := defok_imp PI0 fun _ _ _ _ => pick_d
  have P1 : DefOk P w K mg base CX0 1 "is_plain_int" (spOf (sdPlain K)) := ok_is_plain_int T D_is_plain_int
  have P2 : DefOk P w K mg base CX0 2 "is_int_within" (spOf (sdWithin K)) := ok_is_int_within T P1 D_is_int_within
  have P3 : DefOk P w K mg base CX0 3 "is_pair" (spOf (sdIsPair K C_Exchange)) := ok_is_pair T XC P2 D_is_pair
  have CP := ok_check_pair T XC P3 D_check_pair
  have MP : MethOk P w K mg base CX0 1 C_Exchange "pairs" (spOf (sdPairs C_Exchange)) := ok_pairs T XC D_Exchange_pairs
  have BC := ok_busy_calls (P := P) (w := w) (base := base) T XC D_busy_calls
  have BU := ok_busiest T XC CP BC D_busiest
  have ST := ok_strict T XC MP BU D_strict
  have BA := ok_barring T XC MP BC D_barring
  have MT := ok_turned T XC N1 D_Exchange_turned
  have MW := ok_with T XC N1 D_Exchange_with_middles
  have LI : DefOk P w K mg base CX0 1 "_law_is_integer" (spOf (sdPlain K)) := ok_is_integer T D_is_integer
  have LD := ok_doors T PI D_doors
  have LF := ok_lfree (P := P) (w := w) (base := base) T D_free
  have LM := ok_lmiddles T LF D_middles
  have LC := ok_lcalls (P := P) (w := w) (base := base) T D_calls
  have LL := ok_lleft T XC LC D_left
  have LP := ok_lput (P := P) (w := w) (base := base) T D_put
  have LG := ok_longer T XC LL LM LP D_longer
  have LA := ok_all T XC LG D_all
  have LS := ok_some T XC LA LL LM D_some_barred
  exact (ok_law_fn T XC FL PI LD LI N1 MT MW ST BA LS (fun_mk (st := s_law) l_law c_law k_law)).imp fun _ _ _ _ => law_d
def hfaL_0 : List He.Fa := [.glo "Exchange",
  .glo "is_plain_int",
  .glo "is_int_within",
  .glo "is_pair",
  .glo "_is_side",
  .glo "check_pair",
  .glo "busiest",
  .glo "_busy_calls",
  .glo "strict",
  .glo "barring",
  .glo "_law_flow",
  .glo "_law_pick",
  .glo "_law_is_integer",
  .glo "_law_doors",
  .glo "_law_free",
  .glo "_law_calls",
  .glo "_law_left",
  .glo "_law_middles",
  .glo "_law_put",
  .glo "_law_longer",
  .glo "_law_all",
  .glo "_law_some_barred",
  .glo "law",
  .meth "Exchange" "__init__",
  .meth "Exchange" "pairs"]
def hfaL_1 : List He.Fa := [.meth "Exchange" "turned",
  .meth "Exchange" "with_middles",
  .free "len",
  .free "abs",
  .free "int",
  .free "bool",
  .free "tuple",
  .free "list",
  .free "str",
  .free "dict",
  .free "isinstance",
  .free "all",
  .free "any",
  .free "sum",
  .free "range",
  .free "set",
  .free "sorted",
  .free "min",
  .free "max",
  .free "enumerate",
  .free "reversed",
  .free "super",
  .int "MOST_SWITCHES" 4,
  .int "MOST_DOORS" 4,
  .int "MOST_MIDDLES" 7]
def hfaL : List He.Fa := hfaL_0 ++ hfaL_1
def hfnL_0 : List He.DefD := [⟨("is_plain_int", none), "is_plain_int", "is_plain_int", defArgs s_is_plain_int, defBody s_is_plain_int, defScope s_is_plain_int, [], []⟩,
  ⟨("is_int_within", none), "is_int_within", "is_int_within", defArgs s_is_int_within, defBody s_is_int_within, defScope s_is_int_within, [], []⟩,
  ⟨("is_pair", none), "is_pair", "is_pair", defArgs s_is_pair, defBody s_is_pair, defScope s_is_pair, [], []⟩,
  ⟨("_is_side", none), "_is_side", "_is_side", defArgs s_is_side, defBody s_is_side, defScope s_is_side, [], []⟩,
  ⟨("check_pair", none), "check_pair", "check_pair", defArgs s_check_pair, defBody s_check_pair, defScope s_check_pair, [], []⟩,
  ⟨("busiest", none), "busiest", "busiest", defArgs s_busiest, defBody s_busiest, defScope s_busiest, [], []⟩,
  ⟨("_busy_calls", none), "_busy_calls", "_busy_calls", defArgs s_busy_calls, defBody s_busy_calls, defScope s_busy_calls, [], []⟩,
  ⟨("strict", none), "strict", "strict", defArgs s_strict, defBody s_strict, defScope s_strict, [], []⟩,
  ⟨("barring", none), "barring", "barring", defArgs s_barring, defBody s_barring, defScope s_barring, [], []⟩,
  ⟨("_law_flow", none), "_law_flow", "_law_flow", defArgs s_flow, defBody s_flow, defScope s_flow, [], []⟩,
  ⟨("_law_pick", none), "_law_pick", "_law_pick", defArgs s_pick, defBody s_pick, defScope s_pick, [], []⟩,
  ⟨("_law_is_integer", none), "_law_is_integer", "_law_is_integer", defArgs s_is_integer, defBody s_is_integer, defScope s_is_integer, [], []⟩,
  ⟨("_law_doors", none), "_law_doors", "_law_doors", defArgs s_doors, defBody s_doors, defScope s_doors, [], []⟩,
  ⟨("_law_free", none), "_law_free", "_law_free", defArgs s_free, defBody s_free, defScope s_free, [], []⟩,
  ⟨("_law_calls", none), "_law_calls", "_law_calls", defArgs s_calls, defBody s_calls, defScope s_calls, [], []⟩,
  ⟨("_law_left", none), "_law_left", "_law_left", defArgs s_left, defBody s_left, defScope s_left, [], []⟩,
  ⟨("_law_middles", none), "_law_middles", "_law_middles", defArgs s_middles, defBody s_middles, defScope s_middles, [], []⟩,
  ⟨("_law_put", none), "_law_put", "_law_put", defArgs s_put, defBody s_put, defScope s_put, [], []⟩,
  ⟨("_law_longer", none), "_law_longer", "_law_longer", defArgs s_longer, defBody s_longer, defScope s_longer, [], []⟩,
  ⟨("_law_all", none), "_law_all", "_law_all", defArgs s_all, defBody s_all, defScope s_all, [], []⟩,
  ⟨("_law_some_barred", none), "_law_some_barred", "_law_some_barred", defArgs s_some_barred, defBody s_some_barred, defScope s_some_barred, [], []⟩,
  ⟨("law", none), "law", "law", defArgs s_law, defBody s_law, defScope s_law, [], []⟩,
  ⟨("Exchange", some "__init__"), "__init__", "Exchange.__init__", defArgs s_Exchange___init, defBody s_Exchange___init, defScope s_Exchange___init, [], []⟩,
  ⟨("Exchange", some "pairs"), "pairs", "Exchange.pairs", defArgs s_Exchange_pairs, defBody s_Exchange_pairs, defScope s_Exchange_pairs, [], []⟩,
  ⟨("Exchange", some "turned"), "turned", "Exchange.turned", defArgs s_Exchange_turned, defBody s_Exchange_turned, defScope s_Exchange_turned, [], []⟩]
def hfnL_1 : List He.DefD := [⟨("Exchange", some "with_middles"), "with_middles", "Exchange.with_middles", defArgs s_Exchange_with_middles, defBody s_Exchange_with_middles, defScope s_Exchange_with_middles, [], []⟩]
def hfnL : List He.DefD := hfnL_0 ++ hfnL_1
def hxsL_0 : List Hz.DefC := []
def hxsL : List Hz.DefC := hxsL_0
def hexL_0 : List (PySem.W.Frag → Bool) := [fun K => decide (PySem.W.plainGet K (He.ga K "Exchange") Str.empty = true),
  fun K => decide (PySem.W.hasDictIn K (He.ga K "Exchange") = true),
  fun K => decide (PySem.W.plainOver K (He.ga K "Exchange") = true),
  fun K => decide (PySem.W.findIn K (.ref (He.ga K "Exchange")) "__setattr__" = some (some (.builtin "object.__setattr__"))),
  fun K => decide (PySem.W.makesIn K (He.ga K "Exchange") = true),
  fun K => decide (PySem.W.keepIn K (.ref (He.ga K "Exchange")) = true),
  fun K => decide (PySem.W.findIn K (.ref (He.ga K "Exchange")) "__class__" = some (some (.builtin "object.__class__"))),
  fun K => decide (PySem.W.mroIn K (He.ga K "Exchange") (.type "object") = some true),
  fun K => decide (PySem.W.isClsIn K (He.ga K "Exchange") = true),
  fun K => decide (PySem.W.typeIn K (.ref (He.ga K "Exchange")) = some (.type "type")),
  fun K => decide (PySem.W.subIn K (.type "int") (.ref (He.ga K "Exchange")) = some false),
  fun K => decide (PySem.W.notFirst K (He.ga K "Exchange") (.ref (He.ga K "Exchange")) = true),
  fun K => decide (PySem.W.findIn K (.ref (He.ga K "Exchange")) "ins" = some none),
  fun K => decide (PySem.W.findIn K (.ref (He.ga K "Exchange")) "outs" = some none),
  fun K => decide (PySem.W.findIn K (.ref (He.ga K "Exchange")) "middles" = some none),
  fun K => decide (PySem.W.subIn K (.ref (He.ga K "Exchange")) (.type "int") = some false),
  fun K => decide (PySem.W.subIn K (.ref (He.ga K "Exchange")) (.type "bool") = some false),
  fun K => decide (PySem.W.subIn K (.ref (He.ga K "Exchange")) (.type "tuple") = some false),
  fun K => decide (PySem.W.subIn K (.ref (He.ga K "Exchange")) (.type "list") = some false),
  fun K => decide (PySem.W.subIn K (.ref (He.ga K "Exchange")) (.type "str") = some false),
  fun K => decide (PySem.W.subIn K (.ref (He.ga K "Exchange")) (.type "dict") = some false),
  fun K => decide (PySem.W.specialIn K (.builtin "object.__class__") "__get__" = some (some (.builtin "getset_descriptor.__get__"))),
  fun K => decide (PySem.W.takesIn K (.builtin "object.__class__") = some true),
  fun K => decide (PySem.W.subIn K (.type "tuple") (.ref (He.ga K "Exchange")) = some false),
  fun K => decide (PySem.W.notFirst K (He.ga K "Exchange") (.type "tuple") = true)]
def hexL_1 : List (PySem.W.Frag → Bool) := [fun K => decide (PySem.W.notFirst K (He.ga K "Exchange") (.type "int") = true)]
def hexL : List (PySem.W.Frag → Bool) := hexL_0 ++ hexL_1
def addrL_0 : List Addr := [2,
  3,
  15,
  17,
  18,
  20,
  21,
  22,
  24,
  25,
  27,
  28,
  29,
  31,
  32,
  34,
  35,
  36,
  38,
  39,
  41,
  42,
  43,
  50,
  51,
  52,
  53,
  56,
  59,
  64,
  65,
  67,
  68,
  70,
  71,
  72,
  73,
  74,
  77,
  80]
def addrL_1 : List Addr := [85,
  86,
  88,
  89,
  91,
  92,
  93,
  94,
  95,
  98,
  100,
  101,
  103,
  104,
  105,
  107,
  108,
  110,
  111,
  112,
  115,
  116,
  117,
  120,
  121,
  122,
  125,
  126,
  127,
  130,
  131,
  139,
  141,
  142,
  144,
  145,
  146,
  148,
  149,
  151]
def addrL_2 : List Addr := [152,
  153,
  155,
  156,
  158,
  159,
  160,
  162,
  163,
  165,
  166,
  167,
  170,
  171,
  172,
  174,
  175,
  177,
  178,
  179,
  180,
  181,
  182,
  183,
  184,
  185,
  186,
  189,
  191,
  192,
  194,
  195,
  196,
  198,
  199,
  201,
  202,
  203,
  205,
  206]
def addrL_3 : List Addr := [208,
  209,
  210,
  213,
  214,
  215,
  218,
  219,
  220,
  222,
  223,
  225,
  226,
  227,
  229,
  230,
  232,
  233,
  241,
  244,
  245,
  246,
  248,
  249,
  251,
  252,
  258,
  260,
  261,
  263,
  264,
  265,
  267,
  268,
  270,
  271,
  272,
  274,
  275,
  277]
def addrL_4 : List Addr := [278,
  279,
  281,
  282,
  284,
  285]
def addrL : List Addr := addrL_0 ++ addrL_1 ++ addrL_2 ++ addrL_3 ++ addrL_4
def looseL_0 : List Str := ["_wall",
  "is_plain_int",
  "is_int_within",
  "is_pair",
  "CallError",
  "BadExchange",
  "NoPair",
  "check_pair",
  "busiest",
  "_busy_calls",
  "strict",
  "barring",
  "MOST_SWITCHES",
  "MOST_DOORS",
  "MOST_MIDDLES",
  "_is_side",
  "Exchange",
  "_law_flow",
  "_law_pick",
  "_law_is_integer",
  "_law_doors",
  "_law_free",
  "_law_calls",
  "_law_left",
  "_law_open"]
def looseL_1 : List Str := ["_law_middles",
  "_law_put",
  "_law_take",
  "_law_longer",
  "_law_all",
  "_law_some_barred"]
def looseL : List Str := looseL_0 ++ looseL_1
abbrev hR : PySem.W.OpenRow := PySem.W.OpenLaw.row PySem.Challenge.rw_callsthrough_k12_whole_strict_over_all_s
abbrev hk : PySem.W.Hook := Hz.hookA addrL hfaL hfnL [] [] (fun K => hexL.all fun t => t K) hxsL
def ob (s : PySem.W.SharedT) : Hz.AlZ := Hz.obsA addrL hfaL hfnL [] [] (fun K => hexL.all fun t => t K) hxsL (HandSHeadRun.getT s)
theorem ob_eq (s : PySem.W.SharedT) : ob s = hk.obs s.abs := Hz.obsA_eq (HandSHeadRun.getT_eq s)
theorem head_run (w : World) : HandSHeadRun.RunEqI hR (PySem.W.view hR.prog [38]) hk ob 9000 looseL w := by
  unfold HandSHeadRun.RunEqI
  kernel_rfl
theorem facts {w : World} {K : PySem.W.Frag} {h : Heap} {mg : Str → Option Value} {fa : Addr} (X : K.In h) (G : h.Ns mainGlobals mg) (hfa : mg "law" = some (.ref fa)) (c : Hz.SaysZ hfaL hfnL [] [] (fun K => hexL.all fun t => t K) hxsL w h K) : ∃ fd : FuncData, (∀ (s : Shared) (v : Value), BindsTo s fd ⟨[v], []⟩ [("_law_script", v)]) ∧ ∀ base : Heap, K.In base → base.Ns mainGlobals mg → FnOk (PySem.Challenge.rw_callsthrough_k12_whole_strict_over_all_s).prog w K mg base CX0 8 fa fd ["_law_script"] (spLaw K) := by
  obtain ⟨oc_is_plain_int, od_is_plain_int, sl_is_plain_int, kV_is_plain_int, dc_is_plain_int, pm_is_plain_int, an_is_plain_int, cd_is_plain_int, ct_is_plain_int, l_is_plain_int, c_is_plain_int, k_is_plain_int⟩ := Hz.raw (c.def_ 0 rfl)
  obtain ⟨oc_is_int_within, od_is_int_within, sl_is_int_within, kV_is_int_within, dc_is_int_within, pm_is_int_within, an_is_int_within, cd_is_int_within, ct_is_int_within, l_is_int_within, c_is_int_within, k_is_int_within⟩ := Hz.raw (c.def_ 1 rfl)
  obtain ⟨oc_is_pair, od_is_pair, sl_is_pair, kV_is_pair, dc_is_pair, pm_is_pair, an_is_pair, cd_is_pair, ct_is_pair, l_is_pair, c_is_pair, k_is_pair⟩ := Hz.raw (c.def_ 2 rfl)
  obtain ⟨oc_is_side, od_is_side, sl_is_side, kV_is_side, dc_is_side, pm_is_side, an_is_side, cd_is_side, ct_is_side, l_is_side, c_is_side, k_is_side⟩ := Hz.raw (c.def_ 3 rfl)
  obtain ⟨oc_check_pair, od_check_pair, sl_check_pair, kV_check_pair, dc_check_pair, pm_check_pair, an_check_pair, cd_check_pair, ct_check_pair, l_check_pair, c_check_pair, k_check_pair⟩ := Hz.raw (c.def_ 4 rfl)
  obtain ⟨oc_busiest, od_busiest, sl_busiest, kV_busiest, dc_busiest, pm_busiest, an_busiest, cd_busiest, ct_busiest, l_busiest, c_busiest, k_busiest⟩ := Hz.raw (c.def_ 5 rfl)
  obtain ⟨oc_busy_calls, od_busy_calls, sl_busy_calls, kV_busy_calls, dc_busy_calls, pm_busy_calls, an_busy_calls, cd_busy_calls, ct_busy_calls, l_busy_calls, c_busy_calls, k_busy_calls⟩ := Hz.raw (c.def_ 6 rfl)
  obtain ⟨oc_strict, od_strict, sl_strict, kV_strict, dc_strict, pm_strict, an_strict, cd_strict, ct_strict, l_strict, c_strict, k_strict⟩ := Hz.raw (c.def_ 7 rfl)
  obtain ⟨oc_barring, od_barring, sl_barring, kV_barring, dc_barring, pm_barring, an_barring, cd_barring, ct_barring, l_barring, c_barring, k_barring⟩ := Hz.raw (c.def_ 8 rfl)
  obtain ⟨oc_flow, od_flow, sl_flow, kV_flow, dc_flow, pm_flow, an_flow, cd_flow, ct_flow, l_flow, c_flow, k_flow⟩ := Hz.raw (c.def_ 9 rfl)
  obtain ⟨oc_pick, od_pick, sl_pick, kV_pick, dc_pick, pm_pick, an_pick, cd_pick, ct_pick, l_pick, c_pick, k_pick⟩ := Hz.raw (c.def_ 10 rfl)
  obtain ⟨oc_is_integer, od_is_integer, sl_is_integer, kV_is_integer, dc_is_integer, pm_is_integer, an_is_integer, cd_is_integer, ct_is_integer, l_is_integer, c_is_integer, k_is_integer⟩ := Hz.raw (c.def_ 11 rfl)
  obtain ⟨oc_doors, od_doors, sl_doors, kV_doors, dc_doors, pm_doors, an_doors, cd_doors, ct_doors, l_doors, c_doors, k_doors⟩ := Hz.raw (c.def_ 12 rfl)
  obtain ⟨oc_free, od_free, sl_free, kV_free, dc_free, pm_free, an_free, cd_free, ct_free, l_free, c_free, k_free⟩ := Hz.raw (c.def_ 13 rfl)
  obtain ⟨oc_calls, od_calls, sl_calls, kV_calls, dc_calls, pm_calls, an_calls, cd_calls, ct_calls, l_calls, c_calls, k_calls⟩ := Hz.raw (c.def_ 14 rfl)
  obtain ⟨oc_left, od_left, sl_left, kV_left, dc_left, pm_left, an_left, cd_left, ct_left, l_left, c_left, k_left⟩ := Hz.raw (c.def_ 15 rfl)
  obtain ⟨oc_middles, od_middles, sl_middles, kV_middles, dc_middles, pm_middles, an_middles, cd_middles, ct_middles, l_middles, c_middles, k_middles⟩ := Hz.raw (c.def_ 16 rfl)
  obtain ⟨oc_put, od_put, sl_put, kV_put, dc_put, pm_put, an_put, cd_put, ct_put, l_put, c_put, k_put⟩ := Hz.raw (c.def_ 17 rfl)
  obtain ⟨oc_longer, od_longer, sl_longer, kV_longer, dc_longer, pm_longer, an_longer, cd_longer, ct_longer, l_longer, c_longer, k_longer⟩ := Hz.raw (c.def_ 18 rfl)
  obtain ⟨oc_all, od_all, sl_all, kV_all, dc_all, pm_all, an_all, cd_all, ct_all, l_all, c_all, k_all⟩ := Hz.raw (c.def_ 19 rfl)
  obtain ⟨oc_some_barred, od_some_barred, sl_some_barred, kV_some_barred, dc_some_barred, pm_some_barred, an_some_barred, cd_some_barred, ct_some_barred, l_some_barred, c_some_barred, k_some_barred⟩ := Hz.raw (c.def_ 20 rfl)
  obtain ⟨oc_law, od_law, sl_law, kV_law, dc_law, pm_law, an_law, cd_law, ct_law, l_law, c_law, k_law⟩ := Hz.raw (c.def_ 21 rfl)
  obtain ⟨oc_Exchange_init, od_Exchange_init, sl_Exchange_init, kV_Exchange_init, dc_Exchange_init, pm_Exchange_init, an_Exchange_init, cd_Exchange_init, ct_Exchange_init, l_Exchange_init, c_Exchange_init, k_Exchange_init⟩ := Hz.raw (c.def_ 22 rfl)
  obtain ⟨a_Exchange_init, i_Exchange_init, _⟩ := He.meth_ok (c.fact 23 (f := .meth "Exchange" "__init__") rfl)
  obtain ⟨oc_Exchange_pairs, od_Exchange_pairs, sl_Exchange_pairs, kV_Exchange_pairs, dc_Exchange_pairs, pm_Exchange_pairs, an_Exchange_pairs, cd_Exchange_pairs, ct_Exchange_pairs, l_Exchange_pairs, c_Exchange_pairs, k_Exchange_pairs⟩ := Hz.raw (c.def_ 23 rfl)
  obtain ⟨a_Exchange_pairs, i_Exchange_pairs, _⟩ := He.meth_ok (c.fact 24 (f := .meth "Exchange" "pairs") rfl)
  obtain ⟨oc_Exchange_turned, od_Exchange_turned, sl_Exchange_turned, kV_Exchange_turned, dc_Exchange_turned, pm_Exchange_turned, an_Exchange_turned, cd_Exchange_turned, ct_Exchange_turned, l_Exchange_turned, c_Exchange_turned, k_Exchange_turned⟩ := Hz.raw (c.def_ 24 rfl)
  obtain ⟨a_Exchange_turned, i_Exchange_turned, _⟩ := He.meth_ok (c.fact 25 (f := .meth "Exchange" "turned") rfl)
  obtain ⟨oc_Exchange_with_middles, od_Exchange_with_middles, sl_Exchange_with_middles, kV_Exchange_with_middles, dc_Exchange_with_middles, pm_Exchange_with_middles, an_Exchange_with_middles, cd_Exchange_with_middles, ct_Exchange_with_middles, l_Exchange_with_middles, c_Exchange_with_middles, k_Exchange_with_middles⟩ := Hz.raw (c.def_ 25 rfl)
  obtain ⟨a_Exchange_with_middles, i_Exchange_with_middles, _⟩ := He.meth_ok (c.fact 26 (f := .meth "Exchange" "with_middles") rfl)
  obtain ⟨t_MOST_SWITCHES, y_MOST_SWITCHES⟩ := Hz.int_raw (c.fact 47 (f := .int "MOST_SWITCHES" 4) rfl)
  obtain ⟨t_MOST_DOORS, y_MOST_DOORS⟩ := Hz.int_raw (c.fact 48 (f := .int "MOST_DOORS" 4) rfl)
  obtain ⟨t_MOST_MIDDLES, y_MOST_MIDDLES⟩ := Hz.int_raw (c.fact 49 (f := .int "MOST_MIDDLES" 7) rfl)
  exact all_mk X G hfa (He.eqO_ok (c.fact 0 (f := .glo "Exchange") rfl)) (He.eqO_ok (c.fact 1 (f := .glo "is_plain_int") rfl)) l_is_plain_int c_is_plain_int k_is_plain_int (He.eqO_ok (c.fact 2 (f := .glo "is_int_within") rfl)) l_is_int_within c_is_int_within k_is_int_within (He.eqO_ok (c.fact 3 (f := .glo "is_pair") rfl)) l_is_pair c_is_pair k_is_pair (He.eqO_ok (c.fact 4 (f := .glo "_is_side") rfl)) l_is_side c_is_side k_is_side (He.eqO_ok (c.fact 5 (f := .glo "check_pair") rfl)) l_check_pair c_check_pair k_check_pair (He.eqO_ok (c.fact 6 (f := .glo "busiest") rfl)) l_busiest c_busiest k_busiest (He.eqO_ok (c.fact 7 (f := .glo "_busy_calls") rfl)) l_busy_calls c_busy_calls k_busy_calls (He.eqO_ok (c.fact 8 (f := .glo "strict") rfl)) l_strict c_strict k_strict (He.eqO_ok (c.fact 9 (f := .glo "barring") rfl)) l_barring c_barring k_barring (He.eqO_ok (c.fact 10 (f := .glo "_law_flow") rfl)) l_flow c_flow k_flow (He.eqO_ok (c.fact 11 (f := .glo "_law_pick") rfl)) l_pick c_pick k_pick (He.eqO_ok (c.fact 12 (f := .glo "_law_is_integer") rfl)) l_is_integer c_is_integer k_is_integer (He.eqO_ok (c.fact 13 (f := .glo "_law_doors") rfl)) l_doors c_doors k_doors (He.eqO_ok (c.fact 14 (f := .glo "_law_free") rfl)) l_free c_free k_free (He.eqO_ok (c.fact 15 (f := .glo "_law_calls") rfl)) l_calls c_calls k_calls (He.eqO_ok (c.fact 16 (f := .glo "_law_left") rfl)) l_left c_left k_left (He.eqO_ok (c.fact 17 (f := .glo "_law_middles") rfl)) l_middles c_middles k_middles (He.eqO_ok (c.fact 18 (f := .glo "_law_put") rfl)) l_put c_put k_put (He.eqO_ok (c.fact 19 (f := .glo "_law_longer") rfl)) l_longer c_longer k_longer (He.eqO_ok (c.fact 20 (f := .glo "_law_all") rfl)) l_all c_all k_all (He.eqO_ok (c.fact 21 (f := .glo "_law_some_barred") rfl)) l_some_barred c_some_barred k_some_barred (He.eqO_ok (c.fact 22 (f := .glo "law") rfl)) l_law c_law k_law a_Exchange_init i_Exchange_init l_Exchange_init c_Exchange_init k_Exchange_init a_Exchange_pairs i_Exchange_pairs l_Exchange_pairs c_Exchange_pairs k_Exchange_pairs a_Exchange_turned i_Exchange_turned l_Exchange_turned c_Exchange_turned k_Exchange_turned a_Exchange_with_middles i_Exchange_with_middles l_Exchange_with_middles c_Exchange_with_middles k_Exchange_with_middles (of_decide_eq_true (c.ex 0 rfl)) (of_decide_eq_true (c.ex 1 rfl)) (of_decide_eq_true (c.ex 2 rfl)) (of_decide_eq_true (c.ex 3 rfl)) (of_decide_eq_true (c.ex 4 rfl)) (of_decide_eq_true (c.ex 5 rfl)) (of_decide_eq_true (c.ex 6 rfl)) (of_decide_eq_true (c.ex 7 rfl)) (of_decide_eq_true (c.ex 8 rfl)) (of_decide_eq_true (c.ex 9 rfl)) (of_decide_eq_true (c.ex 10 rfl)) (of_decide_eq_true (c.ex 11 rfl)) (of_decide_eq_true (c.ex 12 rfl)) (of_decide_eq_true (c.ex 13 rfl)) (of_decide_eq_true (c.ex 14 rfl)) (of_decide_eq_true (c.ex 15 rfl)) (of_decide_eq_true (c.ex 16 rfl)) (of_decide_eq_true (c.ex 17 rfl)) (of_decide_eq_true (c.ex 18 rfl)) (of_decide_eq_true (c.ex 19 rfl)) (of_decide_eq_true (c.ex 20 rfl)) (of_decide_eq_true (c.ex 21 rfl)) (of_decide_eq_true (c.ex 22 rfl)) (of_decide_eq_true (c.ex 23 rfl)) (of_decide_eq_true (c.ex 24 rfl)) (of_decide_eq_true (c.ex 25 rfl)) (He.eqO_ok (c.fact 27 (f := .free "len") rfl)) (He.eqO_ok (c.fact 28 (f := .free "abs") rfl)) (He.eqO_ok (c.fact 29 (f := .free "int") rfl)) (He.eqO_ok (c.fact 30 (f := .free "bool") rfl)) (He.eqO_ok (c.fact 31 (f := .free "tuple") rfl)) (He.eqO_ok (c.fact 32 (f := .free "list") rfl)) (He.eqO_ok (c.fact 33 (f := .free "str") rfl)) (He.eqO_ok (c.fact 34 (f := .free "dict") rfl)) (He.eqO_ok (c.fact 35 (f := .free "isinstance") rfl)) (He.eqO_ok (c.fact 36 (f := .free "all") rfl)) (He.eqO_ok (c.fact 37 (f := .free "any") rfl)) (He.eqO_ok (c.fact 38 (f := .free "sum") rfl)) (He.eqO_ok (c.fact 39 (f := .free "range") rfl)) (He.eqO_ok (c.fact 40 (f := .free "set") rfl)) (He.eqO_ok (c.fact 41 (f := .free "sorted") rfl)) (He.eqO_ok (c.fact 42 (f := .free "min") rfl)) (He.eqO_ok (c.fact 43 (f := .free "max") rfl)) (He.eqO_ok (c.fact 44 (f := .free "enumerate") rfl)) (He.eqO_ok (c.fact 45 (f := .free "reversed") rfl)) (He.eqO_ok (c.fact 46 (f := .free "super") rfl)) y_MOST_SWITCHES y_MOST_DOORS y_MOST_MIDDLES
end K12
open PySem PySem.W PySem.Calls PyProof.Rows
set_option maxRecDepth 100000 in
set_option maxHeartbeats 0 in
theorem PySem.Challenge.cw_callsthrough_k12_whole_strict_over_all_s_holds : PySem.Challenge.rw_callsthrough_k12_whole_strict_over_all_s.Holds := by
  w_on; o_law
  refine HandSHeadRun.head_imp (r := OpenLaw.row PySem.Challenge.rw_callsthrough_k12_whole_strict_over_all_s) (q := view (OpenLaw.row PySem.Challenge.rw_callsthrough_k12_whole_strict_over_all_s).prog [38]) (H := K12.hk) (ob := K12.ob) (M := 9000) (loose := K12.looseL) (d := HandSHeadRun.topDef (OpenLaw.row PySem.Challenge.rw_callsthrough_k12_whole_strict_over_all_s).prog 38) (kwd := []) K12.ob_eq
    K12.head_run (by kernel_rfl) (by kernel_rfl) (by kernel_rfl) (by rfl) (by first | assumption | decide +kernel) (by decide +kernel) ⟨rfl, rfl, rfl, rfl, rfl, by decide +kernel⟩ ?hw ?hc
  case hw => w_witness2
  case hc =>
    refine L2.walk_ofE (l := PySem.Challenge.rw_callsthrough_k12_whole_strict_over_all_s) (n := 63) (k := 8) (x := "_law_script") (CX := L2.CX0) rfl (by decide) (by kernel_rfl) ⟨rfl, by decide, by decide⟩ ?F (fun _ _ _ _ z => z)
    intro w mg fa h Y G hmg0
    obtain ⟨K, KX, c⟩ := Y
    have hmg : mg ("law" : PySem.Str) = some (.ref fa) := by
      have e : (HandSHeadRun.topDef (OpenLaw.row PySem.Challenge.rw_callsthrough_k12_whole_strict_over_all_s).prog 38).name = ("law" : PySem.Str) := by kernel_rfl
      rw [← e]
      exact hmg0
    obtain ⟨fd, hb, hF⟩ := K12.facts KX G hmg c
    refine ⟨K, fd, _, KX, hb, ?_, hF⟩
    exact fun H a ns hl _ hS => ⟨a, ns, rfl, hS, hl, fun _ => rfl⟩
