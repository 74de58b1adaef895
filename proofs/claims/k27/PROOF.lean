import PyProof.Rows.All
import Wide.All
import OpenK.AllK
import Wide.FinOn
import HandS.ForMost
import HandS.IsInst
import HandS.Wide
import HandS.More
import HandS.SlotsOwn
import HandS.ClsMeth
import HandS.TupMul
import HandS.TupAny
import HandS.Gcd
import HandS.MakeKw
import HandS.Defaults
import HandS.SetFor
import HandS.Strs
import HandS.SortRule
import HandS.Zip
import HandS.Deep
import HandS.TupLe
import KE.GoesEnum
import KE.GoesMore
import KE.KExcSuper
import KE.KSuper
import HandS.Exc
import HandS.ExcField
import HandS.ExcOwn
import HandS.WordsExc
import HandS.DeepEq
import PyProof.SumWalkG
import PyProof.Rows.SumAny
import PyProof.WalksMore
import HandS.Rev
import HandS.Dict
import HandS.Iter
import KE.KDictKeyed
import KE.KDictWalk
import HandS.Lambda
import HandS.TryMany
import HandS.Star
import PyProof.P3In
import HandS.FStr
import HandS.SortOrd
import HandS.NamedTupSort
import KE.DataFind
import HandS.List
import HandS.Text
import HandS.StrMore
import HandS.SortKw
import KE.KMinKey
import HandS.RevTup
import HandS.DictComp
import KE.KStateDown
import HandS.Head0
import HandS.Head1
import HandS.Head2
import HandS.HeadEnd
import HandS.HeadHook1
import HandS.HeadHook2
import HandS.HeadHook3
import HandS.HeadHook4
import HandS.Head3
import KE.KExcPX
import HandS.HeadWalk
import PySem.Challenge.RW_callsthrough_k27_safe_lists_are_judged
set_option Elab.async false
set_option linter.all false
set_option maxRecDepth 100000
set_option maxHeartbeats 4000000
namespace Com
open PySem PySem.Spec PyProof.Rows L2
/-- the module has the name x of the def st -/
structure DefAt (K : PySem.W.Frag) (mg : Str → Option Value) (x : Str) (st : Stmt) (ps : List Str) : Prop where
  ex : ∃ (f : Addr) (fd : FuncData), Fun K x x st f fd ∧ mg x = some (.ref f) ∧ Binds K fd ps []
/-- the class at C has the method m, the def st -/
structure MethAt (K : PySem.W.Frag) (C : Addr) (m qual : Str) (st : Stmt) (ps : List Str) : Prop where
  ex : ∃ (f : Addr) (fd : FuncData), Fun K m qual st f fd ∧ Meth K C m f ∧ Binds K fd ps []
/-- the promises -/
structure DefOk (P : Program) (w : World) (K : PySem.W.Frag) (mg : Str → Option Value) (base : Heap) (CX : CXT) (k : Nat) (x : Str) (sp : Sp) : Prop where
  ex : ∃ f : Addr, FnR P w K mg base CX k f sp ∧ mg x = some (.ref f) ∧ PySem.W.keepIn K (.ref f) = true
structure MethOk (P : Program) (w : World) (K : PySem.W.Frag) (mg : Str → Option Value) (base : Heap) (CX : CXT) (k : Nat) (C : Addr) (m : Str) (sp : Sp) : Prop where
  ex : ∃ f : Addr, FnR P w K mg base CX k f sp ∧ Meth K C m f
structure NewOk (P : Program) (w : World) (K : PySem.W.Frag) (mg : Str → Option Value) (base : Heap) (CX : CXT) (k : Nat) (x : Str) (C : Addr) (sp : Sp) : Prop where
  ex : ∃ f : Addr, FnR P w K mg base CX k f sp ∧ Mk K C f
  mg : mg x = some (.ref C)
theorem DefAt.of {K : PySem.W.Frag} {mg : Str → Option Value} {h : Heap} {x : Str} {st : Stmt} {ps : List Str} {f : Addr} {oc : Value} {od an : Option Addr} {osl : Array (Option Value)} {kV doc pm cdv ct : Value}
    (X : K.In h) (G : h.Ns mainGlobals mg) (a : PySem.W.nsIn K mainGlobals x = some (some (.ref f)))
    (l : K.lookup f = some ⟨oc, od, .func (PySem.W.fnOf x x (defArgs st) (defBody st) (defScope st) .none kV doc pm an cdv ct), osl⟩) (c : PySem.W.codeIn K cdv x = true) (k : PySem.W.keepIn K (.ref f) = true)
    (b : ∀ (kV doc pm : Value) (an : Option Addr) (cdv ct : Value) (us : List Value), us.length = ps.length → bindArgs (PySem.W.fnOf x x (defArgs st) (defBody st) (defScope st) .none kV doc pm an cdv ct) ⟨us, []⟩ = pure (ps.zip us)) :
    DefAt K mg x st ps := ⟨f, _, fun_mk l c k, PySem.W.mg_of X G a, (fun_mk l c k).binds b⟩
theorem MethAt.of {K : PySem.W.Frag} {C : Addr} {m qual : Str} {st : Stmt} {ps : List Str} {f : Addr} {oc : Value} {od an : Option Addr} {osl : Array (Option Value)} {kV doc pm cdv ct : Value}
    (a : PySem.W.findIn K (.ref C) m = some (some (.ref f))) (i : PySem.W.isFn K (.ref f) = true)
    (l : K.lookup f = some ⟨oc, od, .func (PySem.W.fnOf m qual (defArgs st) (defBody st) (defScope st) .none kV doc pm an cdv ct), osl⟩) (c : PySem.W.codeIn K cdv qual = true) (k : PySem.W.keepIn K (.ref f) = true)
    (b : ∀ (kV doc pm : Value) (an : Option Addr) (cdv ct : Value) (us : List Value), us.length = ps.length → bindArgs (PySem.W.fnOf m qual (defArgs st) (defBody st) (defScope st) .none kV doc pm an cdv ct) ⟨us, []⟩ = pure (ps.zip us)) :
    MethAt K C m qual st ps := ⟨f, _, fun_mk l c k, ⟨a, i, k⟩, (fun_mk l c k).binds b⟩
theorem raw0 {P : Program} {w : World} {K : PySem.W.Frag} {mg : Str → Option Value} {base : Heap} {CX : CXT} {k : Nat} {f : Addr} {fd : FuncData} {ps : List Str} {sp : Sp} (F : FnOk P w K mg base CX k f fd ps sp) (b : Binds K fd ps []) : FnR P w K mg base CX k f sp :=
  (F.raw (ds := []) (dvs := []) b .nil).imp fun vs H Q E h => by rw [List.append_nil]; exact h
section
variable {P : Program} {w : World} {K : PySem.W.Frag} {mg : Str → Option Value} {base : Heap} {x qual : Str} {C : Addr} {st : Stmt} {ps N : List Str} {k : Nat} {sp : Sp}
theorem DefAt.ok (D : DefAt K mg x st ps) (S : FnScope N ps (defScope st)) (len : ∀ vs H Q E, sp vs H Q E → vs.length = ps.length)
    (hbody : ∀ (f : Addr) (cdv : Value) (A : Around) (outer : List Env) (s : Shared) (H : Hp) (vs : List V) (Q : VK) (E : XK), Room k (A.deeper (envOfC x (defScope st) s.heap.objs.size f cdv)) → sp vs H Q E →
      ∃ t, PSs (cxOf CX0 P w K mg base N x (defScope st) f cdv A outer s H E).nox (defBody st) t ∧ t { nx := fun _ H' => Q .non H', rt := Q } (start N vs) H) : DefOk P w K mg base CX0 (k + 1) x sp := by
  obtain ⟨f, fd, F, m, b⟩ := D.ex
  exact ⟨f, raw0 (F.ok S len (fun cdv A outer s H vs Q E hr h => hbody f cdv A outer s H vs Q E hr h)) b, m, F.kp⟩
theorem MethAt.fn (D : MethAt K C x qual st ps) (S : FnScope N ps (defScope st)) (len : ∀ vs H Q E, sp vs H Q E → vs.length = ps.length)
    (hbody : ∀ (f : Addr) (cdv : Value) (A : Around) (outer : List Env) (s : Shared) (H : Hp) (vs : List V) (Q : VK) (E : XK), Room k (A.deeper (envOfC qual (defScope st) s.heap.objs.size f cdv)) → sp vs H Q E →
      ∃ t, PSs (cxOf CX0 P w K mg base N qual (defScope st) f cdv A outer s H E).nox (defBody st) t ∧ t { nx := fun _ H' => Q .non H', rt := Q } (start N vs) H) : MethOk P w K mg base CX0 (k + 1) C x sp := by
  obtain ⟨f, fd, F, m, b⟩ := D.ex
  exact ⟨f, raw0 (F.ok S len (fun cdv A outer s H vs Q E hr h => hbody f cdv A outer s H vs Q E hr h)) b, m⟩
theorem DefOk.mono {CX : CXT} {j : Nat} (D : DefOk P w K mg base CX j x sp) (h : j ≤ k) : DefOk P w K mg base CX k x sp := let ⟨f, F, m, kp⟩ := D.ex; ⟨f, F.mono h, m, kp⟩
theorem MethOk.mono {CX : CXT} {j : Nat} (D : MethOk P w K mg base CX j C x sp) (h : j ≤ k) : MethOk P w K mg base CX k C x sp := let ⟨f, F, m⟩ := D.ex; ⟨f, F.mono h, m⟩
/-- an __init__ makes its class makeable -/
theorem MethOk.new {CX : CXT} (D : MethOk P w K mg base CX k C "__init__" sp) (mk : PySem.W.makesIn K C = true) (kc : PySem.W.keepIn K (.ref C) = true) (hm : mg x = some (.ref C)) : NewOk P w K mg base CX k x C sp :=
  let ⟨f, F, m⟩ := D.ex; ⟨⟨f, F, ⟨mk, m.at_, m.fn, kc⟩⟩, hm⟩
end
def tDef (sp : Sp) (E : XK) (t : TA) : TE := fun σ H Q => t σ H fun vs H1 => sp vs H1 Q E
def tNew (C : Addr) (sp : Sp) (E : XK) (t : TA) : TE := fun σ H Q => t σ H fun vs H1 => ∀ x dx, H1 x = none → H1 dx = none → dx ≠ x →
  sp (.ref x :: vs) (upd (upd H1 dx (.own x)) x (.ins C dx [])) (fun v H2 => v = .non ∧ Q (.ref x) H2) E
def tMth (C : Addr) (m : Str) (sp : Sp) (E : XK) (ta : TE) (t : TA) : TE := fun σ H Q => ta σ H fun x H1 => ∃ a dx fs, x = .ref a ∧ H1 a = some (.ins C dx fs) ∧ fs.lookup m = none ∧ t σ H1 fun vs H2 => sp (x :: vs) H2 Q E
section
variable {X : Cx} {CX : CXT} {k j : Nat} {C f : Addr} {sp : Sp} {E : XK} {x m : Str} {p pos apos : Pos} {o e : Expr} {es : List Expr} {ta : TE} {t : TA} {i : Nat}
theorem runR {pins : List (Addr × Obj)} {σ : L2.St} {H : Hp} {s : Shared} {Q : VK} {us : List Value} {vs : List V} (F : FnR X.prog X.w X.K X.mg X.base CX j f sp) (hr : Room k X.A) (hjk : j ≤ k) (hx : Passes CX X E) (I : Inv X pins σ H s) (r : Vals vs us) (h : sp vs H Q E) :
    wpAny (model X.prog X.w) X.A (call (.ref f) us) (EP X pins σ Q) X.xe s := wpAny_call (run_fnR F (hr.mono hjk) hx I r h)
theorem pe_def (D : DefOk X.prog X.w X.K X.mg X.base CX j x sp) (hr : Room k X.A) (hjk : j ≤ k) (hx : Passes CX X E) (ha : PA X (e :: es) t) (hg : Gl X x := by rfl) (hdb : (x == ("__debug__" : Str)) = false := by decide)
    (he : starEach (e :: es) X.env = (false, eval e X.env) :: starEach es X.env := by rfl) (hpl : (backTo pos (starEach es X.env)).any (·.1) = false := by rfl) :
    PE X (.Call (.Name x p) (e :: es) [] pos) (tDef sp E t) := by
  obtain ⟨f, F, m, kp⟩ := D.ex
  refine ⟨fun pins s σ H Q I h => ?_⟩
  refine wpAny_Call_Name_kw (ld_glob I hg m ?_ hdb)
  refine PySem.W.callWith_K (h₀ := X.base) I.ok.mod.kin kp (thn (ha.run pos pins s σ H _ I h) fun us s1 ⟨vs, H1, I1, r, q⟩ => ⟨I1.kIn, ?_⟩) he hpl
  exact runR F hr hjk hx I1 r q
theorem runNew {pins : List (Addr × Obj)} {σ : L2.St} {H : Hp} {s : Shared} {Q : VK} {us : List Value} {vs : List V} (M : Mk X.K C f) (F : FnR X.prog X.w X.K X.mg X.base CX j f sp) (hr : Room (k + 1) X.A) (hjk : j ≤ k)
    (hx : Passes CX X E) (I : Inv X pins σ H s) (r : Vals vs us)
    (h : ∀ x dx, H x = none → H dx = none → dx ≠ x → sp (.ref x :: vs) (upd (upd H dx (.own x)) x (.ins C dx [])) (fun v H2 => v = .non ∧ Q (.ref x) H2) E) :
    wpAny (model X.prog X.w) X.A (call (.ref C) us) (EP X pins σ Q) X.xe s := by
  have hq := h (s.heap.objs.size + 1) s.heap.objs.size (I.hok.fresh (Nat.le_succ _)) (I.hok.fresh (Nat.le_refl _)) (Nat.ne_of_lt (Nat.lt_succ_self _))
  have I2 := Inv.made (C := C) I
  have r2 : Vals (V.ref (s.heap.objs.size + 1) :: vs) (Value.ref (s.heap.objs.size + 1) :: us) := .cons rfl r
  refine wpAny_call (make_map (f := f) I.kIn M.makes M.init (beq_iff_eq.mp M.fn) (codeAny_mono (F _ X.stack _ _ (Value.ref (s.heap.objs.size + 1) :: us) _ _ E ((hr.make C us []).mono hjk)
    (I2.env0.make C us []) r2 hq) fun r s' hq' => ?_))
  cases r with
  | error e => exact hx pins σ _ _ e s' I2 hq'
  | ok fl =>
    cases fl with
    | ret u =>
      obtain ⟨v, H', I3, rv, ev, q3⟩ := I2.after hq'
      subst ev
      exact ⟨rv, ⟨V.ref (s.heap.objs.size + 1), H', I3, rfl, q3⟩⟩
    | next => exact False.elim hq'
    | brk => exact False.elim hq'
    | cont => exact False.elim hq'
theorem pe_new (M : NewOk X.prog X.w X.K X.mg X.base CX j x C sp) (hr : Room (k + 1) X.A) (hjk : j ≤ k) (hx : Passes CX X E) (ha : PA X (e :: es) t) (hg : Gl X x := by rfl) (hdb : (x == ("__debug__" : Str)) = false := by decide)
    (he : starEach (e :: es) X.env = (false, eval e X.env) :: starEach es X.env := by rfl) (hpl : (backTo pos (starEach es X.env)).any (·.1) = false := by rfl) :
    PE X (.Call (.Name x p) (e :: es) [] pos) (tNew C sp E t) := by
  obtain ⟨f, F, M1⟩ := M.ex
  refine ⟨fun pins s σ H Q I h => ?_⟩
  refine wpAny_Call_Name_kw (ld_glob I hg M.mg ?_ hdb)
  refine PySem.W.callWith_K (h₀ := X.base) I.ok.mod.kin M1.kp (thn (ha.run pos pins s σ H _ I h) fun us s1 ⟨vs, H1, I1, r, q⟩ => ⟨I1.kIn, ?_⟩) he hpl
  exact runNew M1 F hr hjk hx I1 r q
theorem pe_mth {pl : Sem Bool} (he : PE X o ta) (c : Cls X.K C) (M : MethOk X.prog X.w X.K X.mg X.base CX j C m sp) (hr : Room k X.A) (hjk : j ≤ k) (hx : Passes CX X E) (ha : PA X (e :: es) t)
    (hst : starEach (e :: es) X.env = (false, eval e X.env) :: starEach es X.env := by rfl) (hpl : (backTo pos (starEach es X.env)).any (·.1) = false := by rfl)
    (ht : eval (.Call (.Attribute o m apos) (e :: es) [] pos) X.env = (do
      let ov ← eval o X.env
      standAt apos.atName
      let (f, first) ← holding [ov] (getMethod ov m pl)
      callWith pos f first (backTo pos (starEach (e :: es) X.env)) (backToKw pos (keywordEach [] X.env))) := by rfl) :
    PE X (.Call (.Attribute o m apos) (e :: es) [] pos) (tMth C m sp E ta t) := by
  obtain ⟨g, F, hm⟩ := M.ex
  refine ⟨fun pins s σ H Q I h => ?_⟩
  refine PySem.W.methodCall_KW (pl := pl) (thn (he.run pins s σ H _ I h) fun u s1 ⟨x, H1, I1, rx, a, dx, fs, ex, ea, l, q⟩ => ?_) ht
  subst ex
  obtain rfl : u = Value.ref a := rx
  refine getmeth_ok I1 ea c hm l ?_
  refine PySem.W.callWith_K (first := [.ref a]) (h₀ := X.base) I.ok.mod.kin hm.kp (thn (ha.run pos pins s1 σ H1 _ I1 q) fun us s2 ⟨vs, H2, I2, r, q2⟩ => ⟨I2.kIn, ?_⟩) hst hpl
  exact runR (us := .ref a :: us) (vs := .ref a :: vs) F hr hjk hx I2 (.cons rfl r) q2
theorem pe_mth0 {pl : Sem Bool} (he : PE X o ta) (c : Cls X.K C) (M : MethOk X.prog X.w X.K X.mg X.base CX j C m sp) (hr : Room k X.A) (hjk : j ≤ k) (hx : Passes CX X E)
    (ht : eval (.Call (.Attribute o m apos) [] [] pos) X.env = (do
      let ov ← eval o X.env
      standAt apos.atName
      let (f, first) ← holding [ov] (getMethod ov m pl)
      callWith pos f first (backTo pos (starEach [] X.env)) (backToKw pos (keywordEach [] X.env))) := by rfl) :
    PE X (.Call (.Attribute o m apos) [] [] pos) (tMth C m sp E ta tNil) := by
  obtain ⟨g, F, hm⟩ := M.ex
  refine ⟨fun pins s σ H Q I h => ?_⟩
  refine PySem.W.methodCall_KW (pl := pl) (thn (he.run pins s σ H _ I h) fun u s1 ⟨x, H1, I1, rx, a, dx, fs, ex, ea, l, q⟩ => ?_) ht
  subst ex
  obtain rfl : u = Value.ref a := rx
  refine getmeth_ok I1 ea c hm l ?_
  exact PySem.W.callWith_K0 (first := [.ref a]) I1.kIn hm.kp (runR (us := [.ref a]) (vs := [.ref a]) F hr hjk hx I1 (.cons rfl .nil) q)
end
theorem get_list {X : Cx} : PGet X (rIxL X.K) := by
  intro pins s σ H o i ov iv Q I ro ri h
  obtain ⟨p, xs, i, z, rfl, rfl, hq, he, q⟩ := h
  cases ro
  obtain ⟨t, rfl⟩ := ri
  obtain ⟨its, r, pl, hz⟩ := I.list hq
  obtain ⟨j, h1, h2, h3, h4, h5⟩ := atI_get he
  obtain ⟨w, ew, rw'⟩ := r.get h2
  have hl := r.length
  have hn := line63
  have fin : EP X pins σ Q w s := ⟨z, H, I, rw', q⟩
  by_cases h0 : 0 ≤ i
  · have hj : i.toNat = j := by
      rw [seqIndex_of h0 h5] at h1
      exact Option.some.inj h1
    exact wpAny_getItem_list pl.isList h0 (by omega) (by rw [hj]; simpa using ew) fin
  · have hj : (i + (its.toArray.size : Int)).toNat = j := by
      rw [seqIndex_neg (by omega) h4] at h1
      rw [List.size_toArray, ← hl]
      exact Option.some.inj h1
    exact wpAny_getItem_list_neg pl.isList (by omega) (by rw [List.size_toArray] <;> omega) (by omega) (by rw [hj]; simpa using ew) fin
theorem TyOf.same {K : PySem.W.Frag} {H H' : Hp} (s : Same H H') {x : V} {t : Value} (h : TyOf K H x t) : TyOf K H' x t := by
  cases h with
  | non => exact .non
  | bl x => exact .bl x
  | int i => exact .int i
  | str x => exact .str x
  | flt x => exact .flt x
  | lst e => exact .lst (s _ _ e)
  | frz e => exact .frz (s _ _ e)
  | tup e => exact .tup (s _ _ e)
  | dK e => exact .dK (s _ _ e)
  | dT e => exact .dT (s _ _ e)
  | ins e cl ha hn htk hm => exact .ins (s _ _ e) cl ha hn htk hm
theorem TyX.same {K : PySem.W.Frag} {H H' : Hp} (s : Same H H') {x : V} {t : Value} (h : TyX K H x t) : TyX K H' x t := by
  cases h with
  | base h => exact .base (TyOf.same s h)
  | byt b => exact .byt b
  | set e => exact .set (s _ _ e)
  | kList e c => exact .kList e c
  | kTuple e c => exact .kTuple e c
  | kDict e c => exact .kDict e c
  | fTuple e => exact .fTuple (s _ _ e)
  | fDict e => exact .fDict (s _ _ e)
end Com
namespace Com
open PySem PySem.Spec PyProof.Rows L2
def tI (ds : List Int) : PyData := .tuple (ds.map .int)
theorem eqvAll_ints : ∀ ds es : List Int, PyData.eqvAll (ds.map .int) (es.map .int) = decide (ds = es)
  | [], [] => rfl
  | [], e :: es => by simp [PyData.eqvAll]
  | d :: ds, [] => by simp [PyData.eqvAll]
  | d :: ds, e :: es => by
    rw [List.map_cons, List.map_cons, PyData.eqvAll, eqvAll_ints ds es, PyData.eqv]
    by_cases h : d = e
    · subst h
      by_cases h2 : ds = es
      · subst h2; simp
      · simp [h2]
    · simp [h]
theorem lay_ints : ∀ ds : List Int, PyData.canLayAll0 (ds.map .int) = true
  | [] => rfl
  | d :: ds => by rw [List.map_cons, PyData.canLayAll0, PyData.canLay0, lay_ints ds]; rfl
theorem depth_ints : ∀ ds : List Int, PyData.depthAll (ds.map .int) = 0
  | [] => rfl
  | d :: ds => by rw [List.map_cons, PyData.depthAll, PyData.depth, depth_ints ds]; rfl
theorem dpAll_ints {K : PySem.W.Frag} {H : Hp} : ∀ ds : List Int, DpAll K H (ds.map V.int) (ds.map .int)
  | [] => .nil
  | d :: ds => .cons (.int d) (dpAll_ints ds)
theorem dp_tI {K : PySem.W.Frag} {H : Hp} {a : Addr} {ds : List Int} (h : H a = some (.tup (ds.map V.int))) : Dp K H (.ref a) (tI ds) := .tup (SqT.of h) (dpAll_ints ds)
def pD (p : Int × Int) : PyData := tI [p.1, p.2]
/-- at a list's places tuples of two ints: the pairs ps -/
def PairsV (H : Hp) : List V → List (Int × Int) → Prop := Paired fun v p => ∃ a, v = .ref a ∧ H a = some (.tup [.int p.1, .int p.2])
theorem PairsV.dp {K : PySem.W.Frag} {H : Hp} : ∀ {vs : List V} {ps : List (Int × Int)}, PairsV H vs ps → DpAll K H vs (ps.map pD)
  | _, _, .nil => .nil
  | _, _, .cons ⟨a, e, h⟩ t => by
    subst e
    exact .cons (dp_tI (ds := [_, _]) h) (PairsV.dp t)
theorem PairsV.same {H H' : Hp} (s : Same H H') : ∀ {vs : List V} {ps : List (Int × Int)}, PairsV H vs ps → PairsV H' vs ps
  | _, _, .nil => .nil
  | _, _, .cons ⟨a, e, h⟩ t => .cons ⟨a, e, s _ _ h⟩ (PairsV.same s t)
theorem PairsV.mono {H H' : Hp} (s : ∀ b xs, H b = some (.tup xs) → H' b = some (.tup xs)) : ∀ {vs : List V} {ps : List (Int × Int)}, PairsV H vs ps → PairsV H' vs ps
  | _, _, .nil => .nil
  | _, _, .cons ⟨a, e, h⟩ t => .cons ⟨a, e, s _ _ h⟩ (PairsV.mono s t)
theorem putF_nil {f : Str} {v : V} : putF f v [] = [(f, v)] := rfl
theorem putF_ne {f g : Str} {v w : V} {fs : List (Str × V)} (h : ¬ g = f) : putF f v ((g, w) :: fs) = (g, w) :: putF f v fs := by
  show (if g = f then _ else _) = _
  rw [if_neg h]
theorem ifB {b : Bool} {A B : Prop} (h1 : b = true → A) (h2 : b = false → B) : if b = true then A else B := by
  cases b with
  | true => exact iteT (h1 rfl)
  | false => exact iteF (h2 rfl)
theorem mulm {x m y : Int} (h0 : 0 < m) (h : m < 2 ^ 64) : CMul (x % m) y :=
  .inl ⟨by have := Int.emod_nonneg x (show m ≠ 0 by omega); omega, by have := Int.emod_lt_of_pos x h0; omega⟩
theorem len1 {n : Nat} (h : n ≤ 1000) : n ≤ sizeLine := Nat.le_of_lt (small1000 h)
theorem divW {n size : Int} (h1 : 1 ≤ size) (h2 : size < 2 ^ 200) : CDivW n size := wide_div (b := 200) (by omega) (by
  have : ((2 : Int) ^ 200) = (((2 : Nat) ^ 200 : Nat) : Int) := by decide
  omega) (by decide) (by decide)
/-- all that stood but what stood at a stands; nothing new but .. -/
def But (a : Addr) (H H' : Hp) : Prop := ∀ b, b ≠ a → H' b = H b
theorem But.upd {H : Hp} {p : Addr} {o : HO} : But p H (upd H p o) := fun b hb => upd_ne hb
theorem But.same {H H' : Hp} {p : Addr} (h : But p H H') (n : H p = none) : Same H H' := fun b o e => by rw [h b (ne_of_none e n)]; exact e
theorem Same.upd {H : Hp} {p : Addr} {o : HO} (n : H p = none) : Same H (upd H p o) := fun b u e => by rw [upd_ne (ne_of_none e n)]; exact e
/-- at a the three numbers of a flow of draws -/
def FlowAt (H : Hp) (a : Addr) : Prop := ∃ n c r : Int, H a = some (.lst [.int n, .int c, .int r])
theorem FlowAt.new {H : Hp} {p : Addr} {n c r : Int} : FlowAt (upd H p (.lst [.int n, .int c, .int r])) p := ⟨n, c, r, upd_same⟩
end Com
namespace Com
open PySem PySem.Spec PyProof.Rows L2
theorem lp_range {lo : Int} {n : Nat} {H0 : Hp} {Qd : Hp → Prop} {B : V → Hp → (Hp → Prop) → Prop} (Pv : Nat → Hp → Prop) (h0 : Pv 0 H0) (hs : ∀ i H, i < n → Pv i H → B (.int (lo + i)) H (Pv (i + 1))) (hd : ∀ H, Pv n H → Qd H) :
    ∃ W : Nat → Nat → Hp → Prop, (∃ m, W 0 m H0) ∧ ∀ i m H, W i m H → ((Itr lo n).stop i H ∧ Qd H) ∨ ((Itr lo n).go i H ∧ ∃ Nx : Hp → Prop, (∀ H', Nx H' → ∃ m', m' < m ∧ W (i + 1) m' H') ∧ ∀ x H', (Itr lo n).yld i H x H' → B x H' Nx) := by
  refine ⟨fun i m H => m = n - i ∧ i ≤ n ∧ Pv i H, ⟨n, by simp, Nat.zero_le _, h0⟩, ?_⟩
  rintro i m H ⟨rfl, hi, p⟩
  by_cases hlt : i < n
  · refine .inr ⟨hlt, Pv (i + 1), fun H' p' => ⟨n - (i + 1), by omega, rfl, hlt, p'⟩, fun x H' y => ?_⟩
    obtain ⟨e, y⟩ := y
    subst e y
    exact hs i _ hlt p
  · have e : i = n := by omega
    subst e
    exact .inl ⟨Nat.le_refl _, hd H p⟩
theorem lp_tup {K : PySem.W.Frag} {a : Addr} {xs : List V} {H0 : Hp} {Qd : Hp → Prop} {B : V → Hp → (Hp → Prop) → Prop} (Pv : Nat → Hp → Prop) (h0 : Pv 0 H0) (hl : ∀ i H, i ≤ xs.length → Pv i H → SqT K H a xs) (hs : ∀ i x H, xs[i]? = some x → Pv i H → B x H (Pv (i + 1))) (hd : ∀ H, Pv xs.length H → Qd H) :
    ∃ W : Nat → Nat → Hp → Prop, (∃ m, W 0 m H0) ∧ ∀ i m H, W i m H → ((Itt K a).stop i H ∧ Qd H) ∨ ((Itt K a).go i H ∧ ∃ Nx : Hp → Prop, (∀ H', Nx H' → ∃ m', m' < m ∧ W (i + 1) m' H') ∧ ∀ x H', (Itt K a).yld i H x H' → B x H' Nx) := by
  refine ⟨fun i m H => m = xs.length - i ∧ i ≤ xs.length ∧ Pv i H, ⟨xs.length, by simp, Nat.zero_le _, h0⟩, ?_⟩
  rintro i m H ⟨rfl, hi, p⟩
  have q := hl i H hi p
  by_cases hlt : i < xs.length
  · refine .inr ⟨⟨xs, xs[i], q, by simp [hlt]⟩, Pv (i + 1), fun H' p' => ⟨xs.length - (i + 1), by omega, rfl, hlt, p'⟩, fun x H' y => ?_⟩
    obtain ⟨e, y⟩ := y
    subst e
    exact hs i x _ (y xs q) p
  · have e : i = xs.length := by omega
    subst e
    exact .inl ⟨⟨xs, q, Nat.le_refl _⟩, hd H p⟩
theorem lp_list {K : PySem.W.Frag} {a : Addr} {xs : List V} {H0 : Hp} {Qd : Hp → Prop} {B : V → Hp → (Hp → Prop) → Prop} (Pv : Nat → Hp → Prop) (h0 : Pv 0 H0) (hl : ∀ i H, i ≤ xs.length → Pv i H → SqL K H a xs) (hs : ∀ i x H, xs[i]? = some x → Pv i H → B x H (Pv (i + 1))) (hd : ∀ H, Pv xs.length H → Qd H) :
    ∃ W : Nat → Nat → Hp → Prop, (∃ m, W 0 m H0) ∧ ∀ i m H, W i m H → ((Itl K a).stop i H ∧ Qd H) ∨ ((Itl K a).go i H ∧ ∃ Nx : Hp → Prop, (∀ H', Nx H' → ∃ m', m' < m ∧ W (i + 1) m' H') ∧ ∀ x H', (Itl K a).yld i H x H' → B x H' Nx) := by
  refine ⟨fun i m H => m = xs.length - i ∧ i ≤ xs.length ∧ Pv i H, ⟨xs.length, by simp, Nat.zero_le _, h0⟩, ?_⟩
  rintro i m H ⟨rfl, hi, p⟩
  have q := hl i H hi p
  by_cases hlt : i < xs.length
  · refine .inr ⟨⟨xs, xs[i], q, by simp [hlt]⟩, Pv (i + 1), fun H' p' => ⟨xs.length - (i + 1), by omega, rfl, hlt, p'⟩, fun x H' y => ?_⟩
    obtain ⟨e, y⟩ := y
    subst e
    exact hs i x _ (y xs q) p
  · have e : i = xs.length := by omega
    subst e
    exact .inl ⟨⟨xs, q, Nat.le_refl _⟩, hd H p⟩
/-- isinstance(x, int) and not isinstance(x, bool): its answer -/
def PlainI (K : PySem.W.Frag) (H : Hp) (x : V) (b : Bool) : Prop := ∃ t b1, TyX K H x t ∧ PySem.W.kitOne K t (.type "int") = some b1 ∧ (b1 = false → b = false) ∧ (b1 = true → ∃ b2, PySem.W.kitOne K t (.type "bool") = some b2 ∧ b = !b2)
theorem PlainI.int {K : PySem.W.Frag} {H : Hp} (i : Int) : PlainI K H (.int i) true := ⟨.type "int", true, .base (.int i), kit_ty (by decide +kernel), (fun h => nomatch h), fun _ => ⟨false, kit_ty (by decide +kernel), rfl⟩⟩
theorem PlainI.same {K : PySem.W.Frag} {H H' : Hp} (s : Same H H') {x : V} {b : Bool} (h : PlainI K H x b) : PlainI K H' x b := let ⟨t, b1, ty, r⟩ := h; ⟨t, b1, TyX.same s ty, r⟩
/-- is x an integer from lo to hi: the answer -/
def InR (K : PySem.W.Frag) (H : Hp) (x : V) (lo hi : Int) (b : Bool) : Prop := (∃ i, x = .int i ∧ b = (decide (lo ≤ i) && decide (i ≤ hi))) ∨ (PlainI K H x false ∧ b = false)
theorem InR.same {K : PySem.W.Frag} {H H' : Hp} (s : Same H H') {x : V} {lo hi : Int} {b : Bool} (h : InR K H x lo hi b) : InR K H' x lo hi b := h.elim .inl fun ⟨p, e⟩ => .inr ⟨p.same s, e⟩
theorem InR.good {K : PySem.W.Frag} {H : Hp} {i lo hi : Int} (h1 : lo ≤ i) (h2 : i ≤ hi) : InR K H (.int i) lo hi true := .inl ⟨i, rfl, by rw [decide_eq_true h1, decide_eq_true h2]; rfl⟩
end Com
namespace Com
open PySem PySem.Spec PyProof.Rows L2
theorem pe_gint {X : Cx} {x : Str} {i : Int} {t : Tok} {pos : Pos} (hg : Gl X x) (hm : X.mg x = some (.int i t)) (hd : (x == ("__debug__" : Str)) = false := by decide) : PE X (.Name x pos) (tC (.int i)) := pe_glob (v := .int i) hg hm ⟨t, rfl⟩ hd
end Com
namespace Com
open PySem PySem.Spec PyProof.Rows L2
theorem pe_gcls {X : Cx} {x : Str} {C : Addr} {pos : Pos} (hg : Gl X x) (hm : X.mg x = some (.ref C)) (hd : (x == ("__debug__" : Str)) = false := by decide) : PE X (.Name x pos) (tC (.ref C)) := pe_glob (v := .ref C) hg hm rfl hd
end Com
namespace Com
open PySem PySem.Spec PyProof.Rows L2
/-- all pairs, ascending -/
def rowL (i m : Nat) : List (Int × Int) := (List.range m).map fun (j : Nat) => ((i : Int), (j : Int))
def pairsL (n m : Nat) : List (Int × Int) := (List.range n).flatMap fun i => rowL i m
theorem pairsL_succ (n m : Nat) : pairsL (n + 1) m = pairsL n m ++ rowL n m := by
  unfold pairsL
  rw [List.range_succ, List.flatMap_append]
  simp
theorem rowL_len (i m : Nat) : (rowL i m).length = m := by simp [rowL]
theorem pairsL_len (n m : Nat) : (pairsL n m).length = n * m := by
  induction n with
  | zero => simp [pairsL]
  | succ n ih => rw [pairsL_succ, List.length_append, ih, rowL_len, Nat.succ_mul]
end Com
namespace Com
open PySem PySem.Spec PyProof.Rows L2
def rLen (K : PySem.W.Frag) : List V → Hp → VK → Prop := fun xs H Q => ∃ p ys, xs = [.ref p] ∧ (SqL K H p ys ∨ SqT K H p ys) ∧ Q (.int (ys.length : Nat)) H
def rListOf (K : PySem.W.Frag) : List V → Hp → VK → Prop := fun xs H Q => ∃ p ys, xs = [.ref p] ∧ (SqL K H p ys ∨ SqT K H p ys) ∧ ∀ l, H l = none → Q (.ref l) (upd H l (.lst ys))
def rTupleOf (K : PySem.W.Frag) : List V → Hp → VK → Prop := fun xs H Q => ∃ p ys, xs = [.ref p] ∧ ((SqL K H p ys ∧ ∀ l, H l = none → Q (.ref l) (upd H l (.tup ys))) ∨ (SqT K H p ys ∧ Q (.ref p) H))
section
variable {X : Cx} {K : PySem.W.Frag} {e o value : Expr} {f : Str} {pos pos' : Pos} {ta tv tl : TE} {tg : Expr}
theorem pe_fldK (K : PySem.W.Frag) (he : PE X e ta) (hb : attributeBase e f X.env (eval e X.env) = eval e X.env := by rfl) (hK : X.K = K := by rfl) : PE X (.Attribute e f pos) (tFld K ta f) := by subst hK; exact pe_fld he hb
theorem ps_fldK (K : PySem.W.Frag) (ha : PE X o ta) (hv : PE X value tv) (hs : swapsWith value (some (.Attribute o f pos')) pos.line X.env = pure false := by rfl) (hK : X.K = K := by rfl) : PS X (.Assign [.Attribute o f pos'] value pos) (sFld K ta tv f) := by subst hK; exact ps_fld ha hv hs
theorem cl_len (K : PySem.W.Frag) (hK : X.K = K := by rfl) : CallR X (.builtin "len") (rLen K) := by subst hK; exact call_len_seq
theorem cl_isi (K : PySem.W.Frag) (hK : X.K = K := by rfl) : CallR X (.builtin "isinstance") (rIsi K) := by subst hK; exact call_isi
theorem cl_list (K : PySem.W.Frag) (hK : X.K = K := by rfl) : CallR X (.type "list") (rListOf K) := by subst hK; exact call_list_of
theorem cl_tuple (K : PySem.W.Frag) (hK : X.K = K := by rfl) : CallR X (.type "tuple") (rTupleOf K) := by subst hK; exact call_tuple_of
theorem cl_all (K : PySem.W.Frag) (hc : X.calm = true := by rfl) (hK : X.K = K := by rfl) : CallR X (.builtin "all") (rAll K) := by subst hK; exact cr_all hc
theorem ixL (K : PySem.W.Frag) (hK : X.K = K := by rfl) : IxR X (rIxL K) := by subst hK; exact ix_list
theorem ixT (K : PySem.W.Frag) (hK : X.K = K := by rfl) : IxR X (rIxT K) := by subst hK; exact ix_tup
theorem getL (K : PySem.W.Frag) (hK : X.K = K := by rfl) : PGet X (rIxL K) := by subst hK; exact get_list
theorem eqD (K : PySem.W.Frag) (hu : X.A.units + 64 < cLine) (hK : X.K = K := by rfl) : OpR X (compareOp .Eq) (rEqD K) := by subst hK; exact op_eqD hu
theorem neD (K : PySem.W.Frag) (hu : X.A.units + 64 < cLine) (hK : X.K = K := by rfl) : OpR X (compareOp .NotEq) (rNeD K) := by subst hK; exact op_neD hu
theorem inS (K : PySem.W.Frag) (hK : X.K = K := by rfl) : OpR X (compareOp .In) (rIn K false) := by subst hK; exact op_in_seq
theorem piL (K : PySem.W.Frag) {l : Expr} (hl : PE X l tl) (hK : X.K = K := by rfl) : PI X tg l (iList K tl) := by subst hK; exact pi_list hl
theorem piT (K : PySem.W.Frag) {l : Expr} (hl : PE X l tl) (hK : X.K = K := by rfl) : PI X tg l (iTup K tl) := by subst hK; exact pi_tup hl
theorem slL (K : PySem.W.Frag) (hK : X.K = K := by rfl) : SlR X (rSlL K) := by subst hK; exact sl_list
end
end Com
namespace Com
open PySem PySem.Spec PyProof.Rows L2
theorem tuple_mul1 (l : Addr) (items : Array Value) (n : Nat) (dd : Option Addr) (sl : Array (Option Value)) (u : Tok) :
    Meets (Builtin.«tuple.__mul__» ⟨[.ref l, .int 1 u], []⟩) (fun _ R s => s.heap.get? l = some { cls := .type "tuple", dict := dd, data := .seq items n, slots := sl } ∧ R (.ok (.ret (.ref l))) s) :=
  .of_wp fun prog w A R s h => by
    obtain ⟨hp, g, d, tk, os⟩ := s
    obtain ⟨hl, h⟩ := h
    have f1 := AutoSeq1.idx_int
    have c1 : (items.isEmpty || (1 : Int) == 1) = true := by simp
    wp_walk using wpAny_loadPart' hl
    repeat (first
      | (refine wpAny_ite_true (decide_eq_true c1) ?_; wp_walk using wpAny_loadPart' hl)
      | (refine wpAny_ite_false (decide_eq_false (by decide)) ?_; wp_walk using wpAny_loadPart' hl))
    exact ⟨_, rfl, h⟩
def rRep1 (K : PySem.W.Frag) : R2 := fun x y H Q => ∃ l xs, x = .ref l ∧ y = .int 1 ∧ SqT K H l xs ∧ Q (.ref l) H
theorem op_rep1 {X : Cx} : OpR X (binaryOp .Mult) (rRep1 X.K) := by
  intro pins s σ H x y v u Q I rx ry h
  obtain ⟨l, xs, rfl, rfl, hT, q⟩ := h
  cases rx
  obtain ⟨t, rfl⟩ := ry
  obtain ⟨its, r, ⟨⟨cls, dd, data, sl⟩, ho, hc, n, hd⟩, hs⟩ := I.tuple hT
  simp only at hc hd
  subst hc hd
  refine wpAny_binaryOp_repeat_ref (T := "tuple") (U := "int") (by decide) ⟨_, ho, rfl⟩ (fun s' => typeIs_int s' 1 t) noFill_tuple_mul F.fills_int_mul F.slot_int_rmul repeat_tuple F.slot_int_index.lookup
    (call_meets F.slot_int_rmul (typeIs_int s 1 t) F.entry_int_rmul (F.args_int_rmul_2 _ _) (int_rmul_tuple 1 t l its.toArray n dd sl)
      ⟨ho, rfl, ⟨_, ho, rfl⟩, call_meets F.slot_tuple_mul ⟨_, ho, rfl⟩ F.entry_tuple_mul (F.args_tuple_mul_2 _ _) (tuple_mul1 l its.toArray n dd sl t) ⟨ho, ?_⟩⟩)
  exact ⟨.ref l, H, I, rfl, q⟩
/-- the repeated tuple stands at p -/
def rRepA (K : PySem.W.Frag) : R2 := fun x y H Q => ∃ l k xs, x = .ref l ∧ y = .int k ∧ H l = some (.tup xs) ∧ xs ≠ [] ∧ 1 ≤ k ∧ k ≤ 1000 ∧ xs.length ≤ 1000 ∧ ∀ p H', (H' p = some (.tup (List.replicate k.toNat xs).flatten)) → Same H H' → Q (.ref p) H'
theorem repA {X : Cx} (K : PySem.W.Frag) (hK : X.K = K := by rfl) : OpR X (binaryOp .Mult) (rRepA K) := by
  subst hK
  intro pins s σ H x y v u Q I rx ry h
  obtain ⟨l, k, xs, e1, e2, hT, hne, h1, h2, hz, q⟩ := h
  by_cases hk : k = 1
  · subst hk
    exact op_rep1 pins s σ H x y v u Q I rx ry ⟨l, xs, e1, e2, SqT.of hT, q l H (by rw [hT]; simp) (Same.refl H)⟩
  · exact op_repT pins s σ H x y v u Q I rx ry ⟨l, k, xs, e1, e2, SqT.of hT, hne, by omega, h2, hz, fun p hp => q p _ upd_same (Com.Same.upd hp)⟩
end Com
namespace Com
open PySem PySem.Spec PyProof.Rows L2
def rCutT : V → Option Int → Option Int → Hp → VK → Prop := fun x lo hi H Q => ∃ a xs, x = .ref a ∧ H a = some (.tup xs) ∧ ∀ p H', H' p = some (.tup (cutV xs lo hi)) → Same H H' → Q (.ref p) H'
theorem slT {X : Cx} : SlR X rCutT := by
  intro x v vl vu lo hi sl Q I rx hs pl pu h
  revert x v vl vu lo hi sl Q I rx hs pl pu h
  intro pins s σ H x v vl vu lo hi sl Q I rx hs pl pu h
  obtain ⟨a, xs, rfl, hx, q⟩ := h
  refine sl_tupA pins s σ H (.ref a) v vl vu lo hi sl Q I rx hs pl pu ⟨a, xs, rfl, SqT.of hx, fun w => q a H ?_ (Same.refl H), fun _ p hp => q p _ upd_same (Com.Same.upd hp)⟩
  have e : cutV xs lo hi = xs := by
    unfold cutV
    rw [w.1, w.2, List.drop_zero, Nat.sub_zero, List.take_length]
  rw [e]
  exact hx
def rCatB : R2 := fun x y H Q => ∃ a b xs ys, x = .ref a ∧ y = .ref b ∧ H a = some (.tup xs) ∧ H b = some (.tup ys) ∧ xs.length + ys.length ≤ 1000 ∧ ∀ p H', H' p = some (.tup (xs ++ ys)) → Same H H' → Q (.ref p) H'
theorem catB {X : Cx} : OpR X (binaryOp .Add) rCatB := by
  intro pins s σ H x y v u Q I rx ry h
  obtain ⟨a, b, xs, ys, e1, e2, ha, hb, hz, q⟩ := h
  refine op_catA pins s σ H x y v u Q I rx ry ⟨a, b, xs, ys, e1, e2, SqT.of ha, SqT.of hb, len1 hz, fun e => q b H ?_ (Same.refl H), fun _ e => q a H ?_ (Same.refl H), fun _ _ p hp => q p _ upd_same (Com.Same.upd hp)⟩
  · rw [e, List.nil_append]; exact hb
  · rw [e, List.append_nil]; exact ha
end Com
namespace Com
open PySem PySem.Spec PyProof.Rows L2
theorem kit_self {K : PySem.W.Frag} {t : Value} : PySem.W.kitOne K t t = some true := by
  unfold PySem.W.kitOne
  rw [if_pos (by simp)]
theorem kit_own {K : PySem.W.Frag} {t : Value} {C : Addr} {b : Bool} (ic : PySem.W.isClsIn K C = true) (ty : PySem.W.typeIn K (.ref C) = some (.type "type")) (s : PySem.W.subIn K t (.ref C) = some b) (ne : (t == Value.ref C) = false) : PySem.W.kitOne K t (.ref C) = some b := by
  unfold PySem.W.kitOne
  rw [ne, if_neg Bool.false_ne_true]
  show (if ((PySem.W.clsIn K C).isSome && PySem.W.typeIn K (.ref C) == some (.type "type")) = true then PySem.W.subIn K t (.ref C) else none) = some b
  have h1 : (PySem.W.clsIn K C).isSome = true := ic
  rw [h1, ty, if_pos (by rfl)]
  exact s
theorem kit_type {K : PySem.W.Frag} {t : Value} {n : String} {b : Bool} (hm : PySem.W.kitMeta n = true) (s : PySem.W.subIn K t (.type n) = some b) (ne : (t == Value.type n) = false) : PySem.W.kitOne K t (.type n) = some b := by
  unfold PySem.W.kitOne
  rw [ne, if_neg Bool.false_ne_true]
  show (if PySem.W.kitMeta n = true then PySem.W.subIn K t (.type n) else none) = some b
  rw [if_pos hm]
  exact s
end Com
set_option Elab.async false
set_option linter.all false
set_option maxRecDepth 100000
set_option maxHeartbeats 4000000
namespace Num
def gc (t b : Int) : Int := ((Nat.gcd t.natAbs b.natAbs : Nat) : Int)
def cm (t b : Int) : Int := if b < 0 then -gc t b else gc t b
def nt (t b : Int) : Int := t.fdiv (cm t b)
def nb (t b : Int) : Int := b.fdiv (cm t b)
theorem gc_pos {t b : Int} (h : b ≠ 0) : 0 < gc t b := by
  have : 0 < Nat.gcd t.natAbs b.natAbs := Nat.gcd_pos_of_pos_right _ (by omega)
  unfold gc
  omega
theorem cm_ne {t b : Int} (h : b ≠ 0) : cm t b ≠ 0 := by
  have := gc_pos (t := t) h
  unfold cm
  split <;> omega
theorem cm_abs (t b : Int) : (cm t b).natAbs = Nat.gcd t.natAbs b.natAbs := by
  unfold cm gc
  split
  · rw [Int.natAbs_neg, Int.natAbs_natCast]
  · rw [Int.natAbs_natCast]
theorem cm_le (t b : Int) (h : b ≠ 0) : (cm t b).natAbs ≤ b.natAbs := by
  rw [cm_abs]
  exact Nat.gcd_le_right _ (by omega)
end Num
set_option Elab.async false
set_option linter.all false
set_option maxRecDepth 100000
set_option maxHeartbeats 4000000
namespace Com
open PySem PySem.Spec PyProof.Rows L2 PySem.W
end Com
namespace Com
open PySem PySem.Spec PyProof.Rows L2 PySem.W
end Com
namespace Com
open PySem PySem.Spec PyProof.Rows L2
end Com
namespace Com
open PySem PySem.Spec PyProof.Rows L2
/-- // by any divisor but 0 below 2 ^ 9000 -/
def CDivX (_ j : Int) : Prop := j ≠ 0 ∧ j.natAbs < 2 ^ 9000
theorem fdivX {X : Cx} : OpR X (binaryOp .FloorDiv) (rI CDivX fun i j => .int (i.fdiv j)) := opI fun i j _ _ _ _ _ hc q =>
  floordiv_int hc.1 q (.inl (PyProof.noPylong_of_log2 (PySem.Flt.log2_lt_of (by decide) hc.2)))
theorem pgT {X : Cx} (K : PySem.W.Frag) {es : List Expr} {k : Nat} {t : TGs} {n : Nat} {pos : Pos} (h : PGs X es t) (hc : X.calm = true := by rfl)
    (hn : (assignEach es X.env).length = n := by rfl) (hst : (assignEach es X.env).findIdx? (·.1) = none := by rfl) (hK : X.K = K := by rfl) : PG X (.Tuple es k pos) (gTup K n t) := by subst hK; exact pg_tup hc h hn hst
theorem pe_gbfn {X : Cx} {x : Str} {p pos : Pos} {e : Expr} {es : List Expr} {t : TA} {id : String} {r : List V → Hp → VK → Prop} (hc : CallR X (.builtin id) r) (hm : X.mg x = some (.builtin id)) (ha : PA X (e :: es) t) (hg : Gl X x := by rfl) (hdb : (x == ("__debug__" : Str)) = false := by decide)
    (he : starEach (e :: es) X.env = (false, eval e X.env) :: starEach es X.env := by rfl) (hpl : (backTo pos (starEach es X.env)).any (·.1) = false := by rfl) : PE X (.Call (.Name x p) (e :: es) [] pos) (tCB r t) := pe_callBfun hc hg hm ha hdb he hpl
end Com
namespace Com
open PySem PySem.Spec PyProof.Rows L2
def B (x : Int) (n : Nat) : Prop := x.natAbs < 2 ^ n
theorem B.mono {x : Int} {m n : Nat} (h : B x m) (hm : m ≤ n) : B x n := Nat.lt_of_lt_of_le h (Nat.pow_le_pow_right (by decide) hm)
theorem B.add {x y : Int} {n : Nat} (hx : B x n) (hy : B y n) : B (x + y) (n + 1) := by
  unfold B at *
  have : (x + y).natAbs ≤ x.natAbs + y.natAbs := Int.natAbs_add_le x y
  rw [Nat.pow_succ]
  omega
theorem B.neg {x : Int} {n : Nat} (h : B x n) : B (-x) n := by
  unfold B at *
  rwa [Int.natAbs_neg]
theorem B.sub {x y : Int} {n : Nat} (hx : B x n) (hy : B y n) : B (x - y) (n + 1) := by
  have := hx.add hy.neg
  rwa [← Int.sub_eq_add_neg] at this
theorem B.abs {x : Int} {n : Nat} (h : B x n) : B (if x < 0 then -x else x) n := by
  split
  · exact h.neg
  · exact h
theorem B.le {x : Int} {y : Int} {n : Nat} (h : B y n) (hl : x.natAbs ≤ y.natAbs) : B x n := Nat.lt_of_le_of_lt hl h
theorem B.of {x : Int} {n : Nat} {k : Nat} (h : x.natAbs ≤ k) (hk : k < 2 ^ n) : B x n := Nat.lt_of_le_of_lt h hk
end Com
set_option linter.all false
namespace Sd
abbrev PP := Int × Int
def leP (p q : PP) : Bool := decide (p.1 < q.1) || (decide (p.1 = q.1) && decide (p.2 ≤ q.2))
theorem leP_iff {p q : PP} : leP p q = true ↔ p.1 < q.1 ∨ (p.1 = q.1 ∧ p.2 ≤ q.2) := by simp [leP]
theorem leP_trans (a b c : PP) (h : leP a b = true) (g : leP b c = true) : leP a c = true := by
  rw [leP_iff] at *
  omega
theorem leP_total (a b : PP) : (leP a b || leP b a) = true := by
  rw [Bool.or_eq_true, leP_iff, leP_iff]
  omega
theorem leP_anti {a b : PP} (h : leP a b = true) (g : leP b a = true) : a = b := by
  rw [leP_iff] at *
  exact Prod.ext (by omega) (by omega)
def srt (ps : List PP) : List PP := ps.mergeSort leP
theorem srt_perm (ps : List PP) : (srt ps).Perm ps := List.mergeSort_perm ps leP
theorem srt_le (ps : List PP) : (srt ps).Pairwise (fun a b => leP a b = true) := List.pairwise_mergeSort leP_trans leP_total ps
theorem srt_uniq {ps qs : List PP} (h : qs.Perm ps) (g : qs.Pairwise (fun a b => leP a b = true)) : qs = srt ps :=
  List.Perm.eq_of_pairwise (fun a b _ _ x y => leP_anti x y) g (srt_le ps) (h.trans (srt_perm ps).symm)
theorem srt_len (ps : List PP) : (srt ps).length = ps.length := (srt_perm ps).length_eq
/-- the pair's switches are free -/
def freeB (L : List PP) (p : PP) : Bool := L.all fun c => !decide (c.1 = p.1) && !decide (c.2 = p.2)
theorem freeB_iff {L : List PP} {p : PP} : freeB L p = true ↔ ∀ c ∈ L, c.1 ≠ p.1 ∧ c.2 ≠ p.2 := by
  simp [freeB, List.all_eq_true]
def InP (n m : Nat) (p : PP) : Prop := 0 ≤ p.1 ∧ p.1 < n ∧ 0 ≤ p.2 ∧ p.2 < m
instance {n m : Nat} {p : PP} : Decidable (InP n m p) := inferInstanceAs (Decidable (_ ∧ _ ∧ _ ∧ _))
structure LoadOk (n m : Nat) (L : List PP) : Prop where
  rng : ∀ p ∈ L, InP n m p
  asc : (L.map (·.1)).Pairwise (· < ·)
  nd : (L.map (·.2)).Nodup
theorem LoadOk.nil {n m : Nat} : LoadOk n m [] := ⟨(fun _ h => nomatch h), List.Pairwise.nil, List.nodup_nil⟩
theorem asc_nodup {L : List Int} (h : L.Pairwise (· < ·)) : L.Nodup := h.imp fun {a b} x => by omega
theorem asc_len : ∀ {L : List Int} {n : Nat} {k : Int}, 0 ≤ k → L.Pairwise (· < ·) → (∀ i ∈ L, k ≤ i ∧ i < n) → (L.length : Int) ≤ n - k ∨ L = []
  | [], _, _, _, _, _ => .inr rfl
  | i :: L, n, k, hk, h, g => by
    have gi := g i (List.mem_cons_self ..)
    rw [List.pairwise_cons] at h
    have := asc_len (L := L) (n := n) (k := i + 1) (by omega) h.2 fun j hj => ⟨by have := h.1 j hj; omega, (g j (List.mem_cons_of_mem _ hj)).2⟩
    left
    rcases this with e | e
    · rw [List.length_cons]; omega
    · rw [e]; simp; omega
theorem LoadOk.len {n m : Nat} {L : List PP} (h : LoadOk n m L) : L.length ≤ n := by
  have := asc_len (L := L.map (·.1)) (n := n) (k := 0) (by omega) h.asc fun i hi => by
    obtain ⟨p, hp, e⟩ := List.mem_map.mp hi
    have := h.rng p hp
    unfold InP at this
    omega
  rw [List.length_map] at this
  rcases this with e | e
  · omega
  · have : L = [] := List.map_eq_nil_iff.mp e
    rw [this]; simp
theorem LoadOk.srt_add {n m : Nat} {L : List PP} {p : PP} (h : LoadOk n m L) (hp : InP n m p) (hf : freeB L p = true) : LoadOk n m (srt (L ++ [p])) := by
  have pm : (srt (L ++ [p])).Perm (L ++ [p]) := srt_perm _
  rw [freeB_iff] at hf
  have nd1 : ((L ++ [p]).map (·.1)).Nodup := by
    rw [List.map_append, List.map_singleton, List.nodup_append]
    refine ⟨asc_nodup h.asc, by simp, fun a ha b hb => ?_⟩
    obtain ⟨c, hc, e⟩ := List.mem_map.mp ha
    have := hf c hc
    rw [List.mem_singleton.mp hb, ← e]
    exact this.1
  have nd2 : ((L ++ [p]).map (·.2)).Nodup := by
    rw [List.map_append, List.map_singleton, List.nodup_append]
    refine ⟨h.nd, by simp, fun a ha b hb => ?_⟩
    obtain ⟨c, hc, e⟩ := List.mem_map.mp ha
    have := hf c hc
    rw [List.mem_singleton.mp hb, ← e]
    exact this.2
  refine ⟨fun q hq => ?_, ?_, ((pm.map (·.2)).nodup_iff).mpr nd2⟩
  · rcases List.mem_append.mp (pm.mem_iff.mp hq) with e | e
    · exact h.rng q e
    · rw [List.mem_singleton.mp e]; exact hp
  · have n1 : ((srt (L ++ [p])).map (·.1)).Nodup := ((pm.map (·.1)).nodup_iff).mpr nd1
    have s1 := srt_le (L ++ [p])
    rw [List.Nodup, List.pairwise_map] at n1
    rw [List.pairwise_map]
    refine (s1.and n1).imp fun {a b} hh => ?_
    obtain ⟨x, y⟩ := hh
    rw [leP_iff] at x
    omega
/-- doors less calls -/
def left (ds : List Int) (is : List Int) : List Int := ds.mapIdx fun j d => d - ((is.count (j : Int) : Nat) : Int)
theorem left_len (ds is : List Int) : (left ds is).length = ds.length := by simp [left]
theorem left_get (ds is : List Int) (j : Nat) : (left ds is)[j]? = (ds[j]?).map fun d => d - ((is.count (j : Int) : Nat) : Int) := by
  unfold left
  rw [List.getElem?_mapIdx]
theorem left_nil (ds : List Int) : left ds [] = ds := by
  apply List.ext_getElem?
  intro j
  rw [left_get]
  simp
theorem left_perm {ds is js : List Int} (h : is.Perm js) : left ds is = left ds js := by
  apply List.ext_getElem?
  intro j
  rw [left_get, left_get, h.count_eq]
theorem left_snoc {ds is : List Int} {i : Nat} {x : Int} (h : (left ds is)[i]? = some x) : (left ds is).set i (x - 1) = left ds (is ++ [(i : Int)]) := by
  apply List.ext_getElem?
  intro j
  rw [List.getElem?_set, left_get ds (is ++ [(i : Int)]) j]
  by_cases e : i = j
  · subst e
    have hl : i < (left ds is).length := (List.getElem?_eq_some_iff.mp h).1
    rw [if_pos rfl, if_pos hl]
    rw [left_get] at h
    cases d : ds[i]? with
    | none => rw [d] at h; cases h
    | some d0 =>
      rw [d] at h
      simp only [Option.map_some, Option.some.injEq] at h
      simp only [Option.map_some, Option.some.injEq, List.count_append, List.count_singleton_self]
      omega
  · rw [if_neg e, left_get]
    have : (is ++ [(i : Int)]).count (j : Int) = is.count (j : Int) := by
      rw [List.count_append, List.count_singleton]
      have : ((i : Int) == (j : Int)) = false := by
        simp
        omega
      rw [this]
      simp
    rw [this]
def fs (S : List (List PP)) : List Int := S.flatten.map (·.1)
def sn (S : List (List PP)) : List Int := S.flatten.map (·.2)
structure StdOk (ds es : List Int) (m : Int) (S : List (List PP)) : Prop where
  len : (S.length : Int) = m
  ld : ∀ L ∈ S, LoadOk ds.length es.length L
  ci : ∀ d ∈ left ds (fs S), 0 ≤ d
  co : ∀ d ∈ left es (sn S), 0 ≤ d
theorem StdOk.set {ds es : List Int} {m : Int} {S : List (List PP)} {k : Nat} {L : List PP} {p : PP} {x y : Int} (h : StdOk ds es m S) (hk : S[k]? = some L) (hp : InP ds.length es.length p) (hf : freeB L p = true)
    (hx : (left ds (fs S))[p.1.toNat]? = some x) (x0 : 0 < x) (hy : (left es (sn S))[p.2.toNat]? = some y) (y0 : 0 < y) :
    StdOk ds es m (S.set k (srt (L ++ [p]))) ∧ (left ds (fs S)).set p.1.toNat (x - 1) = left ds (fs (S.set k (srt (L ++ [p])))) ∧ (left es (sn S)).set p.2.toNat (y - 1) = left es (sn (S.set k (srt (L ++ [p])))) := by
  have hkl : k < S.length := (List.getElem?_eq_some_iff.mp hk).1
  have pm : (S.set k (srt (L ++ [p]))).flatten.Perm (S.flatten ++ [p]) := by
    have e1 : S = S.take k ++ L :: S.drop (k + 1) := by
      have := List.getElem?_eq_some_iff.mp hk
      obtain ⟨_, e⟩ := this
      rw [← e]
      simp
    have e2 : S.set k (srt (L ++ [p])) = S.take k ++ srt (L ++ [p]) :: S.drop (k + 1) := by
      rw [List.set_eq_take_append_cons_drop, if_pos hkl]
    rw [e2]
    conv => rhs; rw [e1]
    rw [List.flatten_append, List.flatten_cons, List.flatten_append, List.flatten_cons, List.append_assoc, List.append_assoc]
    refine List.Perm.append_left _ ?_
    refine (List.Perm.append_right _ (srt_perm _)).trans ?_
    rw [List.append_assoc]
    refine List.Perm.append_left _ ?_
    exact List.perm_append_comm
  have p1 : (fs (S.set k (srt (L ++ [p])))).Perm (fs S ++ [p.1]) := by
    unfold fs
    have := pm.map (·.1)
    rwa [List.map_append] at this
  have p2 : (sn (S.set k (srt (L ++ [p])))).Perm (sn S ++ [p.2]) := by
    unfold sn
    have := pm.map (·.2)
    rwa [List.map_append] at this
  have c1 : ((p.1.toNat : Nat) : Int) = p.1 := by have := hp.1; omega
  have c2 : ((p.2.toNat : Nat) : Int) = p.2 := by have := hp.2.2.1; omega
  have e1 := left_snoc hx
  have e2 := left_snoc hy
  rw [c1, ← left_perm p1] at e1
  rw [c2, ← left_perm p2] at e2
  refine ⟨⟨by rw [List.length_set]; exact h.len, fun M hM => ?_, fun d hd => ?_, fun d hd => ?_⟩, e1, e2⟩
  · rcases List.mem_or_eq_of_mem_set hM with e | e
    · exact h.ld M e
    · rw [e]
      exact (h.ld L (List.mem_of_getElem? hk)).srt_add hp hf
  · rw [← e1] at hd
    rcases List.mem_or_eq_of_mem_set hd with e | e
    · exact h.ci d e
    · omega
  · rw [← e2] at hd
    rcases List.mem_or_eq_of_mem_set hd with e | e
    · exact h.co d e
    · omega
theorem StdOk.empty {ds es : List Int} {n : Nat} (hd : ∀ d ∈ ds, 1 ≤ d) (he : ∀ d ∈ es, 1 ≤ d) : StdOk ds es (n : Nat) (List.replicate n []) := by
  have f0 : fs (List.replicate n []) = [] := by simp [fs]
  have s0 : sn (List.replicate n []) = [] := by simp [sn]
  refine ⟨by simp, fun L hL => ?_, fun d h => ?_, fun d h => ?_⟩
  · rw [(List.mem_replicate.mp hL).2]; exact .nil
  · rw [f0, left_nil] at h
    have := hd d h; omega
  · rw [s0, left_nil] at h
    have := he d h; omega
/-- free middles -/
def frees (S : List (List PP)) (p : PP) : List Int := ((List.range S.length).filter fun k => freeB (S.getD k []) p).map Int.ofNat
/-- strictly ascending lists with the same members are equal -/
theorem asc_ext : ∀ {l m : List Int}, l.Pairwise (· < ·) → m.Pairwise (· < ·) → (∀ k, k ∈ l ↔ k ∈ m) → l = m := by
  intro l m hl hm h
  refine List.Perm.eq_of_pairwise (le := fun a b : Int => a < b) (fun a b _ _ x y => by omega) hl hm ?_
  rw [List.perm_ext_iff_of_nodup (asc_nodup hl) (asc_nodup hm)]
  exact h
theorem asc_dec {l ns : List Int} (hn : ns.Pairwise (· < ·)) (h : ∀ k, k ∈ ns ↔ k ∈ l) : decide (l = ns) = decide (l.Pairwise (· < ·)) := by
  refine decide_eq_decide.mpr ⟨fun e => by rw [e]; exact hn, fun p => asc_ext p hn fun k => (h k).symm⟩
theorem sub_perm : ∀ {ks l : List Int}, ks.Nodup → (∀ x ∈ ks, x ∈ l) → l.length ≤ ks.length → ks.Perm l
  | [], l, _, _, h => by
    have : l = [] := List.length_eq_zero_iff.mp (by simpa using h)
    rw [this]
  | x :: ks, l, n, s, h => by
    have hx := s x (List.mem_cons_self ..)
    have pm := List.perm_cons_erase hx
    have l1 := pm.length_eq
    rw [List.length_cons] at l1 h
    rw [List.nodup_cons] at n
    refine (List.Perm.cons x (sub_perm n.2 (fun y hy => ?_) (by omega))).trans pm.symm
    have hyl := s y (List.mem_cons_of_mem _ hy)
    have ne : y ≠ x := fun e => n.1 (e ▸ hy)
    exact (List.mem_erase_of_ne ne).mpr hyl
theorem nd_dec {l ks : List Int} (hk : ks.Nodup) (h : ∀ k, k ∈ ks ↔ k ∈ l) : decide (l.length = ks.length) = decide l.Nodup := by
  refine decide_eq_decide.mpr ⟨fun e => ?_, fun p => ?_⟩
  · have h2 : ∀ x ∈ ks, x ∈ l := fun x hx => (h x).mp hx
    exact (sub_perm hk h2 (by omega)).nodup_iff.mp hk
  · exact (List.Perm.length_eq ((List.perm_ext_iff_of_nodup p hk).mpr fun k => (h k).symm))
end Sd
set_option Elab.async false
set_option linter.all false
set_option maxRecDepth 100000
set_option maxHeartbeats 4000000
namespace Ext
open PySem PySem.Spec PyProof.Rows L2 Com
section
variable {P : Program} {w : World} {A : Around} {E : Value → Shared → Prop} {s : Shared}
set_option maxRecDepth 100000 in
set_option maxHeartbeats 3200000 in
theorem call_set_listI {l : Addr} {items : Array Value} (ns : List Int) {Q : Value → Shared → Prop} (hh : A.handled = none) (hl : s.heap.IsList l items) (hit : IntsAre items.toList ns) (hb : ns.length + 1 < scanBound)
    (h : ∀ (h' : Heap) (tk c : Nat), SetR w h' s.heap.objs.size (fun j => decide (j ∈ ns)) c → c ≤ ns.length → (∀ b o, s.heap.get? b = some o → h'.get? b = some o) → Q (.ref s.heap.objs.size) { s with heap := h', toks := tk }) :
    wpAny (model P w) A (call (.type "set") [.ref l]) Q E s := by
  have hisz : items.size = ns.length := by
    have q := IntsAre.length hit
    rw [Array.length_toList] at q
    exact q
  obtain ⟨c, tl, hmro⟩ := F.called_set.mro
  have hmade := F.called_set.made
  have hsub := F.called_set.sub
  refine wpAny_call (codeAny_of_tree ?_)
  show wpAny _ _ (callAny (.type "set") _) _ _ _
  refine wpAny_pure ⟨Code.quiet_builtin _ (by decide +kernel), codeAny_builtin F.entry_type_call ?_⟩
  rw [Around.under_plain (weight_type_call_type "set" [.ref l] []) rfl]
  have h1 := F.called_set.notType
  have h2 := F.called_set.canCreate
  have hct := F.typeCall_set_1 (.ref l)
  repeat (any_goals (first | assumption | wp_step))
  refine codeAny_mono (code_set_led1 (.ref l) (E := E) (Q₁ := fun obj s₁ => obj = .ref s.heap.objs.size ∧ s₁ = { s with heap := s.heap.push { cls := .type "set", dict := none, data := .set #[] 0 (.fresh 0 0 (!w.params.followText "set-order")) } }) ⟨rfl, rfl⟩) fun r s₁ hr => ?_
  cases r with
  | error e => exact hr
  | ok fl =>
    cases fl with
    | ret obj =>
      obtain ⟨rfl, rfl⟩ := hr
      have hS : (s.heap.push { cls := .type "set", dict := none, data := .set #[] 0 (.fresh 0 0 (!w.params.followText "set-order")) }).get? s.heap.objs.size = some { cls := .type "set", dict := none, data := .set #[] 0 (.fresh 0 0 (!w.params.followText "set-order")) } := Heap.get?_push_size _ rfl
      have hT : Shared.TypeIs { s with heap := s.heap.push { cls := .type "set", dict := none, data := .set #[] 0 (.fresh 0 0 (!w.params.followText "set-order")) } } (.ref s.heap.objs.size) "set" := ⟨_, hS, rfl⟩
      have hli := F.called_set.init.lookup
      have hbi := F.called_set.init.bind (.ref s.heap.objs.size)
      repeat (any_goals (first | assumption | wp_step))
      refine codeAny_mono (codeAny_call_builtin (R := wants (fun r s₂ => r = .none ∧ ∃ h' tk c, s₂ = { s with heap := h', toks := tk } ∧ SetR w h' s.heap.objs.size (fun j => decide (j ∈ ns)) c ∧ c ≤ ns.length ∧
          (∀ b o, s.heap.get? b = some o → h'.get? b = some o)) E) F.called_set.init.plain F.entry_set_init (check_set_init_1 hT ?_)) fun r₂ s₂ hr₂ => ?_
      · obtain ⟨ol, hol, hcl, nl, hdl⟩ := hl
        obtain ⟨ocls, odict, odata, oslots⟩ := ol
        simp only at hcl hdl
        subst hcl; subst hdl
        have hol' : (s.heap.push { cls := .type "set", dict := none, data := .set #[] 0 (.fresh 0 0 (!w.params.followText "set-order")) }).get? l = some { cls := .type "list", dict := odict, data := .seq items nl, slots := oslots } := Heap.get?_push_of_some _ hol
        have hsls := F.sub_list_set
        have hslf := F.sub_list_frozenset
        have hne : (Value.type "list" == Value.type "dict") = false := by decide
        have hl1 : (s.heap.push { cls := .type "set", dict := none, data := .set #[] 0 (.fresh 0 0 (!w.params.followText "set-order")) }).IsList l items := ⟨_, hol', rfl, nl, rfl⟩
        unfold Builtin.«set.__init__» noKeywords Builtin.Frozenset.updateFrom
        generalize hPI : pyIter = PI
        wp_walk
        subst hPI
        refine wpAny_pyIter_list hl1 ?_
        refine wpAny_bind (wpAny_runValue ?_)
        have hlS : l < s.heap.objs.size := Heap.lt_size hol
        have hh3 : A.in1.in1.in1.handled = none := by simp [hh]
        have hz1 : (s.heap.push { cls := .type "set", dict := none, data := .set #[] 0 (.fresh 0 0 (!w.params.followText "set-order")) }).objs.size = s.heap.objs.size + 1 := Heap.size_push ..
        have hneI : l ≠ (s.heap.push { cls := .type "set", dict := none, data := .set #[] 0 (.fresh 0 0 (!w.params.followText "set-order")) }).objs.size := by
          rw [Heap.size_push]; exact Nat.ne_of_lt (Nat.lt_succ_of_lt hlS)
        have hSf : s.heap.objs.size ∉ [(s.heap.push { cls := .type "set", dict := none, data := .set #[] 0 (.fresh 0 0 (!w.params.followText "set-order")) }).objs.size, l] := by
          rw [Heap.size_push]; simp only [List.mem_cons, List.mem_singleton, List.not_mem_nil, or_false, not_or]
          exact ⟨Nat.ne_of_lt (Nat.lt_succ_self _), Nat.ne_of_gt hlS⟩
        have hval : ∀ (i : Nat) (v : Value), items[i]? = some v → ∃ k t, ns[i]? = some k ∧ v = .int k t := fun i v hv => by
          have hi : i < ns.length := by rw [← hisz]; exact (Array.getElem?_eq_some_iff.mp hv).1
          obtain ⟨t, e⟩ := PyProof.Rows.IntsAre.int_at hit i v (by rw [Array.getElem?_toList]; exact hv)
          refine ⟨ns[i], t, List.getElem?_eq_getElem hi, ?_⟩
          rw [e, List.getD_eq_getElem?_getD, List.getElem?_eq_getElem hi] <;> rfl
        refine set_update_ints ((Walks.list hh3 _ l hneI items).toS) s.heap.objs.size
          hSf ns hisz hb hval (items.size - 0) 0 _ (by omega) (Nat.zero_le _)
          ⟨⟨_, Heap.get?_push_size _ rfl, rfl, rfl⟩, (hl1.push _)⟩ ?hS0 ?hR
        case hS0 =>
          have hget : ((s.heap.push { cls := .type "set", dict := none, data := .set #[] 0 (.fresh 0 0 (!w.params.followText "set-order")) }).push { cls := .type "list_iterator", data := .fields #[.ref l, .int 0 0] }).get? s.heap.objs.size
              = some { cls := .type "set", dict := none, data := .set #[] 0 (.fresh 0 0 (!w.params.followText "set-order")) } := Heap.get?_push_of_some _ hS
          exact ⟨0, Nat.le_refl 0, setR_new_at hget⟩
        case hR =>
          intro s' c' hm hc' hS'
          obtain ⟨h', g2, d', tk', os'⟩ := s'
          have eg : g2 = s.gens := hm.gens
          have ed : d' = s.drawn := hm.drawn
          have eo : os' = s.os := hm.os
          subst eg; subst ed; subst eo
          show wpAny _ _ _ _ _ _
          refine wpAny_pure ?_
          show wpAny _ _ (ret Value.none) _ _ _
          rw [hisz] at hc'
          refine wpAny_pure ⟨rfl, h', tk', c', rfl, hS', hc', fun b o e => ?_⟩
          have hb0 : b < s.heap.objs.size := Heap.lt_size e
          have hb1 : b ≠ s.heap.objs.size := Nat.ne_of_lt hb0
          have hb2 : b ≠ (s.heap.push { cls := .type "set", dict := none, data := .set #[] 0 (.fresh 0 0 (!w.params.followText "set-order")) }).objs.size := by
            rw [Heap.size_push]; exact Nat.ne_of_lt (Nat.lt_succ_of_lt hb0)
          exact hm.heap b o (by simp only [List.mem_cons, List.mem_singleton, List.not_mem_nil, or_false, not_or]; exact ⟨hb1, hb2⟩) (Heap.get?_push_of_some _ (Heap.get?_push_of_some _ e))
      · cases r₂ with
        | error e => exact hr₂
        | ok fl₂ =>
          cases fl₂ with
          | ret r =>
            obtain ⟨rfl, h', tk, c', rfl, hS', hc', hk'⟩ := hr₂
            repeat (any_goals (first | assumption | wp_step))
            exact h _ _ _ hS' hc' hk'
          | _ => exact hr₂.elim
    | _ => exact hr.elim
end
end Ext
set_option Elab.async false
set_option linter.all false
set_option maxRecDepth 100000
set_option maxHeartbeats 4000000
namespace Ext
open PySem PySem.Spec PyProof.Rows L2 Com
section
variable {X : Cx}
theorem setR_keys {P : Program} {w : World} {h : Heap} {a : Addr} {S : Int → Bool} {n : Nat} (R : SetR w h a S n) : ∃ ks : List Int, ks.Nodup ∧ (∀ k, k ∈ ks ↔ S k = true) ∧ ks.length = n := by
  obtain ⟨o, es, ep, t, ho, hex, hdt, g, nd, hm2, hb, hf, hn, hr, hl2⟩ := R
  refine ⟨es.toList.map keyOf, nd, fun k => ?_, ?_⟩
  · rw [hm2]
  · rw [List.length_map, Array.length_toList]
    first | exact hn.symm | exact hn | omega
def rSetI (K : PySem.W.Frag) (w : World) : List V → Hp → VK → Prop := fun xs H Q => ∃ (l : Addr) (ns : List Int), xs = [V.ref l] ∧ SqL K H l (ns.map V.int) ∧ ns.length ≤ 1000 ∧
  ∀ p n (ks : List Int), ks.Nodup → (∀ k, k ∈ ks ↔ k ∈ ns) → ks.length = n → n ≤ ns.length → H p = none → Q (.ref p) (upd H p (SetO w p (fun k => decide (k ∈ ns)) n))
theorem cr_setI (hc : X.calm = true) : CallR X (.type "set") (rSetI X.K X.w) := by
  intro pins s σ H vs us Q I r h
  obtain ⟨l, ns, rfl, hq, hl, q⟩ := h
  rw [Vals.ref1 r]
  obtain ⟨its, rv, pl, hz⟩ := I.list hq
  have hi : IntsAre its.toArray.toList ns := by simpa using RZ.intsAre_vals rv
  refine call_set_listI ns (I.ok.hd hc) pl.isList hi (by unfold scanBound; omega) fun h' tk c R hcn k => ?_
  obtain ⟨ks, nd, hm, hn⟩ := setR_keys (P := X.prog) R
  have hp : s.heap.objs.size ≤ s.heap.objs.size := Nat.le_refl _
  have hnone : H s.heap.objs.size = none := I.hok.fresh hp
  have J : Inv X pins σ (upd H s.heap.objs.size (SetO X.w s.heap.objs.size (fun k => decide (k ∈ ns)) c)) { s with heap := h', toks := tk } :=
    I.laid (t' := tk) (fun b u e => k b u e) hp (setO_new R)
  exact ⟨.ref s.heap.objs.size, _, J, rfl, q s.heap.objs.size c ks nd (fun k => by rw [hm k, decide_eq_true_eq]) hn hcn hnone⟩
def rLenSet (w : World) : List V → Hp → VK → Prop := fun xs H Q => ∃ (a : Addr) (S : Int → Bool) (n : Nat), xs = [V.ref a] ∧ H a = some (SetO w a S n) ∧ n ≤ 4000 ∧ Q (.int (n : Nat)) H
theorem cl_lenSet : CallR X (.builtin "len") (rLenSet X.w) := by
  intro pins s σ H vs us Q I r h
  obtain ⟨a, S, n, rfl, ha, hn, q⟩ := h
  rw [Vals.ref1 r]
  obtain ⟨o, es, ep, t, ho, hex, hd, _, _, _, _, hf, he, _, _⟩ := setO_get I ha
  exact call_len_set ho hex hd hf (by rw [he]; omega) ⟨.int n, H, I.tok _, ⟨_, by rw [he]⟩, q⟩
end
set_option maxHeartbeats 4000000 in
theorem meets_enumerate_new1B {v : Value} {o : Obj} {H : Heap → Prop} (B : Begins v o H) :
    Meets (Builtin.«enumerate.__new__» ⟨[.type "enumerate", v], []⟩) (fun _ R s => H s.heap ∧
      R (.ok (.ret (.ref (s.heap.push o).objs.size))) { s with heap := (s.heap.push o).push { cls := .type "enumerate", data := .fields #[.none, .bool false, .ref s.heap.objs.size, rawInt 0, .none, .none] } }) :=
  .of_wp fun prog w A R s h => by
    obtain ⟨hp, g, d, tk, os⟩ := s; obtain ⟨h1, h⟩ := h
    have hsub := sub_enumerate
    have q1 : ∀ {A' : Around} {E : Value → Shared → Prop} {Q : Value → Shared → Prop}, Q (.ref hp.objs.size) ⟨hp.push o, g, d, tk, os⟩ → wpAny (model prog w) A' (pyIter v) Q E ⟨hp, g, d, tk, os⟩ :=
      fun q => B.iter prog w _ _ ⟨hp, g, d, tk, os⟩ _ h1 q
    wp_walk using q1
    refine wpAny_stack_any fun st => wpAny_pure ?_
    split
    · rename_i c _ _ _ _ _
      cases (c == Value.type "enumerate")
      · wp_walk using q1
        exact ⟨_, rfl, h⟩
      · wp_walk using q1
        exact ⟨_, rfl, h⟩
    · wp_walk using q1
      exact ⟨_, rfl, h⟩
section
variable {prog : Program} {w : World} {A : Around} {E : Value → Shared → Prop} {s : Shared}
theorem call_enumerate_tuple {l : Addr} {items : Array Value} {Q : Value → Shared → Prop} (hL : s.heap.IsTuple l items)
    (h : ∀ h', IsEnum h' (s.heap.objs.size + 1) s.heap.objs.size 0 .none → h'.IsTupleIter s.heap.objs.size l 0 → h'.objs.size = s.heap.objs.size + 2 →
      (∀ b o, s.heap.get? b = some o → h'.get? b = some o) → Q (.ref (s.heap.objs.size + 1)) { s with heap := h' }) :
    wpAny (model prog w) A (call (.type "enumerate") [.ref l]) Q E s := by
  refine callType_new F.called_enumerate (by decide) (F.typeCall_enumerate_1 _) (F.newCall_enumerate_1 _) (fun obj => F.args_object_init_2 obj _) F.entry_enumerate_new
    (meets_enumerate_new1B (begins_tuple l items)) ⟨hL, ?_⟩
  have hz : (s.heap.push { cls := .type "tuple_iterator", data := .fields #[.ref l, .int 0 0] }).objs.size = s.heap.objs.size + 1 := Heap.size_push ..
  show _ ∧ _
  rw [hz]
  have he : IsEnum ((s.heap.push { cls := .type "tuple_iterator", data := .fields #[.ref l, .int 0 0] }).push
      { cls := .type "enumerate", data := .fields #[.none, .bool false, .ref s.heap.objs.size, rawInt 0, .none, .none] }) (s.heap.objs.size + 1) s.heap.objs.size 0 .none := by
    have := Heap.get?_push_size (s.heap.push { cls := .type "tuple_iterator", data := .fields #[.ref l, .int 0 0] })
      (o := { cls := .type "enumerate", data := .fields #[.none, .bool false, .ref s.heap.objs.size, rawInt 0, .none, .none] }) rfl
    rw [hz] at this; exact this
  refine ⟨⟨_, he, rfl⟩, h _ he ⟨_, Heap.get?_push_of_some _ (Heap.get?_push_size _ rfl), rfl, rfl⟩ (by rw [Heap.size_push, hz]) fun b o x => Heap.get?_push_of_some _ (Heap.get?_push_of_some _ x)⟩
end
/-- the tuple at a, each item in a new pair -/
def Iet (K : PySem.W.Frag) (a : Addr) : It :=
  ⟨fun i H => ∃ (xs : List V) (x : V), SqT K H a xs ∧ xs[i]? = some x, fun i H v H' => ∃ T x, v = .ref T ∧ H T = none ∧ H' = upd H T (.tup [.int (i : Nat), x]) ∧ ∀ xs, SqT K H a xs → xs[i]? = some x, fun i H => ∃ xs : List V, SqT K H a xs ∧ xs.length ≤ i⟩
theorem turn_enumT {P : Program} {w : World} {K : PySem.W.Frag} {elts : List Expr} {kk : Nat} {tpos : Pos} (a e it : Addr) :
    Turn P w K (.Tuple elts kk tpos) (Iet K a) [e, it] e (fun i h => (∃ old, IsEnum h e it ((i : Nat) : Int) old) ∧ h.IsTupleIter it a i ∧ e ≠ it) where
  mem := by simp
  obj := fun i h st b hb => by
    obtain ⟨⟨old, he⟩, ⟨o, ho, hc, hd⟩, _⟩ := st
    have e' : b = e ∨ b = it := by simpa using hb
    rcases e' with z | z
    · rw [z]; exact ⟨_, he, fun v q => nomatch q⟩
    · rw [z]; exact ⟨o, ho, fun v q => by rw [hd] at q; cases q⟩
  keep := fun i h h' st k => let ⟨⟨old, he⟩, hi, hne⟩ := st; ⟨⟨old, k e (by simp) _ he⟩, hi.at fun o q => k it (by simp) o q, hne⟩
  item := by
    intro X hP hw hK hc i pins s σ H E I hf st hg
    subst hP hw hK
    obtain ⟨⟨old, he⟩, hit, hne⟩ := st
    obtain ⟨xs, x, hq, hx⟩ := hg
    obtain ⟨its, rv, p, hz⟩ := I.tuple hq
    obtain ⟨u, hu, ru⟩ := rv.get hx
    have hel : e < s.heap.objs.size := Heap.lt_size he
    have hil : it < s.heap.objs.size := by obtain ⟨_, q, _⟩ := hit; exact Heap.lt_size q
    have hat : s.heap.IsTuple a its.toArray := p
    have hae : a ≠ e := fun z => by
      obtain ⟨o, ho, hcl, n, hd⟩ := hat
      have he2 : s.heap.get? e = some _ := he
      rw [z, he2] at ho
      cases ho
      cases hd
    have hai : a ≠ it := fun z => by
      obtain ⟨o, ho, hcl, n, hd⟩ := hat
      obtain ⟨o2, q, _, hd2⟩ := hit
      rw [z, q] at ho
      cases ho
      rw [hd2] at hd
      cases hd
    have hlt : i < its.toArray.size := by
      have := (List.getElem?_eq_some_iff.mp hu).1
      simpa using this
    have hef : e ∉ [it, a] := by
      simp only [List.mem_cons, List.not_mem_nil, or_false, not_or]
      exact ⟨hne, hae.symm⟩
    refine wpAny_pyNext_enum_itemD (Draws.tuple (by have := I.ok.hd hc; simpa using this) it a hai its.toArray) he ⟨hit, hat⟩ hlt hne hef fun x2 h' tk hP ho hst hT hsz hk => ?_
    obtain rfl : u = x2 := by
      have : its.toArray[i]? = some u := by simpa using hu
      rw [this] at hP
      exact Option.some.inj hP
    refine ⟨_, rfl, wpAny_letOwnedTupleGo_enum (s := { s with heap := h', toks := tk + 1 }) ho fun h'' he' sb => ?_⟩
    have hT2 : h''.get? s.heap.objs.size = some { cls := .type "tuple", data := .seq #[.int i tk, u] } := (sb.2 _ (Nat.ne_of_gt hel)).trans hT
    have new : ObjOk X.prog X.w (upd H s.heap.objs.size (.tup [.int (i : Nat), x])) h'' s.heap.objs.size (.tup [.int (i : Nat), x]) :=
      ⟨by show 2 ≤ sizeLine; decide, [.int i tk, u], .cons ⟨_, rfl⟩ (.cons ru .nil), ⟨_, hT2, rfl, _, rfl⟩⟩
    have I1 : Inv X pins σ (upd H s.heap.objs.size (.tup [.int (i : Nat), x])) { s with heap := h'', toks := tk + 1 } :=
      I.turnedNew (ch := [e, it]) (fun b ob hb q => (sb.2 b (fun z => hb (by simp [z]))).trans (hk b ob (fun z => hb (by simp [z])) (fun z => hb (by simp [z])) q)) hf (Nat.le_refl _) new
    refine ⟨.ref s.heap.objs.size, _, I1, rfl, ⟨_, x, rfl, I.hok.fresh (Nat.le_refl _), rfl, fun ys hy => by rw [I.tuple_inj hy hq]; exact hx⟩, ⟨⟨u, ?_⟩, hst.1.at fun o q => (sb.2 it (Ne.symm hne)).trans q, hne⟩, fun b hb => ?_⟩
    · have e1 : ((i + 1 : Nat) : Int) = (i : Int) + 1 := by omega
      rw [e1]; exact he'
    · have hb' : b < s.heap.objs.size := by
        have e' : b = e ∨ b = it := by simpa using hb
        rcases e' with z | z
        · rw [z]; exact hel
        · rw [z]; exact hil
      rw [upd_ne (Nat.ne_of_lt hb')]
      exact (hf b hb).1
  done := by
    intro X hP hw hK hc i pins s σ H E I hf st hg
    subst hP hw hK
    obtain ⟨⟨old, he⟩, hit, hne⟩ := st
    obtain ⟨xs, hq, hx⟩ := hg
    obtain ⟨its, rv, p, hz⟩ := I.tuple hq
    obtain ⟨f0, f1, f2, f3, f4, f5⟩ := hf it (by simp)
    have hl := rv.length
    have hat : s.heap.IsTuple a its.toArray := p
    have hai : a ≠ it := fun z => by
      obtain ⟨o, ho, hcl, n, hd⟩ := hat
      obtain ⟨o2, q, _, hd2⟩ := hit
      rw [z, q] at ho
      cases ho
      rw [hd2] at hd
      cases hd
    unfold pyNext
    have hT : s.TypeIs (.ref e) "enumerate" := ⟨_, he, rfl⟩
    refine wpAny_bind (wpAny_attempt (wpAny_callSpecial?_slot (name := Str.ofString "__next__") hT F.slot_enumerate_next
      (wpAny_call_entry F.slot_enumerate_next hT F.entry_enumerate_next ?_ (F.args_enumerate_next_1 _))))
    show wpAny _ _ (field (.ref e) 2 >>= _) _ _ _
    refine wpAny_bind (wpAny_field he rfl (x := .ref it) rfl ?_)
    refine wpAny_bind (wpAny_nextOf_tuple_end (I.ok.hd hc) hit hat (by simp; omega) fun h' x he' hx' => ?_)
    obtain ⟨o, ho, hcc⟩ := hx'
    refine wpAny_bind (wpAny_isInstance (T := "StopIteration") (b := true) ⟨o, ho, hcc⟩ isSubtype_stop ?_)
    exact wpAny_pure ⟨rfl, I.turned (t' := s.toks) (fun b o hb q => he' b o hb q) f0 f1 f3 f4 f5⟩
  self := fun A i s Q E st h => let ⟨⟨_, he⟩, _⟩ := st; wpAny_pyIter_enum he h
end Ext
set_option Elab.async false
set_option linter.all false
set_option maxRecDepth 100000
set_option maxHeartbeats 4000000
namespace StV
open PySem PySem.Spec PyProof.Rows L2 Com Sd
def kOf (H : Hp) (v : V) : Int × Int := match v with
  | .ref a => match H a with
    | some (.tup [.int i, .int j]) => (i, j)
    | _ => (0, 0)
  | _ => (0, 0)
def PairV (H : Hp) (v : V) (p : Int × Int) : Prop := ∃ a, v = .ref a ∧ H a = some (.tup [.int p.1, .int p.2])
theorem PairV.k {H : Hp} {v : V} {p : Int × Int} (h : PairV H v p) : kOf H v = p := by
  obtain ⟨a, rfl, e⟩ := h
  show (match H a with | some (.tup [.int i, .int j]) => (i, j) | _ => (0, 0)) = p
  rw [e]
theorem pairsV_map {H : Hp} : ∀ {vs : List V} {ps : List PP}, PairsV H vs ps → ps = vs.map (kOf H)
  | _, _, .nil => rfl
  | _, _, .cons h t => by rw [List.map_cons, ← pairsV_map t, PairV.k h]
theorem pairsV_mem {H : Hp} : ∀ {vs : List V} {ps : List PP}, PairsV H vs ps → ∀ v ∈ vs, PairV H v (kOf H v)
  | _, _, .nil, v, hv => nomatch hv
  | _, _, .cons h t, v, hv => by
    rcases List.mem_cons.mp hv with e | e
    · subst e
      have := PairV.k h
      rw [this]
      exact h
    · exact pairsV_mem t v e
theorem pairsV_of {H : Hp} : ∀ {vs : List V}, (∀ v ∈ vs, PairV H v (kOf H v)) → PairsV H vs (vs.map (kOf H))
  | [], _ => .nil
  | v :: vs, h => .cons (h v (List.mem_cons_self ..)) (pairsV_of fun u hu => h u (List.mem_cons_of_mem _ hu))
theorem paired_get {α β : Type} {F : α → β → Prop} : ∀ {xs : List α} {ys : List β}, Paired F xs ys → ∀ {i : Nat} {x : α}, xs[i]? = some x → ∃ y, ys[i]? = some y ∧ F x y
  | _, _, .nil, i, x, h => by simp at h
  | _, _, .cons (a := a) (b := b) r t, 0, x, h => by
    cases h
    exact ⟨_, rfl, r⟩
  | _, _, .cons r t, i + 1, x, h => by
    obtain ⟨y, hy, f⟩ := paired_get t (i := i) (x := x) h
    exact ⟨y, hy, f⟩
theorem paired_get' {α β : Type} {F : α → β → Prop} : ∀ {xs : List α} {ys : List β}, Paired F xs ys → ∀ {i : Nat} {y : β}, ys[i]? = some y → ∃ x, xs[i]? = some x ∧ F x y
  | _, _, .nil, i, x, h => by simp at h
  | _, _, .cons r t, 0, x, h => by
    cases h
    exact ⟨_, rfl, r⟩
  | _, _, .cons r t, i + 1, x, h => by
    obtain ⟨y, hy, f⟩ := paired_get' t (i := i) (y := x) h
    exact ⟨y, hy, f⟩
theorem paired_set {α β : Type} {F : α → β → Prop} {x : α} {y : β} (f : F x y) : ∀ {xs : List α} {ys : List β} {i : Nat}, Paired F xs ys → Paired F (xs.set i x) (ys.set i y)
  | _, _, _, .nil => .nil
  | _, _, 0, .cons r t => .cons f t
  | _, _, i + 1, .cons r t => .cons r (paired_set f t)
theorem paired_imp {α β : Type} {F G : α → β → Prop} (h : ∀ x y, F x y → G x y) : ∀ {xs : List α} {ys : List β}, Paired F xs ys → Paired G xs ys
  | _, _, .nil => .nil
  | _, _, .cons r t => .cons (h _ _ r) (paired_imp h t)
def LoadV (H : Hp) (v : V) (L : List PP) : Prop := ∃ b us, v = .ref b ∧ H b = some (.tup us) ∧ PairsV H us L
def LoadsV (H : Hp) : List V → List (List PP) → Prop := Paired (LoadV H)
def StaV (H : Hp) (v : V) (S : List (List PP)) : Prop := ∃ a us, v = .ref a ∧ H a = some (.tup us) ∧ LoadsV H us S
theorem PairV.same {H H' : Hp} (s : Same H H') {v : V} {p : PP} (h : PairV H v p) : PairV H' v p := let ⟨a, e, x⟩ := h; ⟨a, e, s _ _ x⟩
theorem LoadV.same {H H' : Hp} (s : Same H H') {v : V} {L : List PP} (h : LoadV H v L) : LoadV H' v L := let ⟨b, us, e, x, p⟩ := h; ⟨b, us, e, s _ _ x, PairsV.same s p⟩
theorem LoadsV.same {H H' : Hp} (s : Same H H') {vs : List V} {S : List (List PP)} (h : LoadsV H vs S) : LoadsV H' vs S := paired_imp (fun _ _ x => LoadV.same s x) h
theorem StaV.same {H H' : Hp} (s : Same H H') {v : V} {S : List (List PP)} (h : StaV H v S) : StaV H' v S := let ⟨a, us, e, x, p⟩ := h; ⟨a, us, e, s _ _ x, LoadsV.same s p⟩
/-- tuples stay -/
def TupS (H H' : Hp) : Prop := ∀ b xs, H b = some (.tup xs) → H' b = some (.tup xs)
theorem TupS.of {H H' : Hp} (s : Same H H') : TupS H H' := fun b xs e => s b _ e
theorem TupS.trans {H H1 H2 : Hp} (s : TupS H H1) (t : TupS H1 H2) : TupS H H2 := fun b xs e => t b xs (s b xs e)
theorem LoadV.tupS {H H' : Hp} (s : TupS H H') {v : V} {L : List PP} (h : LoadV H v L) : LoadV H' v L := let ⟨b, us, e, x, p⟩ := h; ⟨b, us, e, s _ _ x, PairsV.mono s p⟩
theorem LoadsV.tupS {H H' : Hp} (s : TupS H H') {vs : List V} {S : List (List PP)} (h : LoadsV H vs S) : LoadsV H' vs S := paired_imp (fun _ _ x => LoadV.tupS s x) h
theorem TupS.new {H : Hp} {p : Addr} {o : HO} (n : H p = none) : TupS H (upd H p o) := fun b xs e => by rw [upd_ne (ne_of_none e n)]; exact e
theorem TupS.lset {H : Hp} {p : Addr} {o : HO} {ys : List V} (n : H p = some (.lst ys)) : TupS H (upd H p o) := fun b xs e => by
  rw [upd_ne (fun z => by rw [z, n] at e; cases e)]
  exact e
/-- lists of ints -/
def lI (ds : List Int) : PyData := .list (ds.map .int)
theorem eqv_lI (ds es : List Int) : PyData.eqv (lI ds) (lI es) = decide (ds = es) := by
  show PyData.eqv (.list _) (.list _) = _
  rw [PyData.eqv]
  exact eqvAll_ints ds es
theorem lay_lI (ds : List Int) : PyData.canLay0 (lI ds) = true := by
  show PyData.canLay0 (.list _) = true
  rw [PyData.canLay0, lay_ints]
theorem depth_lI (ds : List Int) : PyData.depth (lI ds) = 1 := by
  show PyData.depth (.list _) = 1
  rw [PyData.depth, depth_ints]
theorem shaped_lI (ds : List Int) : SeqAt.shaped (lI ds) = true := by
  show (PyData.canLay0 (lI ds) && decide (PyData.depth (lI ds) ≤ 64)) = true
  rw [lay_lI, depth_lI]
  rfl
def rSrtP (K : PySem.W.Frag) : List V → Hp → VK → Prop := fun xs H Q => ∃ (a : Addr) (vs : List V) (ps : List PP), xs = [V.ref a] ∧ SqL K H a vs ∧ PairsV H vs ps ∧
  ∀ us p, PairsV H us (srt ps) → H p = none → Q (.ref p) (upd H p (.lst us))
theorem cr_srtP {X : Cx} (K : PySem.W.Frag) (hK : X.K = K := by rfl) : CallR X (.builtin "sorted") (rSrtP K) := by
  subst hK
  intro pins s σ H vs us Q I r h
  obtain ⟨a, xs, ps, e, hs, hp, q⟩ := h
  refine cr_sortedPO pins s σ H vs us Q I r ⟨a, xs, kOf H, e, hs, fun x hx => pairsV_mem hp x hx, fun ys p h1 h2 hn => ?_⟩
  refine q ys p ?_ hn
  have pm := h2.perm
  have e1 : srt ps = ys.map (kOf H) := by
    refine (srt_uniq ?_ ?_).symm
    · rw [pairsV_map hp]
      exact pm.map _
    · rw [List.pairwise_map]
      refine h1.imp fun {a b} z => ?_
      have := SrtO.lexB_no.mp z
      rw [leP_iff]
      omega
  rw [e1]
  exact pairsV_of fun v hv => pairsV_mem hp v (pm.mem_iff.mp hv)
end StV
set_option Elab.async false
set_option linter.all false
set_option maxRecDepth 100000
set_option maxHeartbeats 4000000
namespace PySem
namespace Exo
open PySem.W PySem.Calls PyProof.Rows PySem.HandSPX
def iA (p1 p2 : Pos) : Arguments := { posonlyargs := [], args := [{ arg := "self", annotation := none, pos := p1 }, { arg := "field", annotation := none, pos := p2 }], vararg := none, kwonlyargs := [], kw_defaults := [], kwarg := none, defaults := [] }
abbrev sCall (msg : Str) (q1 q2 q3 q4 q5 : Pos) : Expr := .Call (.Attribute (.Call (.Name "super" q1) [] [] q2) "__init__" q3) [.Constant (.str msg) 0 q4] [] q5
def iB (msg : Str) (q1 q2 q3 q4 q5 q6 q7 q8 q9 q10 : Pos) : List Stmt :=
  [.Expr (sCall msg q1 q2 q3 q4 q5) q6, .Assign [.Attribute (.Name "self" q7) "field" q8] (.Name "field" q9) q10]
def iS : Scope := { kind := .function, names := [(PySem.Str.ofString "self", .local), (PySem.Str.ofString "field", .local), (PySem.Str.ofString "__class__", .free), (PySem.Str.ofString "super", .globalImplicit)], isGenerator := false, isCoroutine := false, more := [] }
/-- how the call of the bound __init__ is read -/
def Reads (msg : Str) (q1 q2 q3 q4 q5 : Pos) (env : Env) : Prop := ∃ pl : Sem Bool, eval (sCall msg q1 q2 q3 q4 q5) env = (do
  let ov ← attributeBase (.Call (.Name "super" q1) [] [] q2) "__init__" env (eval (.Call (.Name "super" q1) [] [] q2) env)
  standAt q3.atName
  let (f, first) ← holding [ov] (getMethod ov "__init__" pl)
  callWith q5 f first (backTo q5 (starEach [.Constant (.str msg) 0 q4] env)) [])
/-- what the written part says of the class x, at C, and of its __init__, at fI -/
structure Txt (prog : Program) (K : Frag) (mg : Str → Option Value) (x : Str) (C fI : Addr) : Prop where
  gC : mg x = some (.ref C)
  gS : mg "super" = none
  cls : ∃ nm q N bs bm sn sub ab col dd k0 k1 k2 k3 k5, K.lookup C = some (excClassObj nm q C N bs bm true sn sub ab col dd k0 k1 k2 k3 k5 "ValueError.__new__") ∧ refsVE bm = true
  sup : ks_superIn K C C "__init__" = some (some (.builtin "ValueError.__init__"))
  sVE : subIn K (.ref C) (.type "ValueError") = some true
  own : mroIn K C (.ref C) = some true
  op : nsIn K cStatics "thirdparty.any" = some none
  sa : findIn K (.ref C) "__setattr__" = some (some (.builtin "object.__setattr__"))
  ga : findIn K (.ref C) "__getattribute__" = some (some (.builtin "BaseException.__getattribute__"))
  gg : findIn K (.ref C) "__getattr__" = some none
  noN : findIn K (.ref C) "field" = some none
  iC : findIn K (.ref C) "__init__" = some (some (.ref fI))
  tC : typeIn K (.ref fI) = some (.type "function")
  kC : keepIn K (.ref C) = true
  exC : subIn K (.ref C) (.type "BaseException") = some true
  tyC : typeIn K (.ref C) = some (.type "type")
  hdC : hasDictIn K C = true
  te : exmOne K (.ref C) (.ref C) = some true
  top : (prog.main.scope.names.lookup ("super" : Str)).isSome = false
  fn : ∃ (oc : Value) (od : Option Addr) (doc pm : Value) (an : Option Addr) (ct : Value) (osl : Array (Option Value)) (cda cc : Addr) (qual : Str) (p1 p2 : Pos) (msg : Str) (q1 q2 q3 q4 q5 q6 q7 q8 q9 q10 : Pos)
      (cl : Value) (cld : Option Addr) (csl : Array (Option Value)) (ccl : Value) (cdd : Option Addr) (vs : Array Value) (ccs : Array (Option Value)) (file : Str) (tf : Tok),
    K.lookup fI = some ⟨oc, od, .func (ksFn "__init__" qual (iA p1 p2) (iB msg q1 q2 q3 q4 q5 q6 q7 q8 q9 q10) iS .none .none doc pm an (.ref cda) ct cc), osl⟩ ∧ codeIn K (.ref cda) qual = true ∧
    K.lookup cc = some ⟨cl, cld, .cell (some (.ref C)), csl⟩ ∧ K.lookup cda = some ⟨ccl, cdd, .fields vs, ccs⟩ ∧ vs[2]? = some (.str file tf) ∧ ((prog.main.file : Str) == file) = true ∧ (∀ L : Addr, Reads msg q1 q2 q3 q4 q5 (ksEnv qual iS L fI (.ref cda) cc))
theorem kept_but {K : Frag} {h h' : Heap} {x : Addr} (X : K.In h) (hx : K.lookup x = none) (k : ∀ b o, b ≠ x → h.get? b = some o → h'.get? b = some o) : K.In h' := fun a o e =>
  k a o (fun z => by rw [z, hx] at e; cases e) (X a o e)
theorem one_size (v : Value) : [v].length ≤ sizeLine := by
  rw [sizeLine_eq]
  exact (by decide : 1 ≤ 16777216)
/-- what __init__ leaves of a fresh exception at x -/
structure InitEnd (h h' : Heap) (x C dx t1 : Addr) (v : Value) : Prop where
  keep : ∀ b o, b ≠ x → h.get? b = some o → h'.get? b = some o
  obj : h'.get? x = some { cls := .ref C, dict := some dx, data := .fields #[.ref t1, .none, .none, .none, .bool false, .none] }
  dbig : h.objs.size ≤ dx
  dne : dx ≠ x
  ns : h'.Ns1 dx (fun y => if y = "field" then some v else none)
/-- a made one -/
structure OwnMade (h h' : Heap) (e C d : Addr) (v : Value) : Prop where
  keep : ∀ b o, h.get? b = some o → h'.get? b = some o
  new : h.objs.size ≤ e
  obj : ∃ oe vs, h'.get? e = some oe ∧ oe.cls = .ref C ∧ oe.dict = some d ∧ oe.data = .fields vs ∧ vs[1]? = some .none
  dbig : h.objs.size ≤ d
  dne : d ≠ e
  ns : h'.Ns1 d (fun y => if y = "field" then some v else none)
section
variable {M : Model} {prog : Program} {w : World} {A : Around} {E : Value → Shared → Prop} {h : Heap} {g : Array GenState} {d : Drawn} {t : Nat} {os : OsState}
variable {nm q : Str} {C N : Addr} {bs bm : List Value} {hdct : Bool} {sn : List Str} {sub : List Value} {ab : Bool} {col : Option Bool} {dd : Option Addr} {k0 k1 k2 k3 k5 : Option Value}
/-- the bound ValueError.__init__ is called -/
theorem call_mw {u e t0 : Addr} {rest : List Value} {Q : Value → Shared → Prop}
    (hC : h.get? C = some (excClassObj nm q C N bs bm hdct sn sub ab col dd k0 k1 k2 k3 k5 "ValueError.__new__")) (he : h.get? e = some (excO C t0)) (hu : h.get? u = some (kxs_mw "ValueError.__init__" e)) (hrest : rest.length ≤ sizeLine)
    (hq : ∀ h' t1, (∀ b o, b ≠ e → h.get? b = some o → h'.get? b = some o) → h'.get? e = some (excO C t1) → h.objs.size ≤ h'.objs.size → Q .none ⟨h', g, d, t, os⟩) :
    wpAny (model prog w) A (call (.ref u) rest) Q E ⟨h, g, d, t, os⟩ := by
  refine wpAny_call (codeAny_of_tree ?_)
  show wpAny _ A.in1 (callAny (.ref u) ⟨rest, []⟩) _ _ _
  simp only [callAny]
  refine wpAny_bind (wpAny_load hu ?_)
  simp only [kxs_mw, show (Value.type "method-wrapper" == Value.type "method" || Value.type "method-wrapper" == Value.type "builtin_function_or_method" || Value.type "method-wrapper" == Value.type "method-wrapper") = true by decide, if_true]
  refine KFB.if_so (by decide) ?_
  refine wpAny_bind (check_bound_init F.excBase_ValueError.toExcCallFacts hC he rfl ?_)
  refine wpAny_bind (wpAny_pure (wpAny_pure ?_))
  refine ⟨plainId_quiet F.excBase_ValueError.init.plain _, codeAny_builtin F.excBase_ValueError.initEntry ?_⟩
  refine exc_init_tree (cls := .ref C) (t0 := t0) (dv := none) (c2 := .none) (c3 := .none) (b4 := .bool false) he hrest fun h' k hx ht => hq h' h.objs.size k hx (Nat.le_of_lt (Heap.lt_size ht))
end
section
variable {prog : Program} {w : World} {A : Around} {E : Value → Shared → Prop} {R : Result → Shared → Prop} {s : Shared} {K : Frag} {mg : Str → Option Value} {C fI : Addr} {nm : Str}
theorem ldC {M : Model} {s : Shared} {env : Env} {m : Str → Option Value} {x : Str} {pos : Pos} {v : Value} {Q : Value → Shared → Prop} {A : Around} {E : Value → Shared → Prop} (hn : s.heap.Ns env.locals m) (hv : m x = some v) (h : Q v s)
    (hk : env.scope.kind = .function := by rfl) (hl : env.kindOf x = some .local := by rfl) (hd : (x == ("__debug__" : Str)) = false := by decide) : wpAny M A (eval (.Name x pos) env) Q E s := wpAny_Name (wpAny_loadName_local hk hl hn hv h) hd
theorem init (T : Txt prog K mg nm C fI) {x t0 : Addr} {v : Value} {mb : Str → Option Value} (X : K.In s.heap) (hg : s.heap.Ns mainGlobals mg) (hb : s.heap.Ns builtinsNs mb) (hbv : ∀ y : Str, y ≠ "__name__" → mb y = bootBuiltins y)
    (hlim : s.heap.NoLimit) (hx : s.heap.get? x = some (excO C t0)) (hnx : K.lookup x = none) (hroom : A.depth < recursionLimit)
    (hq : ∀ h' tk dx t1, InitEnd s.heap h' x C dx t1 v → R (.ok (.ret .none)) { s with heap := h', toks := tk }) :
    codeAny (model prog w) A (.call (.ref fI) ⟨[.ref x, v], []⟩) R s := by
  obtain ⟨oc, od, doc, pm, an, ct, osl, cda, cc, qual, p1, p2, msg, q1, q2, q3, q4, q5, q6, q7, q8, q9, q10, cl, cld, csl, ccl, cdd, vs, ccs, file, tf, lk, hcd, hcell, hcode, hvs, hfile, hrd⟩ := T.fn
  obtain ⟨pl, hpl⟩ := hrd s.heap.objs.size
  obtain ⟨cn, q, N, bs, bm, sn, sub, ab, col, dd, k0, k1, k2, k3, k5, hC, hbm⟩ := T.cls
  have hcl : clsIn K C = some { name := cn, bases := bs, mro := .ref C :: bm, ns := N, qualname := q, hasDict := true, slotNames := sn, subclasses := sub, abstract := ab, collection := col, hasDel := false } := by unfold clsIn; rw [hC] <;> rfl
  refine ks_codeAny_call_defAt (fd := ksFn "__init__" qual (iA p1 p2) (iB msg q1 q2 q3 q4 q5 q6 q7 q8 q9 q10) iS .none .none doc pm an (.ref cda) ct cc) (body := iB msg q1 q2 q3 q4 q5 q6 q7 q8 q9 q10) (binds := [("self", .ref x), ("field", v)]) hroom (X _ _ lk) rfl hlim (codeRec_of X hcd) rfl
    (BindsTo.of_eq (by first | rfl | with_unfolding_all rfl)) (show ∀ y ∈ iS.names, y.2 ≠ .cell by decide) (by intro y hy; rcases List.mem_cons.mp hy with rfl | hy <;> first | rfl | (rcases List.mem_cons.mp hy with rfl | hy <;> first | rfl | cases hy)) (fun h₁ hns k => ?_) rfl rfl rfl
  have X₁ : K.In h₁ := X.keeps k
  have hx₁ := k _ _ hx
  have hxL : s.heap.objs.size ≠ x := Nat.ne_of_gt (Heap.lt_size hx)
  have hxC : x ≠ C := fun z => by
    have y := X _ _ hC
    rw [← z, hx] at y
    cases y
  show PySem.wpAt (model prog w) _ _ (execs (iB msg q1 q2 q3 q4 q5 q6 q7 q8 q9 q10) (ksEnv qual iS s.heap.objs.size fI (.ref cda) cc)) _ _ _
  refine ks_wpAt_execs_cons (ks_wpAt_Expr_any (ks_wpAt_MethodCall (pl := pl) ?_ hpl))
  refine ks_wpAt_super_base (env := ksEnv qual iS s.heap.objs.size fI (.ref cda) cc) rfl rfl rfl rfl (X₁ _ _ lk) rfl rfl rfl (X₁ _ _ hcode) rfl hvs hfile T.top ?_
  refine ks_loadName_global rfl rfl (loadGlobal_builtin (env := ksEnv qual iS s.heap.objs.size fI (.ref cda) cc) (hg.keeps k) T.gS (hb.keeps k) ((hbv _ (by decide)).trans PyProof.Rows.Boot.«super») ⟨rfl, ?_⟩)
  refine wpAny_loadName_free (env := ksEnv qual iS s.heap.objs.size fI (.ref cda) cc) rfl rfl rfl ⟨_, X₁ _ _ hcell, rfl⟩ ?_
  refine wpAny_loadName_local (env := ksEnv qual iS s.heap.objs.size fI (.ref cda) cc) (v := .ref x) rfl rfl hns (by first | rfl | with_unfolding_all rfl | kernel_rfl) ?_
  refine ks_wpAny_isType_cls (X₁ _ _ hC) rfl ⟨rfl, ?_⟩
  refine ks_wpAny_call_super (X₁ _ _ hC) rfl hx₁ rfl (fun c e => nomatch e) (looks_mroIn X₁ T.own) (fun h₂ hso k₂ => ?_)
  have X₂ : K.In h₂ := X₁.keeps k₂
  have hx₂ := k₂ _ _ hx₁
  have I₂ : InstAt h₂ x (excO C t0) C none := ⟨hx₂, rfl, rfl, trivial⟩
  have hm := T.sup
  unfold ks_superIn at hm
  rw [hcl] at hm
  refine kxs_getMethod kxs_ValueError hso (looks_opaque X₂ T.op) (l₀ := .ref C :: bm) ((looks_clsIn X₂ hcl).andThen .now) rfl X₂ hm (I₂.type.andThen (looks_subIn X₂ T.sVE)) hxC rfl ?_
  have k₁₂ : ∀ b o, h₁.get? b = some o → (h₂.push (kxs_mw "ValueError.__init__" x)).get? b = some o := fun b o e => Heap.get?_push_of_some _ (k₂ b o e)
  have hu : (h₂.push (kxs_mw "ValueError.__init__" x)).get? h₂.objs.size = some (kxs_mw "ValueError.__init__" x) := Heap.get?_push_at rfl rfl
  have sz₂ : s.heap.objs.size ≤ (h₂.push (kxs_mw "ValueError.__init__" x)).objs.size := by
    have a : h₂.objs.size < (h₂.push (kxs_mw "ValueError.__init__" x)).objs.size := Heap.lt_size hu
    have b : h₁.objs.size < h₂.objs.size := Heap.lt_size hso
    have c : s.heap.objs.size < h₁.objs.size := hns.lt
    omega
  generalize h₂.push (kxs_mw "ValueError.__init__" x) = h₂' at k₁₂ hu sz₂ ⊢
  have X₂' : K.In h₂' := X₁.keeps k₁₂
  show wpAny _ _ (callWith q5 (.ref h₂.objs.size) [] (backTo q5 (starEach (.Constant (.str msg) 0 q4 :: []) (ksEnv qual iS s.heap.objs.size fI (.ref cda) cc))) []) _ _ _
  rw [show starEach (.Constant (.str msg) 0 q4 :: []) (ksEnv qual iS s.heap.objs.size fI (.ref cda) cc) = (false, eval (.Constant (.str msg) 0 q4) (ksEnv qual iS s.heap.objs.size fI (.ref cda) cc)) :: starEach [] (ksEnv qual iS s.heap.objs.size fI (.ref cda) cc) from rfl]
  refine kxs_callWith (i := "ValueError.__init__") (x := x) rfl (evalArgs_plain (Calls.spliced_cons (wpAny_Constant_str (env := ksEnv qual iS s.heap.objs.size fI (.ref cda) cc) (x := msg) (k := 0) (pos := q4) (Calls.spliced_nil ⟨hu, ?_⟩))))
  refine call_mw (X₂' _ _ hC) (k₁₂ _ _ hx₁) hu (one_size _) fun h₃ t1 k₃ hx₃ sz₃ => ?_
  have X₃ : K.In h₃ := kept_but X₂' hnx k₃
  have hns₃ : h₃.Ns s.heap.objs.size (fun y => List.lookup y [(PySem.Str.ofString "self", Value.ref x), (PySem.Str.ofString "field", v)].reverse) := by
    obtain ⟨oL, es, ep, hL, r⟩ := hns
    exact ⟨oL, es, ep, k₃ _ _ hxL (k₁₂ _ _ hL), r⟩
  -- self.field = field
  show PySem.wpAt _ _ _ (execs [.Assign [.Attribute (.Name "self" q7) "field" q8] (.Name "field" q9) q10] (ksEnv qual iS s.heap.objs.size fI (.ref cda) cc)) _ _ _
  refine ks_wpAt_execs_cons (wpAt_of_wpAny (plainObj_wpAny_Assign_Attribute ?_))
  refine ldC (env := ksEnv qual iS s.heap.objs.size fI (.ref cda) cc) (v := v) hns₃ (by first | rfl | with_unfolding_all rfl | kernel_rfl) (ldC (env := ksEnv qual iS s.heap.objs.size fI (.ref cda) cc) (v := .ref x) hns₃ (by first | rfl | with_unfolding_all rfl | kernel_rfl) ?_)
  refine set_plain X₃ (ox := excO C t1) (od := none) ⟨hx₃, rfl, rfl, trivial⟩ T.sa ?_
  refine exc_osa X₃ hx₃ hcl (show refsVE (.ref C :: bm) = true from hbm) rfl T.noN (fun h₄ tk₄ dx k₄ dn dne hx₄ hn₄ => ?_)
  refine wpAt_of_wpAny (wpAny_execs_nil (hq h₄ tk₄ dx t1 ⟨fun b o hb e => k₄ b o hb (k₃ b o hb (k₁₂ b o (k b o e))), hx₄, Nat.le_trans sz₂ (Nat.le_trans sz₃ dn), dne, hn₄⟩))
theorem made (T : Txt prog K mg nm C fI) {v : Value} {mb : Str → Option Value} (X : K.In s.heap) (hg : s.heap.Ns mainGlobals mg) (hb : s.heap.Ns builtinsNs mb) (hbv : ∀ y : Str, y ≠ "__name__" → mb y = bootBuiltins y) (hlim : s.heap.NoLimit)
    (hroom : A.depth + 1 < recursionLimit) (hq : ∀ h' tk e d, OwnMade s.heap h' e C d v → R (.ok (.ret (.ref e))) { s with heap := h', toks := tk }) :
    codeAny (model prog w) A (.call (.ref C) ⟨[v], []⟩) R s := by
  obtain ⟨cn, q, N, bs, bm, sn, sub, ab, col, dd, k0, k1, k2, k3, k5, hC, hbm⟩ := T.cls
  obtain ⟨hp, g, dr, tk, os⟩ := s
  have k : ∀ b o, hp.get? b = some o → ((hp.push (kdv_tup [v])).push (excO C hp.objs.size)).get? b = some o := fun b o e => Heap.get?_push_of_some _ (Heap.get?_push_of_some _ e)
  have hget : ((hp.push (kdv_tup [v])).push (excO C hp.objs.size)).get? (hp.objs.size + 1) = some (excO C hp.objs.size) := by heap_get
  have hnx : K.lookup (hp.objs.size + 1) = none := by
    cases e : K.lookup (hp.objs.size + 1) with
    | none => rfl
    | some o =>
      have z : hp.get? (hp.objs.size + 1) = some o := X _ _ e
      exact absurd (Nat.lt_of_succ_lt (Heap.lt_size z)) (Nat.lt_irrefl _)
  refine call_own F.excBase_ValueError (fun X => refsVE_contains X bm hbm) (X _ _ hC) (looks_findIn X T.iC) (fun self => bind_fn X self T.tC) (one_size v) ?_
  refine init (s := ⟨(hp.push (kdv_tup [v])).push (excO C hp.objs.size), g, dr, tk, os⟩) T (X.keeps k) (hg.keeps k) (hb.keeps k) hbv (hlim.keeps k) hget hnx ?_ fun h' tk' dx t1 ⟨k', hx, dn, dne, hns⟩ => ?_
  · show A.depth + 1 < recursionLimit
    exact hroom
  · have old : ∀ b o, hp.get? b = some o → h'.get? b = some o := fun b o e => k' b o (Nat.ne_of_lt (Nat.lt_succ_of_lt (Heap.lt_size e))) (k b o e)
    have z : hp.objs.size + 1 + 1 ≤ dx := by
      first
        | (simpa only [Heap.size_push] using dn)
        | exact dn
        | (have q := dn; rw [Heap.size_push, Heap.size_push] at q; exact q)
    exact ⟨rfl, hq h' tk' (hp.objs.size + 1) dx ⟨old, Nat.le_succ _, ⟨_, _, hx, rfl, rfl, rfl, rfl⟩, Nat.le_trans (Nat.le_trans (Nat.le_succ _) (Nat.le_succ _)) z, dne, hns⟩⟩
end
end Exo
end PySem
namespace Com
open PySem PySem.Spec PyProof.Rows L2
end Com
set_option Elab.async false
set_option linter.all false
set_option maxRecDepth 100000
set_option maxHeartbeats 4000000
namespace Com
open PySem PySem.Spec PyProof.Rows L2
/-- within a def that lets out what E allows: a callee of the same wish -/
theorem passE {P : Program} {w : World} {K : PySem.W.Frag} {mg : Str → Option Value} {base : Heap} {N : List Str} {qual : Str} {scope : Scope} {f : Addr} {cd : Value} {A : Around} {outer : List Env} {s : Shared} {H : Hp} {E : XK} :
    Passes (L2.CX P w) (cxOf (L2.CX P w) P w K mg base N qual scope f cd A outer s H E) E :=
  passes_call (X := cxOf (L2.CX P w) P w K mg base N qual scope f cd A outer s H E) (takes_of rfl rfl rfl rfl) fun _ _ _ _ h => h
section
variable {P : Program} {w : World} {K : PySem.W.Frag} {mg : Str → Option Value} {base : Heap} {x qual : Str} {C : Addr} {st : Stmt} {ps N : List Str} {k : Nat} {sp : Sp}
theorem DefAt.okX (D : DefAt K mg x st ps) (S : FnScope N ps (defScope st)) (len : ∀ vs H Q E, sp vs H Q E → vs.length = ps.length)
    (hbody : ∀ (f : Addr) (cdv : Value) (A : Around) (outer : List Env) (s : Shared) (H : Hp) (vs : List V) (Q : VK) (E : XK), Room k (A.deeper (envOfC x (defScope st) s.heap.objs.size f cdv)) → sp vs H Q E →
      ∃ t, PSs (cxOf (L2.CX P w) P w K mg base N x (defScope st) f cdv A outer s H E) (defBody st) t ∧ t { nx := fun _ H' => Q .non H', rt := Q } (start N vs) H) : DefOk P w K mg base (L2.CX P w) (k + 1) x sp := by
  obtain ⟨f, fd, F, m, b⟩ := D.ex
  exact ⟨f, raw0 (F.okX S len (fun cdv A outer s H vs Q E hr h => hbody f cdv A outer s H vs Q E hr h)) b, m, F.kp⟩
theorem MethAt.fnX (D : MethAt K C x qual st ps) (S : FnScope N ps (defScope st)) (len : ∀ vs H Q E, sp vs H Q E → vs.length = ps.length)
    (hbody : ∀ (f : Addr) (cdv : Value) (A : Around) (outer : List Env) (s : Shared) (H : Hp) (vs : List V) (Q : VK) (E : XK), Room k (A.deeper (envOfC qual (defScope st) s.heap.objs.size f cdv)) → sp vs H Q E →
      ∃ t, PSs (cxOf (L2.CX P w) P w K mg base N qual (defScope st) f cdv A outer s H E) (defBody st) t ∧ t { nx := fun _ H' => Q .non H', rt := Q } (start N vs) H) : MethOk P w K mg base (L2.CX P w) (k + 1) C x sp := by
  obtain ⟨f, fd, F, m, b⟩ := D.ex
  exact ⟨f, raw0 (F.okX S len (fun cdv A outer s H vs Q E hr h => hbody f cdv A outer s H vs Q E hr h)) b, m⟩
end
end Com
set_option Elab.async false
set_option linter.all false
set_option maxRecDepth 100000
set_option maxHeartbeats 4000000
namespace Com
open PySem PySem.Spec PyProof.Rows L2 PySem.W
end Com
namespace Com
open PySem PySem.Spec PyProof.Rows L2 PySem.W
end Com
namespace Com
open PySem PySem.Spec PyProof.Rows L2
end Com
set_option Elab.async false
set_option linter.all false
set_option maxRecDepth 100000
set_option maxHeartbeats 4000000
namespace Gn
open PySem PySem.Spec PyProof.Rows L2 Com
def spFlow (K : PySem.W.Frag) : Sp := fun vs H Q _ => ∃ (a : Addr) (ns : List Int) (k : Nat), vs = [.ref a, .int (k : Int)] ∧ SqL K H a (ns.map V.int) ∧ ns.length ≤ 63 ∧ k ≤ 1000 ∧
  ∀ p H', H p = none → FlowAt H' p → But p H H' → Q (.ref p) H'
def spPick : Sp := fun vs H Q _ => ∃ (a : Addr) (size : Int), vs = [.ref a, .int size] ∧ FlowAt H a ∧ 1 ≤ size ∧ size < 2 ^ 200 ∧
  ∀ d H', 0 ≤ d → d < size → FlowAt H' a → But a H H' → Q (.int d) H'
def spPlain (K : PySem.W.Frag) : Sp := fun vs H Q _ => ∃ x b, vs = [x] ∧ PlainI K H x b ∧ Q (.bl b) H
def spWithin (K : PySem.W.Frag) : Sp := fun vs H Q _ => ∃ x lo hi b, vs = [x, .int lo, .int hi] ∧ InR K H x lo hi b ∧ Q (.bl b) H
/-- a side: a tuple of 1 to 4 integers from 1 to 4; the answer for any value -/
def SideV (K : PySem.W.Frag) (H : Hp) (x : V) (b : Bool) : Prop :=
  (∃ (a : Addr) (xs : List V) (bs : List Bool), x = .ref a ∧ H a = some (.tup xs) ∧ bs.length = xs.length ∧ (∀ (i : Nat) v c, xs[i]? = some v → bs[i]? = some c → InR K H v 1 4 c) ∧ b = (decide (1 ≤ xs.length) && decide (xs.length ≤ 4) && bs.all id)) ∨
  (∃ t, TyX K H x t ∧ PySem.W.kitOne K t (.type "tuple") = some false ∧ b = false)
def spSide (K : PySem.W.Frag) : Sp := fun vs H Q _ => ∃ x b, vs = [x] ∧ SideV K H x b ∧ ∀ H', Same H H' → Q (.bl b) H'
def exF (i o : Addr) (m : Int) : List (Str × V) := [("ins", .ref i), ("outs", .ref o), ("middles", .int m)]
/-- an exchange at p: its sides at i, o -/
def ExO (C : Addr) (H : Hp) (p i o : Addr) (m : Int) : Prop := ∃ dx, H p = some (.ins C dx (exF i o m))
def Good (ds : List Int) : Prop := 1 ≤ ds.length ∧ ds.length ≤ 4 ∧ ∀ d ∈ ds, 1 ≤ d ∧ d ≤ 4
def Tup (H : Hp) (i : Addr) (ds : List Int) : Prop := H i = some (.tup (ds.map V.int))
theorem Good.side {K : PySem.W.Frag} {H : Hp} {i : Addr} {ds : List Int} (g : Good ds) (h : Tup H i ds) : SideV K H (.ref i) true := by
  obtain ⟨g1, g2, g3⟩ := g
  refine .inl ⟨i, _, List.replicate ds.length true, rfl, h, by simp, fun j v c h1 h2 => ?_, ?_⟩
  · rw [List.getElem?_map] at h1
    cases e : ds[j]? with
    | none =>
      rw [e] at h1
      cases h1
    | some z =>
      rw [e] at h1
      cases h1
      have hc : c = true := by
        have := List.mem_of_getElem? h2
        exact (List.mem_replicate.mp this).2
      subst hc
      have hz := g3 z (List.mem_of_getElem? e)
      exact InR.good hz.1 hz.2
  · rw [List.length_map, decide_eq_true g1, decide_eq_true g2]
    simp
/-- what the top has made of the class -/
structure ExT (K : PySem.W.Frag) (mg : Str → Option Value) (C : Addr) : Prop where
  cl : Cls K C
  nI : NoAttr K C "ins"
  nO : NoAttr K C "outs"
  nM : NoAttr K C "middles"
  ca : PySem.W.findIn K (.ref C) "__class__" = some (some (.builtin "object.__class__"))
  cn : PySem.W.specialIn K (.builtin "object.__class__") "__get__" = some (some (.builtin "getset_descriptor.__get__"))
  ct : PySem.W.takesIn K (.builtin "object.__class__") = some true
  cm : PySem.W.mroIn K C (.type "object") = some true
  kS : PySem.W.kitOne K (.ref C) (.ref C) = some true
  kT : PySem.W.kitOne K (.type "tuple") (.ref C) = some false
  kI : PySem.W.kitOne K (.type "int") (.ref C) = some false
  fS : PySem.W.notFirst K C (.ref C) = true
  fT : PySem.W.notFirst K C (.type "tuple") = true
  fI : PySem.W.notFirst K C (.type "int") = true
  g_Exchange : mg "Exchange" = some (.ref C)
def Old (p : Addr) (H H' : Hp) : Prop := ∀ b o, H b = some o → b ≠ p → H' b = some o
def spInit (C : Addr) : Sp := fun vs H Q _ => ∃ (p dx i o : Addr) (ds es : List Int) (m : Int), vs = [.ref p, .ref i, .ref o, .int m] ∧ H p = some (.ins C dx []) ∧ Tup H i ds ∧ Good ds ∧ Tup H o es ∧ Good es ∧ 1 ≤ m ∧ m ≤ 7 ∧
  ∀ H', ExO C H' p i o m → Old p H H' → Q .non H'
theorem no1 : ¬ (("ins" : Str) = "outs") := by decide +kernel
theorem no2 : ¬ (("ins" : Str) = "middles") := by decide +kernel
theorem no3 : ¬ (("outs" : Str) = "middles") := by decide +kernel
theorem exF_put (i o : Addr) (m : Int) : putF "middles" (.int m) (putF "outs" (.ref o) (putF "ins" (.ref i) [])) = exF i o m := by
  rw [putF_nil, putF_ne no1, putF_nil, putF_ne no2, putF_ne no3, putF_nil]
  rfl
theorem Same.tup {H H' : Hp} (s : Same H H') {i : Addr} {ds : List Int} (h : Tup H i ds) : Tup H' i ds := s _ _ h
theorem Same.exO {C : Addr} {H H' : Hp} (s : Same H H') {p i o : Addr} {m : Int} (h : ExO C H p i o m) : ExO C H' p i o m := let ⟨dx, e⟩ := h; ⟨dx, s _ _ e⟩
theorem new_ex {C : Addr} {H : Hp} {Q : VK} {E : XK} {i o : Addr} {ds es : List Int} {m : Int} (hi : Tup H i ds) (gi : Good ds) (ho : Tup H o es) (go : Good es) (m1 : 1 ≤ m) (m2 : m ≤ 7)
    (q : ∀ x H', H x = none → ExO C H' x i o m → Same H H' → Q (.ref x) H') : ∀ x dx, H x = none → H dx = none → dx ≠ x →
    spInit C (.ref x :: [.ref i, .ref o, .int m]) (upd (upd H dx (.own x)) x (.ins C dx [])) (fun v H2 => v = .non ∧ Q (.ref x) H2) E := by
  intro x dx hx hdx ne
  refine ⟨x, dx, i, o, ds, es, m, rfl, upd_same, ?_, gi, ?_, go, m1, m2, fun H' ex old => ⟨rfl, q x H' hx ex (Same.made hx hdx old)⟩⟩
  · show upd _ _ _ i = _
    rw [upd_ne (ne_of_none hi hx), upd_ne (ne_of_none hi hdx)]
    exact hi
  · show upd _ _ _ o = _
    rw [upd_ne (ne_of_none ho hx), upd_ne (ne_of_none ho hdx)]
    exact ho
/-- p an exchange whose sides at i, o are ds, es -/
structure ExAt (C : Addr) (H : Hp) (p i o : Addr) (ds es : List Int) (m : Int) : Prop where
  ob : ExO C H p i o m
  ti : Tup H i ds
  gi : Good ds
  to : Tup H o es
  go : Good es
  m1 : 1 ≤ m
  m2 : m ≤ 7
theorem ExAt.same {C : Addr} {H H' : Hp} {p i o : Addr} {ds es : List Int} {m : Int} (s : Same H H') (h : ExAt C H p i o ds es m) : ExAt C H' p i o ds es m := ⟨Same.exO s h.ob, Same.tup s h.ti, h.gi, Same.tup s h.to, h.go, h.m1, h.m2⟩
theorem small200 {x : Int} (h : x ≤ 1000) : x < 2 ^ 200 := by
  have : (1000 : Int) < 2 ^ 200 := by decide
  omega
theorem But.old {a : Addr} {H H' : Hp} (h : But a H H') : Old a H H' := fun b o e ne => by rw [h b ne]; exact e
theorem Old.trans {a : Addr} {H H1 H2 : Hp} (h : Old a H H1) (g : Old a H1 H2) : Old a H H2 := fun b o e ne => g b o (h b o e ne) ne
def Kept (H H' : Hp) : Prop := (∀ b o, H b = some o → (∀ xs, o ≠ .lst xs) → H' b = some o) ∧ ∀ b xs, H b = some (.lst xs) → ∃ ys, H' b = some (.lst ys)
theorem Kept.trans {H H1 H2 : Hp} (a : Kept H H1) (b : Kept H1 H2) : Kept H H2 := ⟨fun c o e n => b.1 c o (a.1 c o e n) n, fun c xs e => let ⟨ys, e1⟩ := a.2 c xs e; b.2 c ys e1⟩
theorem Kept.of {H H' : Hp} (s : Same H H') : Kept H H' := ⟨fun b o e _ => s b o e, fun b xs e => ⟨xs, s b _ e⟩⟩
theorem Kept.but {a : Addr} {H H' : Hp} (h : But a H H') (f : FlowAt H a) (f' : FlowAt H' a) : Kept H H' := by
  obtain ⟨n, c, r, e0⟩ := f
  obtain ⟨n', c', r', e1⟩ := f'
  refine ⟨fun b o e ne => ?_, fun b xs e => ?_⟩
  · rw [h b (fun z => by rw [z, e0] at e; cases e; exact ne _ rfl)]
    exact e
  · by_cases z : b = a
    · rw [z]
      exact ⟨_, e1⟩
    · rw [h b z]
      exact ⟨xs, e⟩
theorem TyX.kept {K : PySem.W.Frag} {H H' : Hp} (s : Kept H H') {x : V} {t : Value} (h : TyX K H x t) : TyX K H' x t := by
  cases h with
  | base h =>
    refine .base ?_
    cases h with
    | non => exact .non
    | bl x => exact .bl x
    | int i => exact .int i
    | str x => exact .str x
    | flt x => exact .flt x
    | lst e => obtain ⟨ys, e1⟩ := s.2 _ _ e; exact .lst e1
    | frz e => exact .frz (s.1 _ _ e fun _ z => by cases z)
    | tup e => exact .tup (s.1 _ _ e fun _ z => by cases z)
    | dK e => exact .dK (s.1 _ _ e fun _ z => by cases z)
    | dT e => exact .dT (s.1 _ _ e fun _ z => by cases z)
    | ins e cl ha hn htk hm => exact .ins (s.1 _ _ e fun _ z => by cases z) cl ha hn htk hm
  | byt b => exact .byt b
  | set e => exact .set (s.1 _ _ e fun _ z => by cases z)
  | kList e c => exact .kList e c
  | kTuple e c => exact .kTuple e c
  | kDict e c => exact .kDict e c
  | fTuple e => exact .fTuple (s.1 _ _ e fun _ z => by cases z)
  | fDict e => exact .fDict (s.1 _ _ e fun _ z => by cases z)
theorem PlainI.kept {K : PySem.W.Frag} {H H' : Hp} (s : Kept H H') {x : V} {b : Bool} (h : PlainI K H x b) : PlainI K H' x b := let ⟨t, b1, ty, r⟩ := h; ⟨t, b1, TyX.kept s ty, r⟩
theorem InR.kept {K : PySem.W.Frag} {H H' : Hp} (s : Kept H H') {x : V} {lo hi : Int} {b : Bool} (h : InR K H x lo hi b) : InR K H' x lo hi b := h.elim .inl fun ⟨p, e⟩ => .inr ⟨PlainI.kept s p, e⟩
theorem SideV.kept {K : PySem.W.Frag} {H H' : Hp} (s : Kept H H') {x : V} {b : Bool} (h : SideV K H x b) : SideV K H' x b := by
  rcases h with ⟨a, xs, bs, e, hx, hl, hin, hb⟩ | ⟨t, ty, k, hb⟩
  · exact .inl ⟨a, xs, bs, e, s.1 _ _ hx (fun _ z => by cases z), hl, fun i v c h1 h2 => InR.kept s (hin i v c h1 h2), hb⟩
  · exact .inr ⟨t, TyX.kept s ty, k, hb⟩
theorem Kept.old {a : Addr} {H H' : Hp} (h : Old a H H') (f : FlowAt H a) (f' : FlowAt H' a) : Kept H H' := by
  obtain ⟨n, c, r, e0⟩ := f
  obtain ⟨n', c', r', e1⟩ := f'
  refine ⟨fun b o e ne => h b o e (fun z => by rw [z, e0] at e; cases e; exact ne _ rfl), fun b xs e => ?_⟩
  by_cases z : b = a
  · rw [z]
    exact ⟨_, e1⟩
  · exact ⟨xs, h b _ e z⟩
def Ins (K : PySem.W.Frag) (H : Hp) (xs : List V) (bs : List Bool) : Prop := bs.length = xs.length ∧ ∀ (i : Nat) v c, xs[i]? = some v → bs[i]? = some c → InR K H v 1 4 c
section
variable {K : PySem.W.Frag} {H : Hp}
theorem Ins.one {v : V} {c : Bool} (h : InR K H v 1 4 c) : Ins K H [v] [c] := by
  refine ⟨rfl, fun i x d e1 e2 => ?_⟩
  cases i with
  | zero =>
    cases e1
    cases e2
    exact h
  | succ n => simp at e1
end
theorem FlowAt.same {a : Addr} {H H' : Hp} (f : FlowAt H a) (s : Same H H') : FlowAt H' a := let ⟨x, y, z, e⟩ := f; ⟨x, y, z, s _ _ e⟩
theorem FlowAt.ne {a b : Addr} {H : Hp} (f : FlowAt H a) (h : H b = none) : b ≠ a := fun z => by
  obtain ⟨x, y, r, e⟩ := f
  rw [z, e] at h
  cases h
theorem tup_ne {a b : Addr} {H : Hp} {xs : List V} (f : FlowAt H a) (h : H b = some (.tup xs)) : b ≠ a := fun z => by
  obtain ⟨x, y, r, e⟩ := f
  rw [z, e] at h
  cases h
theorem at_st {t : TS} {D : Ends} {σ σ' : L2.St} {H : Hp} (e : σ = σ') (h : t D σ' H) : t D σ H := by subst e; exact h
theorem same_old {a : Addr} {H H' : Hp} (s : Same H H') : Old a H H' := fun b o e _ => s b o e
theorem sqlS {K : PySem.W.Frag} {H H' : Hp} {a : Addr} {xs : List V} (h : SqL K H a xs) (e : Same H H') : SqL K H' a xs :=
  h.elim (fun h => .inl (h.elim (fun h => .inl (e _ _ h)) fun ⟨o, h⟩ => .inr ⟨o, e _ _ h⟩)) fun h => .inr h
end Gn
set_option Elab.async false
set_option linter.all false
set_option maxRecDepth 100000
set_option maxHeartbeats 4000000
namespace Gn
open PySem PySem.Spec PyProof.Rows L2 Com Sd StV
abbrev Frg := PySem.W.Frag
def NoTup (K : Frg) (H : Hp) (v : V) : Prop := ∃ t, TyX K H v t ∧ PySem.W.kitOne K t (.type "tuple") = some false
theorem NoTup.same {K : Frg} {H H' : Hp} (s : Same H H') {v : V} (h : NoTup K H v) : NoTup K H' v := let ⟨t, a, b⟩ := h; ⟨t, TyX.same s a, b⟩
/-- is_pair's answer for any value -/
def PairJ (K : Frg) (H : Hp) (n m : Nat) (v : V) (b : Bool) : Prop :=
  (∃ a x y b1 b2, v = .ref a ∧ H a = some (.tup [x, y]) ∧ InR K H x 0 ((n : Nat) - 1) b1 ∧ InR K H y 0 ((m : Nat) - 1) b2 ∧ b = (b1 && b2)) ∨
  (∃ a xs, v = .ref a ∧ H a = some (.tup xs) ∧ xs.length ≠ 2 ∧ b = false) ∨
  (NoTup K H v ∧ b = false)
theorem PairJ.same {K : Frg} {H H' : Hp} (s : Same H H') {n m : Nat} {v : V} {b : Bool} (h : PairJ K H n m v b) : PairJ K H' n m v b := by
  rcases h with ⟨a, x, y, b1, b2, e, h, i, j, z⟩ | ⟨a, xs, e, h, l, z⟩ | ⟨h, z⟩
  · exact .inl ⟨a, x, y, b1, b2, e, s _ _ h, i.same s, j.same s, z⟩
  · exact .inr (.inl ⟨a, xs, e, s _ _ h, l, z⟩)
  · exact .inr (.inr ⟨h.same s, z⟩)
def ascB (L : List PP) : Bool := decide ((L.map (·.1)).Pairwise (· < ·)) && decide (L.map (·.2)).Nodup
/-- is_load's answer for any value -/
def LoadJ (K : Frg) (H : Hp) (n m : Nat) (v : V) (b : Bool) : Prop :=
  (∃ a xs, v = .ref a ∧ H a = some (.tup xs) ∧ n < xs.length ∧ b = false) ∨
  (∃ (a : Addr) (xs : List V) (bs : List Bool), v = .ref a ∧ H a = some (.tup xs) ∧ xs.length ≤ n ∧ bs.length = xs.length ∧ (∀ (i : Nat) v c, xs[i]? = some v → bs[i]? = some c → PairJ K H n m v c) ∧ bs.all id = false ∧ b = false) ∨
  (∃ L, LoadV H v L ∧ L.length ≤ n ∧ (∀ p ∈ L, InP n m p) ∧ b = ascB L) ∨
  (NoTup K H v ∧ b = false)
theorem LoadJ.same {K : Frg} {H H' : Hp} (s : Same H H') {n m : Nat} {v : V} {b : Bool} (h : LoadJ K H n m v b) : LoadJ K H' n m v b := by
  rcases h with ⟨a, xs, e, h, l, z⟩ | ⟨a, xs, bs, e, h, l, l2, j, z⟩ | ⟨L, h, l, g, z⟩ | ⟨h, z⟩
  · exact .inl ⟨a, xs, e, s _ _ h, l, z⟩
  · exact .inr (.inl ⟨a, xs, bs, e, s _ _ h, l, l2, fun i v c a b => (j i v c a b).same s, z⟩)
  · exact .inr (.inr (.inl ⟨L, h.same s, l, g, z⟩))
  · exact .inr (.inr (.inr ⟨h.same s, z⟩))
def doorB (ds es : List Int) (S : List (List PP)) : Bool := decide (∀ d ∈ left ds (fs S), 0 ≤ d) && decide (∀ d ∈ left es (sn S), 0 ≤ d)
/-- is_standing's answer for any value -/
def StaJ (K : Frg) (H : Hp) (ds es : List Int) (mid : Int) (v : V) (b : Bool) : Prop :=
  (∃ a xs, v = .ref a ∧ H a = some (.tup xs) ∧ ((xs.length : Nat) : Int) ≠ mid ∧ b = false) ∨
  (∃ (a : Addr) (xs : List V) (bs : List Bool), v = .ref a ∧ H a = some (.tup xs) ∧ ((xs.length : Nat) : Int) = mid ∧ bs.length = xs.length ∧ (∀ (i : Nat) v c, xs[i]? = some v → bs[i]? = some c → LoadJ K H ds.length es.length v c) ∧ bs.all id = false ∧ b = false) ∨
  (∃ S, StaV H v S ∧ ((S.length : Nat) : Int) = mid ∧ (∀ L ∈ S, LoadOk ds.length es.length L) ∧ b = doorB ds es S) ∨
  (NoTup K H v ∧ b = false)
theorem StaJ.same {K : Frg} {H H' : Hp} (s : Same H H') {ds es : List Int} {mid : Int} {v : V} {b : Bool} (h : StaJ K H ds es mid v b) : StaJ K H' ds es mid v b := by
  rcases h with ⟨a, xs, e, h, l, z⟩ | ⟨a, xs, bs, e, h, l, l2, j, z⟩ | ⟨L, h, l, g, z⟩ | ⟨h, z⟩
  · exact .inl ⟨a, xs, e, s _ _ h, l, z⟩
  · exact .inr (.inl ⟨a, xs, bs, e, s _ _ h, l, l2, fun i v c a b => (j i v c a b).same s, z⟩)
  · exact .inr (.inr (.inl ⟨L, h.same s, l, g, z⟩))
  · exact .inr (.inr (.inr ⟨h.same s, z⟩))
def Rng (n m : Nat) (S : List (List PP)) : Prop := ∀ L ∈ S, ∀ p ∈ L, InP n m p
theorem Rng.of {ds es : List Int} {mid : Int} {S : List (List PP)} (g : StdOk ds es mid S) : Rng ds.length es.length S := fun L hL => (g.ld L hL).rng
def LisI (H : Hp) (a : Addr) (ds : List Int) : Prop := H a = some (.lst (ds.map V.int))
def newB (b : Bool) (H : Hp) (Q : VK) : Prop := ∀ H', Same H H' → Q (.bl b) H'
def openB (ds es : List Int) (S : List (List PP)) (p : PP) : Bool := decide (0 < (left ds (fs S)).getD p.1.toNat 0) && decide (0 < (left es (sn S)).getD p.2.toNat 0)
def opens (ds es : List Int) (S : List (List PP)) : List PP := (pairsL ds.length es.length).filter (openB ds es S)
/-- a load, as a list or as a tuple -/
def LoadX (H : Hp) (v : V) (L : List PP) : Prop := ∃ b us, v = .ref b ∧ (H b = some (.lst us) ∨ H b = some (.tup us)) ∧ PairsV H us L
def spIsFree : Sp := fun vs H Q _ => ∃ (v u : V) (L : List PP) (p : PP), vs = [v, u] ∧ LoadX H v L ∧ L.length ≤ 500 ∧ PairV H u p ∧ newB (freeB L p) H Q
theorem LoadV.x {H : Hp} {v : V} {L : List PP} (h : LoadV H v L) : LoadX H v L := let ⟨b, us, e, x, p⟩ := h; ⟨b, us, e, .inr x, p⟩
theorem atI_at {ds : List Int} {n : Nat} {i x : Int} (e : i = (n : Int)) (h : ds[n]? = some x) : atI (ds.map V.int) i = some (V.int x) := by
  subst e
  exact atI_nat (by rw [List.getElem?_map, h]; rfl)
theorem ixN_at {ds : List Int} {n : Nat} {i x : Int} (e : i = (n : Int)) (h : ds[n]? = some x) : ixN (ds.map V.int).length i = some n := by
  subst e
  have hl : n < ds.length := (List.getElem?_eq_some_iff.mp h).1
  unfold ixN
  rw [if_pos (by omega), if_pos (by rw [List.length_map]; omega)]
  simp
theorem set_int (ds : List Int) (n : Nat) (y : Int) : (ds.map V.int).set n (V.int y) = (ds.set n y).map V.int := by rw [List.map_set]
def iSeq (K : Frg) (tl : TE) : TI := fun σ H R => tl σ H fun x H1 => ∃ a, x = .ref a ∧ ((∃ xs, SqL K H1 a xs ∧ R (Itl K a) H1) ∨ (∃ xs, SqT K H1 a xs ∧ R (Itt K a) H1))
theorem pi_seq {X : Cx} (K : Frg) {tg l : Expr} {tl : TE} (hl : PE X l tl) (hK : X.K = K := by rfl) : PI X tg l (iSeq K tl) := by
  subst hK
  refine ⟨fun pins s σ H R I h => ?_⟩
  refine thn (hl.run pins s σ H _ I h) fun v s1 ⟨x, H1, I1, r1, q1⟩ => ?_
  obtain ⟨a, e, q1⟩ := q1
  subst e
  cases r1
  rcases q1 with ⟨xs, hq, q⟩ | ⟨xs, hq, q⟩
  · obtain ⟨its, rv, p, hz⟩ := I1.list hq
    refine wpAny_pyIter_list p.isList ?_
    refine ⟨s1.heap.objs.size, [s1.heap.objs.size], _, _, H1, rfl, I1.kept (t' := s1.toks) fun b o e => Heap.get?_push_of_some _ e, turn_list a _, ⟨_, Heap.get?_push_size _ rfl, rfl, rfl⟩, fun b hb => ?_, q⟩
    have e : b = s1.heap.objs.size := by simpa using hb
    subst e
    exact I1.fpOk (Nat.le_refl _) (I1.hok.fresh (Nat.le_refl _))
  · obtain ⟨its, rv, p, hz⟩ := I1.tuple hq
    refine wpAny_pyIter_tuple (show s1.heap.IsTuple a its.toArray from p) ?_
    refine ⟨s1.heap.objs.size, [s1.heap.objs.size], _, _, H1, rfl, I1.kept (t' := s1.toks) fun b o e => Heap.get?_push_of_some _ e, turn_tuple a _, ⟨_, Heap.get?_push_size _ rfl, rfl, rfl⟩, fun b hb => ?_, q⟩
    have e : b = s1.heap.objs.size := by simpa using hb
    subst e
    exact I1.fpOk (Nat.le_refl _) (I1.hok.fresh (Nat.le_refl _))
/-- the new list of a comprehension grows: all else stays -/
theorem Same.grow {H H1 : Hp} {D : Addr} {o : HO} (hD : H D = none) (s : Same H H1) : Same H (upd H1 D o) := fun b u e => by
  rw [upd_ne (ne_of_none e hD)]
  exact s b u e
end Gn
namespace Gn
open PySem PySem.Spec PyProof.Rows L2 Com Sd StV
theorem pairsL_iff {n m : Nat} {p : PP} : p ∈ pairsL n m ↔ InP n m p := by
  unfold pairsL rowL InP
  rw [List.mem_flatMap]
  constructor
  · rintro ⟨i, hi, hp⟩
    obtain ⟨j, hj, rfl⟩ := List.mem_map.mp hp
    rw [List.mem_range] at hi hj
    refine ⟨?_, ?_, ?_, ?_⟩ <;> simp <;> omega
  · rintro ⟨h1, h2, h3, h4⟩
    refine ⟨p.1.toNat, List.mem_range.mpr (by omega), List.mem_map.mpr ⟨p.2.toNat, List.mem_range.mpr (by omega), ?_⟩⟩
    exact Prod.ext (by show ((p.1.toNat : Nat) : Int) = p.1; omega) (by show ((p.2.toNat : Nat) : Int) = p.2; omega)
theorem pairsL_in {n m : Nat} {p : PP} (h : p ∈ pairsL n m) : InP n m p := pairsL_iff.mp h
end Gn
set_option Elab.async false
set_option linter.all false
set_option maxRecDepth 100000
set_option maxHeartbeats 4000000
namespace Gn
open PySem PySem.Spec PyProof.Rows L2 Com Sd StV
def spLoads : Sp := fun vs H Q _ => ∃ (a i o : Addr) (ds es : List Int) (m many : Int), vs = [.ref a, .ref i, .ref o, .int m, .int many] ∧ FlowAt H a ∧ Tup H i ds ∧ Good ds ∧ Tup H o es ∧ Good es ∧ 1 ≤ m ∧ m ≤ 7 ∧ 0 ≤ many ∧ many ≤ 1000 ∧
  ∀ v S H', StaV H' v S → StdOk ds es m S → FlowAt H' a → Old a H H' → Q v H'
/-- lists of loads, each of its own, none of them one of the five -/
def LoadsL (a A L0 I0 I1 : Addr) (H : Hp) : List V → List (List PP) → Prop := Paired fun v L => ∃ b us, v = .ref b ∧ H b = some (.lst us) ∧ PairsV H us L ∧ b ≠ a ∧ b ≠ A ∧ b ≠ L0 ∧ b ≠ I0 ∧ b ≠ I1
theorem LoadsL.fr {a A L0 I0 I1 : Addr} {H H' : Hp} (s : ∀ b u, H b = some u → b ≠ a → b ≠ A → b ≠ L0 → b ≠ I0 → b ≠ I1 → H' b = some u) (t : TupS H H') {vs : List V} {S : List (List PP)} (h : LoadsL a A L0 I0 I1 H vs S) : LoadsL a A L0 I0 I1 H' vs S :=
  paired_imp (fun _ _ ⟨b, us, e, hb, hp, n1, n2, n3, n4, n5⟩ => ⟨b, us, e, s b _ hb n1 n2 n3 n4 n5, PairsV.mono t hp, n1, n2, n3, n4, n5⟩) h
/-- the five apart, and new -/
structure Apart (H : Hp) (a A L0 I0 I1 : Addr) : Prop where
  nA : H A = none
  nL : H L0 = none
  n0 : H I0 = none
  n1 : H I1 = none
  aA : a ≠ A
  aL : a ≠ L0
  a0 : a ≠ I0
  a1 : a ≠ I1
  AL : A ≠ L0
  A0 : A ≠ I0
  A1 : A ≠ I1
  L0' : L0 ≠ I0
  L1 : L0 ≠ I1
  I01 : I0 ≠ I1
structure LdI (a A L0 I0 I1 : Addr) (ds es : List Int) (m : Int) (H H' : Hp) (S : List (List PP)) (vs : List V) : Prop where
  fl : FlowAt H' a
  hA : H' A = some (.lst vs)
  hS : LoadsL a A L0 I0 I1 H' vs S
  hL : H' L0 = some (.lst [.ref I0, .ref I1])
  h0 : LisI H' I0 (left ds (fs S))
  h1 : LisI H' I1 (left es (sn S))
  ok : StdOk ds es m S
  old : Old a H H'
section
variable {a A L0 I0 I1 : Addr} {ds es : List Int} {m : Int} {H H' H2 : Hp} {S : List (List PP)} {vs : List V}
theorem TupS.but (h : But a H H2) (f : FlowAt H a) : TupS H H2 := fun b xs e => by rw [h b (tup_ne f e)]; exact e
theorem LdI.but (Z : Apart H a A L0 I0 I1) (I : LdI a A L0 I0 I1 ds es m H H' S vs) (b : But a H' H2) (f : FlowAt H2 a) : LdI a A L0 I0 I1 ds es m H H2 S vs :=
  ⟨f, by rw [b A Z.aA.symm]; exact I.hA, LoadsL.fr (fun c u e n _ _ _ _ => by rw [b c n]; exact e) (TupS.but b I.fl) I.hS, by rw [b L0 Z.aL.symm]; exact I.hL, by show H2 I0 = _; rw [b I0 Z.a0.symm]; exact I.h0, by show H2 I1 = _; rw [b I1 Z.a1.symm]; exact I.h1, I.ok, Old.trans I.old (But.old b)⟩
theorem LdI.same (I : LdI a A L0 I0 I1 ds es m H H' S vs) (s : Same H' H2) : LdI a A L0 I0 I1 ds es m H H2 S vs :=
  ⟨FlowAt.same I.fl s, s _ _ I.hA, LoadsL.fr (fun c u e _ _ _ _ _ => s c u e) (TupS.of s) I.hS, s _ _ I.hL, s _ _ I.h0, s _ _ I.h1, I.ok, Old.trans I.old (same_old s)⟩
/-- the load k gets the pair: a new list q stands there, both counts go down -/
theorem LdI.put (Z : Apart H a A L0 I0 I1) (I : LdI a A L0 I0 I1 ds es m H H' S vs) {k : Nat} {L : List PP} {p : PP} {x y : Int} {q : Addr} {us : List V} (hk : S[k]? = some L) (hp : InP ds.length es.length p) (hf : freeB L p = true)
    (hx : (left ds (fs S))[p.1.toNat]? = some x) (x0 : 0 < x) (hy : (left es (sn S))[p.2.toNat]? = some y) (y0 : 0 < y) (hq : H' q = some (.lst us)) (hu : PairsV H' us (srt (L ++ [p]))) (nq : q ≠ a ∧ q ≠ A ∧ q ≠ L0 ∧ q ≠ I0 ∧ q ≠ I1) :
    LdI a A L0 I0 I1 ds es m H (upd (upd (upd H' A (.lst (vs.set k (.ref q)))) I0 (.lst (((left ds (fs S)).set p.1.toNat (x - 1)).map V.int))) I1 (.lst (((left es (sn S)).set p.2.toNat (y - 1)).map V.int))) (S.set k (srt (L ++ [p]))) (vs.set k (.ref q)) := by
  obtain ⟨o1, o2, o3⟩ := I.ok.set hk hp hf hx x0 hy y0
  have off : ∀ b, b ≠ A → b ≠ I0 → b ≠ I1 → upd (upd (upd H' A (.lst (vs.set k (.ref q)))) I0 (.lst (((left ds (fs S)).set p.1.toNat (x - 1)).map V.int))) I1 (.lst (((left es (sn S)).set p.2.toNat (y - 1)).map V.int)) b = H' b := fun b e1 e2 e3 => by
    rw [upd_ne e3, upd_ne e2, upd_ne e1]
  have ts : TupS H' (upd (upd (upd H' A (.lst (vs.set k (.ref q)))) I0 (.lst (((left ds (fs S)).set p.1.toNat (x - 1)).map V.int))) I1 (.lst (((left es (sn S)).set p.2.toNat (y - 1)).map V.int))) := fun b xs e => by
    rw [off b (fun z => by rw [z, I.hA] at e; cases e) (fun z => by rw [z, I.h0] at e; cases e) (fun z => by rw [z, I.h1] at e; cases e)]
    exact e
  refine ⟨?_, ?_, ?_, ?_, ?_, ?_, o1, ?_⟩
  · obtain ⟨u, v, w, e⟩ := I.fl
    exact ⟨u, v, w, by rw [off a Z.aA Z.a0 Z.a1]; exact e⟩
  · rw [upd_ne Z.A1, upd_ne Z.A0, upd_same]
  · refine paired_set ⟨q, us, rfl, ?_, PairsV.mono ts hu, nq⟩ (LoadsL.fr (fun b u e n1 n2 n3 n4 n5 => by rw [off b n2 n4 n5]; exact e) ts I.hS)
    rw [off q nq.2.1 nq.2.2.2.1 nq.2.2.2.2]
    exact hq
  · rw [off L0 Z.AL.symm Z.L0' Z.L1]
    exact I.hL
  · show upd _ _ _ _ = _
    rw [upd_ne Z.I01, upd_same, o2]
  · show upd _ _ _ _ = _
    rw [upd_same, o3]
  · intro b u e ne
    rw [off b (ne_of_none e Z.nA) (ne_of_none e Z.n0) (ne_of_none e Z.n1)]
    exact I.old b u e ne
end
end Gn
namespace Gn
open PySem PySem.Spec PyProof.Rows L2 Com Sd StV
end Gn
set_option Elab.async false
set_option linter.all false
set_option maxRecDepth 100000
set_option maxHeartbeats 4000000
namespace Ext
open PySem PySem.Spec PyProof.Rows L2 Com
/-- each item a scalar or an object: two tuples of these very items are equal -/
def sameOk (x : V) : Bool := match x with
  | .ref _ => true
  | x => flatB x
theorem same_at {A : Around} {s : Shared} {x : V} {v u : Value} (rv : RelV x v) (ru : RelV x u) (h : sameOk x = true) : SeqAt.EqAt A s v u true := by
  cases x with
  | ref a =>
    cases (show v = Value.ref a from rv)
    cases (show u = Value.ref a from ru)
    exact SeqAt.EqAt.same _
  | non => exact eqAt_same rv ru h
  | bl _ => exact eqAt_same rv ru h
  | int _ => exact eqAt_same rv ru h
  | str _ => exact eqAt_same rv ru h
  | byt _ => exact eqAt_same rv ru h
  | flt _ => exact eqAt_same rv ru h
  | ty _ => exact eqAt_same rv ru h
end Ext
set_option linter.all false
namespace Sd
def mx (l : List Int) : Int := l.foldl max 0
end Sd
namespace Sd
end Sd
set_option Elab.async false
set_option linter.all false
set_option maxRecDepth 100000
set_option maxHeartbeats 4000000
namespace PySem
namespace Exo_thing
open PySem.W PySem.Calls PyProof.Rows PySem.HandSPX
def iA (p1 p2 : Pos) : Arguments := { posonlyargs := [], args := [{ arg := "self", annotation := none, pos := p1 }, { arg := "thing", annotation := none, pos := p2 }], vararg := none, kwonlyargs := [], kw_defaults := [], kwarg := none, defaults := [] }
abbrev sCall (msg : Str) (q1 q2 q3 q4 q5 : Pos) : Expr := .Call (.Attribute (.Call (.Name "super" q1) [] [] q2) "__init__" q3) [.Constant (.str msg) 0 q4] [] q5
def iB (msg : Str) (q1 q2 q3 q4 q5 q6 q7 q8 q9 q10 : Pos) : List Stmt :=
  [.Expr (sCall msg q1 q2 q3 q4 q5) q6, .Assign [.Attribute (.Name "self" q7) "thing" q8] (.Name "thing" q9) q10]
def iS : Scope := { kind := .function, names := [(PySem.Str.ofString "self", .local), (PySem.Str.ofString "thing", .local), (PySem.Str.ofString "__class__", .free), (PySem.Str.ofString "super", .globalImplicit)], isGenerator := false, isCoroutine := false, more := [] }
/-- how the call of the bound __init__ is read -/
def Reads (msg : Str) (q1 q2 q3 q4 q5 : Pos) (env : Env) : Prop := ∃ pl : Sem Bool, eval (sCall msg q1 q2 q3 q4 q5) env = (do
  let ov ← attributeBase (.Call (.Name "super" q1) [] [] q2) "__init__" env (eval (.Call (.Name "super" q1) [] [] q2) env)
  standAt q3.atName
  let (f, first) ← holding [ov] (getMethod ov "__init__" pl)
  callWith q5 f first (backTo q5 (starEach [.Constant (.str msg) 0 q4] env)) [])
/-- what the written part says of the class x, at C, and of its __init__, at fI -/
structure Txt (prog : Program) (K : Frag) (mg : Str → Option Value) (x : Str) (C fI : Addr) : Prop where
  gC : mg x = some (.ref C)
  gS : mg "super" = none
  cls : ∃ nm q N bs bm sn sub ab col dd k0 k1 k2 k3 k5, K.lookup C = some (excClassObj nm q C N bs bm true sn sub ab col dd k0 k1 k2 k3 k5 "ValueError.__new__") ∧ refsVE bm = true
  sup : ks_superIn K C C "__init__" = some (some (.builtin "ValueError.__init__"))
  sVE : subIn K (.ref C) (.type "ValueError") = some true
  own : mroIn K C (.ref C) = some true
  op : nsIn K cStatics "thirdparty.any" = some none
  sa : findIn K (.ref C) "__setattr__" = some (some (.builtin "object.__setattr__"))
  ga : findIn K (.ref C) "__getattribute__" = some (some (.builtin "BaseException.__getattribute__"))
  gg : findIn K (.ref C) "__getattr__" = some none
  noN : findIn K (.ref C) "thing" = some none
  iC : findIn K (.ref C) "__init__" = some (some (.ref fI))
  tC : typeIn K (.ref fI) = some (.type "function")
  kC : keepIn K (.ref C) = true
  exC : subIn K (.ref C) (.type "BaseException") = some true
  tyC : typeIn K (.ref C) = some (.type "type")
  hdC : hasDictIn K C = true
  te : exmOne K (.ref C) (.ref C) = some true
  top : (prog.main.scope.names.lookup ("super" : Str)).isSome = false
  fn : ∃ (oc : Value) (od : Option Addr) (doc pm : Value) (an : Option Addr) (ct : Value) (osl : Array (Option Value)) (cda cc : Addr) (qual : Str) (p1 p2 : Pos) (msg : Str) (q1 q2 q3 q4 q5 q6 q7 q8 q9 q10 : Pos)
      (cl : Value) (cld : Option Addr) (csl : Array (Option Value)) (ccl : Value) (cdd : Option Addr) (vs : Array Value) (ccs : Array (Option Value)) (file : Str) (tf : Tok),
    K.lookup fI = some ⟨oc, od, .func (ksFn "__init__" qual (iA p1 p2) (iB msg q1 q2 q3 q4 q5 q6 q7 q8 q9 q10) iS .none .none doc pm an (.ref cda) ct cc), osl⟩ ∧ codeIn K (.ref cda) qual = true ∧
    K.lookup cc = some ⟨cl, cld, .cell (some (.ref C)), csl⟩ ∧ K.lookup cda = some ⟨ccl, cdd, .fields vs, ccs⟩ ∧ vs[2]? = some (.str file tf) ∧ ((prog.main.file : Str) == file) = true ∧ (∀ L : Addr, Reads msg q1 q2 q3 q4 q5 (ksEnv qual iS L fI (.ref cda) cc))
theorem kept_but {K : Frag} {h h' : Heap} {x : Addr} (X : K.In h) (hx : K.lookup x = none) (k : ∀ b o, b ≠ x → h.get? b = some o → h'.get? b = some o) : K.In h' := fun a o e =>
  k a o (fun z => by rw [z, hx] at e; cases e) (X a o e)
theorem one_size (v : Value) : [v].length ≤ sizeLine := by
  rw [sizeLine_eq]
  exact (by decide : 1 ≤ 16777216)
/-- what __init__ leaves of a fresh exception at x -/
structure InitEnd (h h' : Heap) (x C dx t1 : Addr) (v : Value) : Prop where
  keep : ∀ b o, b ≠ x → h.get? b = some o → h'.get? b = some o
  obj : h'.get? x = some { cls := .ref C, dict := some dx, data := .fields #[.ref t1, .none, .none, .none, .bool false, .none] }
  dbig : h.objs.size ≤ dx
  dne : dx ≠ x
  ns : h'.Ns1 dx (fun y => if y = "thing" then some v else none)
/-- a made one -/
structure OwnMade (h h' : Heap) (e C d : Addr) (v : Value) : Prop where
  keep : ∀ b o, h.get? b = some o → h'.get? b = some o
  new : h.objs.size ≤ e
  obj : ∃ oe vs, h'.get? e = some oe ∧ oe.cls = .ref C ∧ oe.dict = some d ∧ oe.data = .fields vs ∧ vs[1]? = some .none
  dbig : h.objs.size ≤ d
  dne : d ≠ e
  ns : h'.Ns1 d (fun y => if y = "thing" then some v else none)
section
variable {M : Model} {prog : Program} {w : World} {A : Around} {E : Value → Shared → Prop} {h : Heap} {g : Array GenState} {d : Drawn} {t : Nat} {os : OsState}
variable {nm q : Str} {C N : Addr} {bs bm : List Value} {hdct : Bool} {sn : List Str} {sub : List Value} {ab : Bool} {col : Option Bool} {dd : Option Addr} {k0 k1 k2 k3 k5 : Option Value}
/-- the bound ValueError.__init__ is called -/
theorem call_mw {u e t0 : Addr} {rest : List Value} {Q : Value → Shared → Prop}
    (hC : h.get? C = some (excClassObj nm q C N bs bm hdct sn sub ab col dd k0 k1 k2 k3 k5 "ValueError.__new__")) (he : h.get? e = some (excO C t0)) (hu : h.get? u = some (kxs_mw "ValueError.__init__" e)) (hrest : rest.length ≤ sizeLine)
    (hq : ∀ h' t1, (∀ b o, b ≠ e → h.get? b = some o → h'.get? b = some o) → h'.get? e = some (excO C t1) → h.objs.size ≤ h'.objs.size → Q .none ⟨h', g, d, t, os⟩) :
    wpAny (model prog w) A (call (.ref u) rest) Q E ⟨h, g, d, t, os⟩ := by
  refine wpAny_call (codeAny_of_tree ?_)
  show wpAny _ A.in1 (callAny (.ref u) ⟨rest, []⟩) _ _ _
  simp only [callAny]
  refine wpAny_bind (wpAny_load hu ?_)
  simp only [kxs_mw, show (Value.type "method-wrapper" == Value.type "method" || Value.type "method-wrapper" == Value.type "builtin_function_or_method" || Value.type "method-wrapper" == Value.type "method-wrapper") = true by decide, if_true]
  refine KFB.if_so (by decide) ?_
  refine wpAny_bind (check_bound_init F.excBase_ValueError.toExcCallFacts hC he rfl ?_)
  refine wpAny_bind (wpAny_pure (wpAny_pure ?_))
  refine ⟨plainId_quiet F.excBase_ValueError.init.plain _, codeAny_builtin F.excBase_ValueError.initEntry ?_⟩
  refine exc_init_tree (cls := .ref C) (t0 := t0) (dv := none) (c2 := .none) (c3 := .none) (b4 := .bool false) he hrest fun h' k hx ht => hq h' h.objs.size k hx (Nat.le_of_lt (Heap.lt_size ht))
end
section
variable {prog : Program} {w : World} {A : Around} {E : Value → Shared → Prop} {R : Result → Shared → Prop} {s : Shared} {K : Frag} {mg : Str → Option Value} {C fI : Addr} {nm : Str}
theorem ldC {M : Model} {s : Shared} {env : Env} {m : Str → Option Value} {x : Str} {pos : Pos} {v : Value} {Q : Value → Shared → Prop} {A : Around} {E : Value → Shared → Prop} (hn : s.heap.Ns env.locals m) (hv : m x = some v) (h : Q v s)
    (hk : env.scope.kind = .function := by rfl) (hl : env.kindOf x = some .local := by rfl) (hd : (x == ("__debug__" : Str)) = false := by decide) : wpAny M A (eval (.Name x pos) env) Q E s := wpAny_Name (wpAny_loadName_local hk hl hn hv h) hd
theorem init (T : Txt prog K mg nm C fI) {x t0 : Addr} {v : Value} {mb : Str → Option Value} (X : K.In s.heap) (hg : s.heap.Ns mainGlobals mg) (hb : s.heap.Ns builtinsNs mb) (hbv : ∀ y : Str, y ≠ "__name__" → mb y = bootBuiltins y)
    (hlim : s.heap.NoLimit) (hx : s.heap.get? x = some (excO C t0)) (hnx : K.lookup x = none) (hroom : A.depth < recursionLimit)
    (hq : ∀ h' tk dx t1, InitEnd s.heap h' x C dx t1 v → R (.ok (.ret .none)) { s with heap := h', toks := tk }) :
    codeAny (model prog w) A (.call (.ref fI) ⟨[.ref x, v], []⟩) R s := by
  obtain ⟨oc, od, doc, pm, an, ct, osl, cda, cc, qual, p1, p2, msg, q1, q2, q3, q4, q5, q6, q7, q8, q9, q10, cl, cld, csl, ccl, cdd, vs, ccs, file, tf, lk, hcd, hcell, hcode, hvs, hfile, hrd⟩ := T.fn
  obtain ⟨pl, hpl⟩ := hrd s.heap.objs.size
  obtain ⟨cn, q, N, bs, bm, sn, sub, ab, col, dd, k0, k1, k2, k3, k5, hC, hbm⟩ := T.cls
  have hcl : clsIn K C = some { name := cn, bases := bs, mro := .ref C :: bm, ns := N, qualname := q, hasDict := true, slotNames := sn, subclasses := sub, abstract := ab, collection := col, hasDel := false } := by unfold clsIn; rw [hC] <;> rfl
  refine ks_codeAny_call_defAt (fd := ksFn "__init__" qual (iA p1 p2) (iB msg q1 q2 q3 q4 q5 q6 q7 q8 q9 q10) iS .none .none doc pm an (.ref cda) ct cc) (body := iB msg q1 q2 q3 q4 q5 q6 q7 q8 q9 q10) (binds := [("self", .ref x), ("thing", v)]) hroom (X _ _ lk) rfl hlim (codeRec_of X hcd) rfl
    (BindsTo.of_eq (by first | rfl | with_unfolding_all rfl)) (show ∀ y ∈ iS.names, y.2 ≠ .cell by decide) (by intro y hy; rcases List.mem_cons.mp hy with rfl | hy <;> first | rfl | (rcases List.mem_cons.mp hy with rfl | hy <;> first | rfl | cases hy)) (fun h₁ hns k => ?_) rfl rfl rfl
  have X₁ : K.In h₁ := X.keeps k
  have hx₁ := k _ _ hx
  have hxL : s.heap.objs.size ≠ x := Nat.ne_of_gt (Heap.lt_size hx)
  have hxC : x ≠ C := fun z => by
    have y := X _ _ hC
    rw [← z, hx] at y
    cases y
  show PySem.wpAt (model prog w) _ _ (execs (iB msg q1 q2 q3 q4 q5 q6 q7 q8 q9 q10) (ksEnv qual iS s.heap.objs.size fI (.ref cda) cc)) _ _ _
  refine ks_wpAt_execs_cons (ks_wpAt_Expr_any (ks_wpAt_MethodCall (pl := pl) ?_ hpl))
  refine ks_wpAt_super_base (env := ksEnv qual iS s.heap.objs.size fI (.ref cda) cc) rfl rfl rfl rfl (X₁ _ _ lk) rfl rfl rfl (X₁ _ _ hcode) rfl hvs hfile T.top ?_
  refine ks_loadName_global rfl rfl (loadGlobal_builtin (env := ksEnv qual iS s.heap.objs.size fI (.ref cda) cc) (hg.keeps k) T.gS (hb.keeps k) ((hbv _ (by decide)).trans PyProof.Rows.Boot.«super») ⟨rfl, ?_⟩)
  refine wpAny_loadName_free (env := ksEnv qual iS s.heap.objs.size fI (.ref cda) cc) rfl rfl rfl ⟨_, X₁ _ _ hcell, rfl⟩ ?_
  refine wpAny_loadName_local (env := ksEnv qual iS s.heap.objs.size fI (.ref cda) cc) (v := .ref x) rfl rfl hns (by first | rfl | with_unfolding_all rfl | kernel_rfl) ?_
  refine ks_wpAny_isType_cls (X₁ _ _ hC) rfl ⟨rfl, ?_⟩
  refine ks_wpAny_call_super (X₁ _ _ hC) rfl hx₁ rfl (fun c e => nomatch e) (looks_mroIn X₁ T.own) (fun h₂ hso k₂ => ?_)
  have X₂ : K.In h₂ := X₁.keeps k₂
  have hx₂ := k₂ _ _ hx₁
  have I₂ : InstAt h₂ x (excO C t0) C none := ⟨hx₂, rfl, rfl, trivial⟩
  have hm := T.sup
  unfold ks_superIn at hm
  rw [hcl] at hm
  refine kxs_getMethod kxs_ValueError hso (looks_opaque X₂ T.op) (l₀ := .ref C :: bm) ((looks_clsIn X₂ hcl).andThen .now) rfl X₂ hm (I₂.type.andThen (looks_subIn X₂ T.sVE)) hxC rfl ?_
  have k₁₂ : ∀ b o, h₁.get? b = some o → (h₂.push (kxs_mw "ValueError.__init__" x)).get? b = some o := fun b o e => Heap.get?_push_of_some _ (k₂ b o e)
  have hu : (h₂.push (kxs_mw "ValueError.__init__" x)).get? h₂.objs.size = some (kxs_mw "ValueError.__init__" x) := Heap.get?_push_at rfl rfl
  have sz₂ : s.heap.objs.size ≤ (h₂.push (kxs_mw "ValueError.__init__" x)).objs.size := by
    have a : h₂.objs.size < (h₂.push (kxs_mw "ValueError.__init__" x)).objs.size := Heap.lt_size hu
    have b : h₁.objs.size < h₂.objs.size := Heap.lt_size hso
    have c : s.heap.objs.size < h₁.objs.size := hns.lt
    omega
  generalize h₂.push (kxs_mw "ValueError.__init__" x) = h₂' at k₁₂ hu sz₂ ⊢
  have X₂' : K.In h₂' := X₁.keeps k₁₂
  show wpAny _ _ (callWith q5 (.ref h₂.objs.size) [] (backTo q5 (starEach (.Constant (.str msg) 0 q4 :: []) (ksEnv qual iS s.heap.objs.size fI (.ref cda) cc))) []) _ _ _
  rw [show starEach (.Constant (.str msg) 0 q4 :: []) (ksEnv qual iS s.heap.objs.size fI (.ref cda) cc) = (false, eval (.Constant (.str msg) 0 q4) (ksEnv qual iS s.heap.objs.size fI (.ref cda) cc)) :: starEach [] (ksEnv qual iS s.heap.objs.size fI (.ref cda) cc) from rfl]
  refine kxs_callWith (i := "ValueError.__init__") (x := x) rfl (evalArgs_plain (Calls.spliced_cons (wpAny_Constant_str (env := ksEnv qual iS s.heap.objs.size fI (.ref cda) cc) (x := msg) (k := 0) (pos := q4) (Calls.spliced_nil ⟨hu, ?_⟩))))
  refine call_mw (X₂' _ _ hC) (k₁₂ _ _ hx₁) hu (one_size _) fun h₃ t1 k₃ hx₃ sz₃ => ?_
  have X₃ : K.In h₃ := kept_but X₂' hnx k₃
  have hns₃ : h₃.Ns s.heap.objs.size (fun y => List.lookup y [(PySem.Str.ofString "self", Value.ref x), (PySem.Str.ofString "thing", v)].reverse) := by
    obtain ⟨oL, es, ep, hL, r⟩ := hns
    exact ⟨oL, es, ep, k₃ _ _ hxL (k₁₂ _ _ hL), r⟩
  -- self.field = field
  show PySem.wpAt _ _ _ (execs [.Assign [.Attribute (.Name "self" q7) "thing" q8] (.Name "thing" q9) q10] (ksEnv qual iS s.heap.objs.size fI (.ref cda) cc)) _ _ _
  refine ks_wpAt_execs_cons (wpAt_of_wpAny (plainObj_wpAny_Assign_Attribute ?_))
  refine ldC (env := ksEnv qual iS s.heap.objs.size fI (.ref cda) cc) (v := v) hns₃ (by first | rfl | with_unfolding_all rfl | kernel_rfl) (ldC (env := ksEnv qual iS s.heap.objs.size fI (.ref cda) cc) (v := .ref x) hns₃ (by first | rfl | with_unfolding_all rfl | kernel_rfl) ?_)
  refine set_plain X₃ (ox := excO C t1) (od := none) ⟨hx₃, rfl, rfl, trivial⟩ T.sa ?_
  refine exc_osa X₃ hx₃ hcl (show refsVE (.ref C :: bm) = true from hbm) rfl T.noN (fun h₄ tk₄ dx k₄ dn dne hx₄ hn₄ => ?_)
  refine wpAt_of_wpAny (wpAny_execs_nil (hq h₄ tk₄ dx t1 ⟨fun b o hb e => k₄ b o hb (k₃ b o hb (k₁₂ b o (k b o e))), hx₄, Nat.le_trans sz₂ (Nat.le_trans sz₃ dn), dne, hn₄⟩))
theorem made (T : Txt prog K mg nm C fI) {v : Value} {mb : Str → Option Value} (X : K.In s.heap) (hg : s.heap.Ns mainGlobals mg) (hb : s.heap.Ns builtinsNs mb) (hbv : ∀ y : Str, y ≠ "__name__" → mb y = bootBuiltins y) (hlim : s.heap.NoLimit)
    (hroom : A.depth + 1 < recursionLimit) (hq : ∀ h' tk e d, OwnMade s.heap h' e C d v → R (.ok (.ret (.ref e))) { s with heap := h', toks := tk }) :
    codeAny (model prog w) A (.call (.ref C) ⟨[v], []⟩) R s := by
  obtain ⟨cn, q, N, bs, bm, sn, sub, ab, col, dd, k0, k1, k2, k3, k5, hC, hbm⟩ := T.cls
  obtain ⟨hp, g, dr, tk, os⟩ := s
  have k : ∀ b o, hp.get? b = some o → ((hp.push (kdv_tup [v])).push (excO C hp.objs.size)).get? b = some o := fun b o e => Heap.get?_push_of_some _ (Heap.get?_push_of_some _ e)
  have hget : ((hp.push (kdv_tup [v])).push (excO C hp.objs.size)).get? (hp.objs.size + 1) = some (excO C hp.objs.size) := by heap_get
  have hnx : K.lookup (hp.objs.size + 1) = none := by
    cases e : K.lookup (hp.objs.size + 1) with
    | none => rfl
    | some o =>
      have z : hp.get? (hp.objs.size + 1) = some o := X _ _ e
      exact absurd (Nat.lt_of_succ_lt (Heap.lt_size z)) (Nat.lt_irrefl _)
  refine call_own F.excBase_ValueError (fun X => refsVE_contains X bm hbm) (X _ _ hC) (looks_findIn X T.iC) (fun self => bind_fn X self T.tC) (one_size v) ?_
  refine init (s := ⟨(hp.push (kdv_tup [v])).push (excO C hp.objs.size), g, dr, tk, os⟩) T (X.keeps k) (hg.keeps k) (hb.keeps k) hbv (hlim.keeps k) hget hnx ?_ fun h' tk' dx t1 ⟨k', hx, dn, dne, hns⟩ => ?_
  · show A.depth + 1 < recursionLimit
    exact hroom
  · have old : ∀ b o, hp.get? b = some o → h'.get? b = some o := fun b o e => k' b o (Nat.ne_of_lt (Nat.lt_succ_of_lt (Heap.lt_size e))) (k b o e)
    have z : hp.objs.size + 1 + 1 ≤ dx := by
      first
        | (simpa only [Heap.size_push] using dn)
        | exact dn
        | (have q := dn; rw [Heap.size_push, Heap.size_push] at q; exact q)
    exact ⟨rfl, hq h' tk' (hp.objs.size + 1) dx ⟨old, Nat.le_succ _, ⟨_, _, hx, rfl, rfl, rfl, rfl⟩, Nat.le_trans (Nat.le_trans (Nat.le_succ _) (Nat.le_succ _)) z, dne, hns⟩⟩
end
end Exo_thing
end PySem
set_option Elab.async false
set_option linter.all false
set_option maxRecDepth 100000
set_option maxHeartbeats 4000000
namespace Gn
open PySem PySem.Spec PyProof.Rows L2 Com Sd StV
theorem dV (a b : Int) : decide (V.int a = V.int b) = decide (a = b) := by
  refine decide_eq_decide.mpr ⟨fun h => ?_, fun h => by rw [h]⟩
  injection h
end Gn
namespace Gn
open PySem PySem.Spec PyProof.Rows L2
end Gn
set_option Elab.async false
set_option linter.all false
set_option maxRecDepth 100000
set_option maxHeartbeats 4000000
namespace RT
open PySem PySem.Spec PyProof.Rows
end RT
namespace Com
open PySem PySem.Spec PyProof.Rows L2 RT
end Com
set_option Elab.async false
set_option linter.all false
set_option maxRecDepth 100000
set_option maxHeartbeats 4000000
namespace Nd
open PySem PySem.Spec PyProof.Rows L2 Com
abbrev NX := NestedKey × Addr × V
abbrev NY := NestedKey × Addr × Value
def EN (w : World) (x : NY) : DictEntry := ⟨x.1.hash w, .ref x.2.1, x.2.2⟩
abbrev NXY : List NX → List NY → Prop := Paired fun p q => p.1 = q.1 ∧ p.2.1 = q.2.1 ∧ RelV p.2.2 q.2.2
def RawN (w : World) (h : Heap) (a : Addr) (xs : List NX) : Prop :=
  ((a == sysModules) = false ∧ ∀ x ∈ xs, x.1.depth ≤ 8) ∧ xs.length ≤ sizeLine ∧ ∃ us : List NY, NXY xs us ∧ (∃ o es ep, h.get? a = some o ∧ o.ExactDict ∧ o.data = .dict es ep ∧ es.toList = us.map (EN w)) ∧ (us.map (·.1)).Nodup
def DN (w : World) (a : Addr) (xs : List NX) : HO := .ext fun h => RawN w h a xs
mutual
inductive NIs (H : Hp) : NestedKey → V → Prop
  | none : NIs H .none .non
  | num (i : Int) : NIs H (.num i) (.int i)
  | text (x : Str) : NIs H (.text x) (.str x)
  | tup {a : Addr} {ks : List NestedKey} {vs : List V} : H a = some (.tup vs) → NIsA H ks vs → NIs H (.tup ks) (.ref a)
inductive NIsA (H : Hp) : List NestedKey → List V → Prop
  | nil : NIsA H [] []
  | cons {k : NestedKey} {v : V} {ks : List NestedKey} {vs : List V} : NIs H k v → NIsA H ks vs → NIsA H (k :: ks) (v :: vs)
end
section
variable {X : Cx} {pins : List (Addr × Obj)} {σ : L2.St} {H : Hp} {s : Shared}
mutual
theorem NIs.at (I : Inv X pins σ H s) : ∀ {k : NestedKey} {v : V} {u : Value}, NIs H k v → RelV v u → NestedIs s.heap k u
  | _, _, _, .none, r => by cases (show _ = Value.none from r); exact .none
  | _, _, _, .num i, r => by obtain ⟨t, rfl⟩ := r; exact .int i t
  | _, _, _, .text x, r => by obtain ⟨t, rfl⟩ := r; exact .text x t
  | _, _, _, .tup h t, r => by
    cases (show _ = Value.ref _ from r)
    obtain ⟨its, q, ⟨o, e, c, n, d⟩, _⟩ := I.tuple (.inl (.inl h))
    exact .tup e c d (NIsA.at I t q)
theorem NIsA.at (I : Inv X pins σ H s) : ∀ {ks : List NestedKey} {vs : List V} {us : List Value}, NIsA H ks vs → Vals vs us → NestedAll s.heap ks us
  | _, _, _, .nil, r => by cases r; exact .nil
  | _, _, _, .cons h t, r => by cases r with | cons a b => exact .cons (NIs.at I h a) (NIsA.at I t b)
end
def KOk (H : Hp) (k : NestedKey) (a : Addr) : Prop := NIs H k (.ref a) ∧ k.depth ≤ 8
theorem KOk.is (I : Inv X pins σ H s) {k : NestedKey} {a : Addr} (h : KOk H k a) : (nestedKind X.prog X.w).is s.heap k a := ⟨NIs.at I h.1 rfl, h.2⟩
/-- the keys stand -/
def AllK (H : Hp) (xs : List NX) : Prop := ∀ x ∈ xs, NIs H x.1 (.ref x.2.1)
def lkN (xs : List NX) (k : NestedKey) : Option V := (xs.find? fun x => decide (x.1 = k)).map (·.2.2)
def putN (xs : List NX) (k : NestedKey) (a : Addr) (v : V) : List NX := if (lkN xs k).isSome then xs.map (fun x => if x.1 = k then (x.1, x.2.1, v) else x) else xs ++ [(k, a, v)]
theorem putN_len (xs : List NX) (k : NestedKey) (a : Addr) (v : V) : (putN xs k a v).length ≤ xs.length + 1 := by
  unfold putN
  split
  · rw [List.length_map]; omega
  · rw [List.length_append]; exact Nat.le_refl _
theorem putN_all {xs : List NX} {k : NestedKey} {a : Addr} {v : V} (h : ∀ x ∈ xs, x.1.depth ≤ 8) (hk : k.depth ≤ 8) : ∀ x ∈ putN xs k a v, x.1.depth ≤ 8 := fun x hx => by
  unfold putN at hx
  split at hx
  · obtain ⟨y, hy, rfl⟩ := List.mem_map.mp hx
    split
    · exact h y hy
    · exact h y hy
  · rcases List.mem_append.mp hx with hx | hx
    · exact h x hx
    · rw [List.mem_singleton.mp hx]; exact hk
theorem lk_rel {k : NestedKey} : ∀ {xs : List NX} {us : List NY}, NXY xs us → RelO (lkN xs k) ((atKey us k).map (·.2))
  | _, _, .nil => trivial
  | x :: xs, u :: us, .cons h t => by
    unfold lkN atKey
    rw [List.find?_cons, List.find?_cons, h.1]
    by_cases c : u.1 = k
    · rw [decide_eq_true c]; exact h.2.2
    · rw [decide_eq_false c]
      exact lk_rel t
theorem put_rel {k : NestedKey} {a : Addr} {v : V} {u : Value} (r : RelV v u) {xs : List NX} {us : List NY} (h : NXY xs us) : NXY (putN xs k a v) (storedH us k a u) := by
  have e : (lkN xs k).isSome = (atKey us k).isSome := by
    have := lk_rel (k := k) h
    cases e1 : lkN xs k <;> cases e2 : atKey us k <;> rw [e1, e2] at this <;> first | rfl | exact this.elim
  unfold putN storedH
  rw [e]
  cases (atKey us k).isSome with
  | true =>
    rw [if_pos rfl, if_pos rfl]
    clear e
    induction h with
    | nil => exact .nil
    | @cons p q ps qs h t ih =>
      refine .cons ?_ ih
      unfold putAt
      dsimp only
      by_cases c : p.1 = k
      · rw [if_pos c, if_pos (by rw [← h.1]; exact c)]; exact ⟨h.1, h.2.1, r⟩
      · rw [if_neg c, if_neg (by rw [← h.1]; exact c)]; exact h
  | false =>
    rw [if_neg (by decide), if_neg (by decide)]
    clear e
    induction h with
    | nil => exact .cons ⟨rfl, rfl, r⟩ .nil
    | cons h t ih => exact .cons h ih
theorem dn_get {a : Addr} {xs : List NX} (I : Inv X pins σ H s) (ha : H a = some (DN X.w a xs)) (hk : AllK H xs) : (a == sysModules) = false ∧ (∀ x ∈ xs, x.1.depth ≤ 8) ∧ xs.length ≤ sizeLine ∧ ∃ us, NXY xs us ∧ s.heap.DictOfH (nestedKind X.prog X.w) a us := by
  obtain ⟨⟨h1, h3⟩, h2, us, r, ⟨o, es, ep, e1, e2, e3, e4⟩, nd⟩ := (I.hok a _ ha).1
  refine ⟨h1, h3, h2, us, r, o, es, ep, e1, e2, e3, e4, fun x hx => ?_, nd⟩
  obtain ⟨i, hi⟩ := List.mem_iff_getElem?.mp hx
  have : ∃ p, xs[i]? = some p ∧ p.1 = x.1 ∧ p.2.1 = x.2.1 := by
    clear e4 nd hx
    induction r generalizing i with
    | nil => simp at hi
    | @cons p q ps qs h t ih =>
      cases i with
      | zero =>
        rw [List.getElem?_cons_zero] at hi
        cases hi
        exact ⟨p, rfl, h.1, h.2.1⟩
      | succ i =>
        rw [List.getElem?_cons_succ] at hi ⊢
        have hl : ps.length ≤ sizeLine := by rw [List.length_cons] at h2; omega
        cases hg : ps[i]? with
        | none =>
          have l1 := Paired.length t
          have := List.getElem?_eq_none_iff.mp hg
          have := (List.getElem?_eq_some_iff.mp hi).1
          omega
        | some p' =>
          have : ∀ {ps : List NX} {qs : List NY} {i : Nat} {p' : NX} {x : NY}, NXY ps qs → ps[i]? = some p' → qs[i]? = some x → p'.1 = x.1 ∧ p'.2.1 = x.2.1 := by
            intro ps qs i p' x t
            induction t generalizing i with
            | nil => intro h; simp at h
            | cons h t ih =>
              cases i with
              | zero => intro h1 h2; cases h1; cases h2; exact ⟨h.1, h.2.1⟩
              | succ i => intro h1 h2; exact ih (by simpa using h1) (by simpa using h2)
          obtain ⟨a1, a2⟩ := this t hg hi
          exact ⟨p', rfl, a1, a2⟩
  obtain ⟨p, hp, e5, e6⟩ := this
  rw [← e5, ← e6]
  exact KOk.is I ⟨hk p (List.mem_of_getElem? hp), h3 p (List.mem_of_getElem? hp)⟩
theorem dn_ok {P : Program} {H' : Hp} {h' : Heap} {a : Addr} {xs : List NX} {us : List NY} (h1 : (a == sysModules) = false) (h3 : ∀ x ∈ xs, x.1.depth ≤ 8) (h2 : xs.length ≤ sizeLine) (r : NXY xs us) (d : h'.DictOfH (nestedKind P X.w) a us) : ObjOk P X.w H' h' a (DN X.w a xs) := by
  obtain ⟨o, es, ep, e1, e2, e3, e4, _, nd⟩ := d
  exact ⟨⟨⟨h1, h3⟩, h2, us, r, ⟨o, es, ep, e1, e2, e3, e4⟩, nd⟩, ⟨o, e1⟩, fun g1 g2 ⟨z1, z2, us, r, ⟨o, es, ep, q1, q⟩, nd⟩ k => ⟨z1, z2, us, r, ⟨o, es, ep, k _ q1, q⟩, nd⟩⟩
abbrev room (X : Cx) : Prop := X.A.units + 9 < cLine
theorem room_in (hu : room X) : (nestedKind X.prog X.w).room X.A.in1 := by
  show X.A.units + 1 + 8 < cLine
  exact hu
def rNIn (w : World) (neg : Bool) : R2 := fun x y H Q => ∃ a b xs k, x = .ref b ∧ y = .ref a ∧ H a = some (DN w a xs) ∧ AllK H xs ∧ KOk H k b ∧ Q (.bl (if neg then !(lkN xs k).isSome else (lkN xs k).isSome)) H
theorem op_nnotin (hu : room X) : OpR X (compareOp .NotIn) (rNIn X.w true) := by
  intro pins s σ H x y v u Q I rx ry h
  obtain ⟨a, b, xs, k, rfl, rfl, ha, hk, hb, q⟩ := h
  cases rx
  cases ry
  obtain ⟨h1, h3, h2, us, r, d⟩ := dn_get I ha hk
  refine wpAny_notIn_heap (room_in hu) (hb.is I) h1 d ?_
  have e := (lk_rel (k := k) r).isSome_eq
  rw [Option.isSome_map] at e
  rw [← e]
  exact ⟨.bl (!(lkN xs k).isSome), H, I.tok _, rfl, q⟩
def rKIn (neg : Bool) : R2 := fun x y H Q => ∃ a kvs k, y = .ref a ∧ x = kV k ∧ H a = some (.dK kvs) ∧ Q (.bl (if neg then !(valV kvs k).isSome else (valV kvs k).isSome)) H
theorem op_knotin (hu : X.A.units + 1 < cLine) : OpR X (compareOp .NotIn) (rKIn true) := by
  intro pins s σ H x y v u Q I rx ry h
  obtain ⟨a, kvs, k, rfl, rfl, ha, q⟩ := h
  cases ry
  exact d_notIn hu I (DGet.k (k := k) ha) rx fun s' I' => ⟨.bl _, H, I', rfl, q⟩
end
end Nd
set_option Elab.async false
set_option linter.all false
set_option maxRecDepth 100000
set_option maxHeartbeats 4000000
namespace Dt
open PySem PySem.Spec PyProof.Rows L2 Com Nd
inductive D where
  | non | bl (b : Bool) | int (i : Int) | str (s : Str) | tup (ds : List D) | lst (ds : List D) | obj (C : Addr) (ks : List Str) (ds : List D) | flow (a : Addr) | scr (K : PySem.W.Frag) (ns : List Int) | dict0
  /-- a dict: its keys, its values -/
  | dct (w : World) (nk : Bool) (ks : List NestedKey) (ds : List D)
  /-- the very object v, whose data are d -/
  | vry (v : V) (d : D)
mutual
/-- a key as data -/
def dOf : NestedKey → D
  | .none => .non
  | .num i => .int i
  | .text x => .str x
  | .tup ks => .tup (dOfA ks)
def dOfA : List NestedKey → List D
  | [] => []
  | k :: ks => dOf k :: dOfA ks
end
def nkK : Key → NestedKey
  | .inl i => .num i
  | .inr x => .text x
/-- the tables of code objects that the law's text is told with -/
class Tb where
  T : List (Addr × Str)
instance (priority := low) noTb : Tb := ⟨[]⟩
variable [Tb]
/-- what stays as it is; what draws change -/
structure Wd where
  F : Hp
  G : Addr → Prop
  /-- tables of code objects, with the name that they tell -/
  T : List (Addr × Str)
mutual
inductive Vd (W : Wd) : V → D → Prop
  | non : Vd W .non .non
  | bl (b : Bool) : Vd W (.bl b) (.bl b)
  | int (i : Int) : Vd W (.int i) (.int i)
  | str (s : Str) : Vd W (.str s) (.str s)
  | tup {a : Addr} {vs : List V} {ds : List D} : W.F a = some (.tup vs) → VdA W vs ds → Vd W (.ref a) (.tup ds)
  | lst {a : Addr} {vs : List V} {ds : List D} : W.F a = some (.lst vs) → VdA W vs ds → Vd W (.ref a) (.lst ds)
  | obj {a C dx : Addr} {ks : List Str} {vs : List V} {ds : List D} : W.F a = some (.ins C dx (ks.zip vs)) → ks.length = vs.length → VdA W vs ds → Vd W (.ref a) (.obj C ks ds)
  | flow {a : Addr} : W.G a → (∀ q, (a, q) ∉ W.T) → Vd W (.ref a) (.flow a)
  | scr {a : Addr} {K : PySem.W.Frag} {ns : List Int} : (∀ H : Hp, (∀ b o, W.F b = some o → H b = some o) → SqL K H a (ns.map V.int)) → Vd W (.ref a) (.scr K ns)
  | dict0 {a : Addr} : W.F a = some (.dK []) → Vd W (.ref a) .dict0
  | dctN {a : Addr} {w : World} {xs : List NX} {ks : List NestedKey} {ds : List D} : W.F a = some (DN w a xs) → xs.map (·.1) = ks → VdA W (xs.map fun x => .ref x.2.1) (dOfA ks) → VdA W (xs.map (·.2.2)) ds → Vd W (.ref a) (.dct w true ks ds)
  | dctK {a : Addr} {w : World} {xs : List (Key × V)} {ks : List NestedKey} {ds : List D} : W.F a = some (.dK xs) → xs.map (fun x => nkK x.1) = ks → VdA W (xs.map (·.2)) ds → Vd W (.ref a) (.dct w false ks ds)
  | vry {v : V} {d : D} : Vd W v d → Vd W v (.vry v d)
inductive VdA (W : Wd) : List V → List D → Prop
  | nil : VdA W [] []
  | cons {v : V} {vs : List V} {d : D} {ds : List D} : Vd W v d → VdA W vs ds → VdA W (v :: vs) (d :: ds)
end
/-- the world grows -/
structure Le (W W' : Wd) : Prop where
  f : ∀ b o, W.F b = some o → W'.F b = some o
  g : ∀ a, W.G a → W'.G a
  t : W'.T = W.T
theorem Le.refl (W : Wd) : Le W W := ⟨fun _ _ h => h, fun _ h => h, rfl⟩
theorem Le.trans {W W1 W2 : Wd} (a : Le W W1) (b : Le W1 W2) : Le W W2 := ⟨fun x o h => b.f x o (a.f x o h), fun x h => b.g x (a.g x h), b.t.trans a.t⟩
mutual
theorem Vd.mono {W W' : Wd} (l : Le W W') : ∀ {v : V} {d : D}, Vd W v d → Vd W' v d
  | _, _, .non => .non
  | _, _, .bl b => .bl b
  | _, _, .int i => .int i
  | _, _, .str s => .str s
  | _, _, .tup h t => .tup (l.f _ _ h) (VdA.mono l t)
  | _, _, .lst h t => .lst (l.f _ _ h) (VdA.mono l t)
  | _, _, .obj h e t => .obj (l.f _ _ h) e (VdA.mono l t)
  | _, _, .flow h n => .flow (l.g _ h) (by rw [l.t]; exact n)
  | _, _, .scr h => .scr fun H e => h H fun b o e1 => e b o (l.f b o e1)
  | _, _, .dict0 h => .dict0 (l.f _ _ h)
  | _, _, .dctN h e t1 t2 => .dctN (l.f _ _ h) e (VdA.mono l t1) (VdA.mono l t2)
  | _, _, .dctK h e t => .dctK (l.f _ _ h) e (VdA.mono l t)
  | _, _, .vry h => .vry (Vd.mono l h)
theorem VdA.mono {W W' : Wd} (l : Le W W') : ∀ {vs : List V} {ds : List D}, VdA W vs ds → VdA W' vs ds
  | _, _, .nil => .nil
  | _, _, .cons h t => .cons (Vd.mono l h) (VdA.mono l t)
end
section
variable {W W1 W2 : Wd} {v : V} {vs us : List V} {d : D} {ds es : List D}
theorem VdA.length : ∀ {vs : List V} {ds : List D}, VdA W vs ds → vs.length = ds.length
  | _, _, .nil => rfl
  | _, _, .cons _ t => by rw [List.length_cons, List.length_cons, VdA.length t]
theorem VdA.append : ∀ {vs : List V} {ds : List D}, VdA W vs ds → VdA W us es → VdA W (vs ++ us) (ds ++ es)
  | _, _, .nil, h => h
  | _, _, .cons h t, g => .cons h (VdA.append t g)
theorem VdA.one (h : Vd W v d) : VdA W [v] [d] := .cons h .nil
theorem VdA.get : ∀ {vs : List V} {ds : List D} {i : Nat} {v : V}, VdA W vs ds → vs[i]? = some v → ∃ d, ds[i]? = some d ∧ Vd W v d
  | _, _, 0, _, .cons h t, e => by
    rw [List.getElem?_cons_zero] at e
    cases e
    exact ⟨_, rfl, h⟩
  | _, _, n + 1, _, .cons h t, e => by
    rw [List.getElem?_cons_succ] at e
    rw [List.getElem?_cons_succ]
    exact VdA.get t e
theorem VdA.get' : ∀ {vs : List V} {ds : List D} {i : Nat} {d : D}, VdA W vs ds → ds[i]? = some d → ∃ v, vs[i]? = some v ∧ Vd W v d
  | _, _, 0, _, .cons h t, e => by
    rw [List.getElem?_cons_zero] at e
    cases e
    exact ⟨_, rfl, h⟩
  | _, _, n + 1, _, .cons h t, e => by
    rw [List.getElem?_cons_succ] at e
    rw [List.getElem?_cons_succ]
    exact VdA.get' t e
theorem VdA.take : ∀ {vs : List V} {ds : List D} (n : Nat), VdA W vs ds → VdA W (vs.take n) (ds.take n)
  | _, _, 0, _ => by rw [List.take_zero, List.take_zero]; exact .nil
  | _, _, _ + 1, .nil => .nil
  | _, _, n + 1, .cons h t => .cons h (VdA.take n t)
theorem VdA.drop : ∀ {vs : List V} {ds : List D} (n : Nat), VdA W vs ds → VdA W (vs.drop n) (ds.drop n)
  | _, _, 0, h => h
  | _, _, _ + 1, .nil => .nil
  | _, _, n + 1, .cons h t => VdA.drop n t
theorem VdA.set : ∀ {vs : List V} {ds : List D} (n : Nat), Vd W v d → VdA W vs ds → VdA W (vs.set n v) (ds.set n d)
  | _, _, _, _, .nil => .nil
  | _, _, 0, h, .cons _ t => .cons h t
  | _, _, n + 1, h, .cons g t => .cons g (VdA.set n h t)
theorem VdA.ints : ∀ {ns : List Int}, VdA W (ns.map V.int) (ns.map D.int)
  | [] => .nil
  | n :: ns => .cons (.int n) VdA.ints
theorem VdA.of_ints : ∀ {vs : List V} {ns : List Int}, VdA W vs (ns.map D.int) → vs = ns.map V.int
  | _, [], h => by
    cases h
    rfl
  | _, n :: ns, h => by
    cases h with
    | cons h t =>
      cases h
      rw [VdA.of_ints t]
      rfl
theorem VdA.of_bls : ∀ {vs : List V} {ns : List Bool}, VdA W vs (ns.map D.bl) → vs = ns.map V.bl
  | _, [], h => by
    cases h
    rfl
  | _, n :: ns, h => by
    cases h with
    | cons h t =>
      cases h
      rw [VdA.of_bls t]
      rfl
end
/-- what never changes: tuples, code objects -/
def Still (a : Addr) (o : HO) : Prop := (∃ xs, o = .tup xs) ∨ ∃ q, o = LamX.CodeO a q
theorem big : ∀ n : Nat, ∃ h : Heap, h.objs.size = n
  | 0 => ⟨{}, rfl⟩
  | n + 1 => by
    obtain ⟨h, e⟩ := big n
    exact ⟨h.push { cls := .none, data := .fields #[] }, by rw [← e]; simp [Heap.push]⟩
theorem still_lst {a : Addr} {vs : List V} : ¬ Still a (.lst vs) := by
  rintro (⟨xs, z⟩ | ⟨q, z⟩)
  · cases z
  · unfold LamX.CodeO at z; cases z
theorem still_ins {a C dx : Addr} {fs : List (Str × V)} : ¬ Still a (.ins C dx fs) := by
  rintro (⟨xs, z⟩ | ⟨q, z⟩)
  · cases z
  · unfold LamX.CodeO at z; cases z
theorem still_dK {a : Addr} {xs : List (Key × V)} : ¬ Still a (.dK xs) := by
  rintro (⟨xs, z⟩ | ⟨q, z⟩)
  · cases z
  · unfold LamX.CodeO at z; cases z
theorem still_tbl {a : Addr} {ps : Array Value} : ¬ Still a (.tbl ps) := by
  rintro (⟨xs, z⟩ | ⟨q, z⟩)
  · cases z
  · unfold LamX.CodeO at z; cases z
theorem still_dn {a : Addr} {w : World} {xs : List NX} : ¬ Still a (DN w a xs) := by
  rintro (⟨ys, z⟩ | ⟨q, z⟩)
  · unfold DN at z; cases z
  · unfold DN LamX.CodeO at z
    injection z with z
    obtain ⟨h, e⟩ := big a
    subst e
    have g : (h.push { cls := .none, data := .fields #[.none, .str q 0] }).get? h.objs.size = some { cls := .none, data := .fields #[.none, .str q 0] } := Heap.get?_push_size _ rfl
    have z := congrFun z (h.push { cls := .none, data := .fields #[.none, .str q 0] })
    have y : RawN w (h.push { cls := .none, data := .fields #[.none, .str q 0] }) h.objs.size xs := by
      rw [z]
      exact ⟨_, _, 0, g, rfl, rfl⟩
    obtain ⟨_, _, us, _, ⟨o, es, ep, e1, _, e2, _⟩, _⟩ := y
    rw [g] at e1
    cases e1
    cases e2
/-- a table of code objects: each that it tells stands still -/
def TabW (F H : Hp) (P : Addr) (q : Str) : Prop := ∃ ps : Array Value, H P = some (.tbl ps) ∧ TriplesOk ps.toList ∧ ∀ (pos : Pos) (cv : Value), codeAmong pos ps.toList = some cv → ∃ c, cv = .ref c ∧ F c = some (LamX.CodeO c q)
/-- what changes: the list of a draw, a table -/
def MutAt (W : Wd) (H : Hp) (a : Addr) : Prop := (FlowAt H a ∧ ∀ q, (a, q) ∉ W.T) ∨ ∃ q, (a, q) ∈ W.T ∧ TabW W.F H a q
theorem MutAt.ex {W : Wd} {H : Hp} {a : Addr} (m : MutAt W H a) : ∃ o, H a = some o ∧ ¬ Still a o := by
  rcases m with ⟨⟨n, c, r, e⟩, _⟩ | ⟨q, _, ps, e, _⟩
  · exact ⟨_, e, still_lst⟩
  · exact ⟨_, e, still_tbl⟩
theorem MutAt.no {W : Wd} {H : Hp} {a : Addr} (m : MutAt W H a) (h : H a = none) : False := by
  obtain ⟨o, e, _⟩ := m.ex
  rw [h] at e
  cases e
theorem MutAt.st {W : Wd} {H : Hp} {a : Addr} {u : HO} (m : MutAt W H a) (h : H a = some u) (s : Still a u) : False := by
  obtain ⟨o, e, n⟩ := m.ex
  rw [h] at e
  cases e
  exact n s
theorem MutAt.mono {W W' : Wd} {H H' : Hp} {a : Addr} (m : MutAt W H a) (l : ∀ b o, W.F b = some o → W'.F b = some o) (t : W'.T = W.T) (e : ∀ o, H a = some o → H' a = some o) : MutAt W' H' a := by
  rcases m with ⟨⟨n, c, r, e1⟩, h⟩ | ⟨q, h, ps, e1, h2, h3⟩
  · exact .inl ⟨⟨n, c, r, e _ e1⟩, by rw [t]; exact h⟩
  · refine .inr ⟨q, by rw [t]; exact h, ps, e _ e1, h2, fun pos cv z => ?_⟩
    obtain ⟨c, e2, e3⟩ := h3 pos cv z
    exact ⟨c, e2, l _ _ e3⟩
theorem MutAt.flow {W : Wd} {H : Hp} {a : Addr} (m : MutAt W H a) (n : ∀ q, (a, q) ∉ W.T) : FlowAt H a := by
  rcases m with ⟨f, _⟩ | ⟨q, h, _⟩
  · exact f
  · exact absurd h (n q)
structure Ok (W : Wd) (H : Hp) : Prop where
  f : ∀ b o, W.F b = some o → H b = some o
  g : ∀ a, W.G a → W.F a = none ∧ MutAt W H a
  t : W.T = Tb.T ∧ ∀ p ∈ W.T, W.G p.1
structure Go (W : Wd) (H : Hp) (W' : Wd) (H' : Hp) : Prop where
  le : Le W W'
  gn : ∀ a, W'.G a → W.G a ∨ H a = none
  fn : ∀ a o, W'.F a = some o → W.F a = some o ∨ H a = none ∨ ∃ u, H a = some u ∧ Still a u
  p : ∀ b o, H b = some o → ¬ W.G b → H' b = some o
  ok : Ok W' H'
section
variable {W W1 W2 W' : Wd} {H H1 H2 H' : Hp} {a : Addr} {o : HO}
theorem Go.refl (k : Ok W H) : Go W H W H := ⟨.refl W, fun _ h => .inl h, fun _ _ h => .inl h, fun _ _ h _ => h, k⟩
theorem Go.gone (k : Ok W H) (g : Go W H W' H') (h : H' a = none) : H a = none := by
  cases e : H a with
  | none => rfl
  | some o =>
    by_cases hg : W.G a
    · exact ((g.ok.g a (g.le.g a hg)).2.no h).elim
    · rw [g.p a o e hg] at h
      cases h
theorem Go.trans (k : Ok W H) (g : Go W H W1 H1) (g2 : Go W1 H1 W2 H2) : Go W H W2 H2 where
  le := g.le.trans g2.le
  gn := fun a h => (g2.gn a h).elim (g.gn a) fun e => .inr (g.gone k e)
  fn := fun a o h => by
    rcases g2.fn a o h with h | h | ⟨u2, h, hs⟩
    · exact g.fn a o h
    · exact .inr (.inl (g.gone k h))
    · cases e : H a with
      | none => exact .inr (.inl rfl)
      | some u =>
        by_cases hg : W.G a
        · exact ((g.ok.g a (g.le.g a hg)).2.st h hs).elim
        · have := g.p a u e hg
          rw [h] at this
          cases this
          exact .inr (.inr ⟨_, rfl, hs⟩)
  p := fun b o e n => g2.p b o (g.p b o e n) fun h => by
    rcases g.gn b h with h | h
    · exact n h
    · rw [e] at h
      cases h
  ok := g2.ok
theorem Ok.fg (k : Ok W H) (h : W.F a = some o) : ¬ W.G a := fun g => by rw [(k.g a g).1] at h; cases h
/-- a new frozen object -/
def Wd.put (W : Wd) (a : Addr) (o : HO) : Wd := ⟨upd W.F a o, W.G, W.T⟩
theorem Ok.no (k : Ok W H) (h : H a = none) : W.F a = none ∧ ¬ W.G a := by
  refine ⟨?_, fun g => ?_⟩
  · cases e : W.F a with
    | none => rfl
    | some o =>
      rw [k.f a o e] at h
      cases h
  · exact (k.g a g).2.no h
theorem Go.putS (k : Ok W H) (sm : Same H H') (e : H' a = some o) (c : H a = none ∨ ∃ xs, o = .tup xs) : Go W H (W.put a o) H' := by
  have ng : ¬ W.G a := fun g => by
    rcases c with c | ⟨xs, c⟩
    · exact (k.g a g).2.no c
    · obtain ⟨u, e1, n⟩ := (k.g a g).2.ex
      rw [sm _ _ e1] at e
      cases e
      exact n (.inl ⟨xs, c⟩)
  have ha : ∀ u, H a = some u → u = o := fun u q => by
    have := sm _ _ q
    rw [e] at this
    exact (Option.some.inj this).symm
  have fa : ∀ u, W.F a = some u → u = o := fun u q => ha u (k.f a u q)
  refine ⟨⟨fun b u e1 => ?_, fun _ h => h, rfl⟩, fun _ h => .inl h, fun b u e1 => ?_, fun b u e1 _ => sm b u e1, ⟨fun b u e1 => ?_, fun b g => ?_, k.t⟩⟩
  · show upd W.F a o b = _
    by_cases z : b = a
    · subst z
      rw [upd_same, fa u e1]
    · rw [upd_ne z]
      exact e1
  · have e1 : upd W.F a o b = some u := e1
    by_cases z : b = a
    · subst z
      refine .inr ?_
      cases q : H b with
      | none => exact .inl rfl
      | some w =>
        have := ha w q
        subst this
        rcases c with c | ⟨xs, c⟩
        · rw [c] at q
          cases q
        · exact .inr ⟨_, rfl, .inl ⟨xs, c⟩⟩
    · rw [upd_ne z] at e1
      exact .inl e1
  · have e1 : upd W.F a o b = some u := e1
    by_cases z : b = a
    · subst z
      rw [upd_same] at e1
      rw [e, e1]
    · rw [upd_ne z] at e1
      exact sm _ _ (k.f b u e1)
  · have nb : b ≠ a := fun z => ng (z ▸ g)
    refine ⟨?_, ?_⟩
    · show upd W.F a o b = none
      rw [upd_ne nb]
      exact (k.g b g).1
    · refine (k.g b g).2.mono (fun c u e1 => ?_) rfl fun u e1 => sm _ _ e1
      show upd W.F a o c = _
      by_cases z : c = a
      · subst z
        rw [upd_same, fa u e1]
      · rw [upd_ne z]
        exact e1
theorem Go.put (k : Ok W H) (h : H a = none) : Go W H (W.put a o) (upd H a o) := Go.putS k (Com.Same.upd h) upd_same (.inl h)
/-- a new object of one's own: not in the world -/
theorem Go.own (k : Ok W H) (h : H a = none) : Go W H W (upd H a o) where
  le := .refl W
  gn := fun _ h => .inl h
  fn := fun _ _ h => .inl h
  p := fun b u e _ => by rw [upd_ne (ne_of_none e h)]; exact e
  ok := ⟨fun b u e => by rw [upd_ne (ne_of_none (k.f b u e) h)]; exact k.f b u e, fun b g => by
    have nb : b ≠ a := fun z => (k.no h).2 (z ▸ g)
    exact ⟨(k.g b g).1, (k.g b g).2.mono (fun _ _ e => e) rfl fun u e1 => by rw [upd_ne nb]; exact e1⟩, k.t⟩
/-- it changes: seen from a heap where it was not yet -/
theorem Go.mut (g : Go W H W1 H1) (h : H a = none) (f : W1.F a = none) (n : ¬ W1.G a) : Go W H W1 (upd H1 a o) where
  le := g.le
  gn := g.gn
  fn := g.fn
  p := fun b u e m => by rw [upd_ne (ne_of_none e h)]; exact g.p b u e m
  ok := ⟨fun b u e => by rw [upd_ne (ne_of_none e f)]; exact g.ok.f b u e, fun b gb => by
    have nb : b ≠ a := fun z => n (z ▸ gb)
    exact ⟨(g.ok.g b gb).1, (g.ok.g b gb).2.mono (fun _ _ e => e) rfl fun u e1 => by rw [upd_ne nb]; exact e1⟩, g.ok.t⟩
/-- it is frozen -/
theorem Go.freeze (g : Go W H W1 H1) (h : H a = none) (f : W1.F a = none) (n : ¬ W1.G a) (e : H1 a = some o) : Go W H (W1.put a o) H1 ∧ Le W1 (W1.put a o) := by
  have l : Le W1 (W1.put a o) := ⟨fun b u e => by
    show upd W1.F a o b = _
    rw [upd_ne (ne_of_none e f)]
    exact e, fun _ h => h, rfl⟩
  refine ⟨⟨g.le.trans l, g.gn, fun b u e2 => ?_, g.p, ⟨fun b u e2 => ?_, fun b gb => ⟨?_, (g.ok.g b gb).2.mono l.f rfl fun _ e => e⟩, g.ok.t⟩⟩, l⟩
  · by_cases z : b = a
    · rw [z]
      exact .inr (.inl h)
    · have e2 : upd W1.F a o b = some u := e2
      rw [upd_ne z] at e2
      exact g.fn b u e2
  · by_cases z : b = a
    · subst z
      have e2 : upd W1.F b o b = some u := e2
      rw [upd_same] at e2
      rw [e]
      exact e2
    · have e2 : upd W1.F a o b = some u := e2
      rw [upd_ne z] at e2
      exact g.ok.f b u e2
  · show upd W1.F a o b = none
    have gb : W1.G b := gb
    rw [upd_ne (fun z : b = a => n (by rw [← z]; exact gb))]
    exact (g.ok.g b gb).1
theorem Go.same (k : Ok W H) (s : Same H H1) : Go W H W H1 := ⟨.refl W, fun _ h => .inl h, fun _ _ h => .inl h, fun b o e _ => s b o e, ⟨fun b o e => s b o (k.f b o e), fun a g => ⟨(k.g a g).1, (k.g a g).2.mono (fun _ _ e => e) rfl fun u e => s _ _ e⟩, k.t⟩⟩
end
inductive En where
  | d (x : D)
  /-- a list of one's own: it may change -/
  | own (ds : List D)
abbrev Ev := List (Option En)
def SlotV (W : Wd) (H0 H : Hp) (v : V) : En → Prop
  | .d x => Vd W v x
  | .own ds => ∃ a vs, v = .ref a ∧ H a = some (.lst vs) ∧ VdA W vs ds ∧ W.F a = none ∧ ¬ W.G a ∧ H0 a = none
structure Rep (W : Wd) (H0 H : Hp) (σ : L2.St) (ρ : Ev) : Prop where
  ok : Ok W H
  len : σ.length = ρ.length
  at_ : ∀ (i : Nat) (e : En), ρ[i]? = some (some e) → ∃ v, σ[i]? = some (some v) ∧ SlotV W H0 H v e
  sep : ∀ (i j : Nat) (ds es : List D) (v : V), ρ[i]? = some (some (.own ds)) → ρ[j]? = some (some (.own es)) → σ[i]? = some (some v) → σ[j]? = some (some v) → i = j
section
variable {W W' W1 : Wd} {H H0 H' H1 : Hp} {σ σ' : L2.St} {ρ ρ' : Ev} {i : Nat} {v : V} {d : D} {ds : List D} {a : Addr}
theorem SlotV.go (k : Ok W H) (g : Go W H W' H') {e : En} (h : SlotV W H0 H v e) : SlotV W' H0 H' v e := by
  cases e with
  | d x => exact Vd.mono g.le h
  | own ds =>
    obtain ⟨a, vs, e, e1, t, f, n, z⟩ := h
    refine ⟨a, vs, e, g.p a _ e1 n, VdA.mono g.le t, ?_, fun q => ?_, z⟩
    · cases q : W'.F a with
      | none => rfl
      | some o =>
        rcases g.fn a o q with h | h | ⟨u, h, hs⟩
        · rw [f] at h; cases h
        · rw [e1] at h; cases h
        · rw [e1] at h; cases h; exact (still_lst hs).elim
    · rcases g.gn a q with h | h
      · exact n h
      · rw [e1] at h; cases h
theorem Rep.go (R : Rep W H0 H σ ρ) (g : Go W H W' H') : Rep W' H0 H' σ ρ := ⟨g.ok, R.len, fun i e h => let ⟨v, e1, s⟩ := R.at_ i e h; ⟨v, e1, s.go R.ok g⟩, R.sep⟩
theorem Rep.var (R : Rep W H0 H σ ρ) (h : ρ[i]? = some (some (.d d))) : ∃ v, σ[i]? = some (some v) ∧ Vd W v d := R.at_ i _ h
theorem getset {α : Type} {l : List α} {i j : Nat} {x y : α} (h : (l.set i x)[j]? = some y) : (j = i ∧ y = x ∧ i < l.length) ∨ (j ≠ i ∧ l[j]? = some y) := by
  by_cases e : i = j
  · subst e
    rw [List.getElem?_set_self'] at h
    cases q : l[i]? with
    | none => rw [q] at h; cases h
    | some z =>
      rw [q] at h
      cases h
      exact .inl ⟨rfl, rfl, (List.getElem?_eq_some_iff.mp q).1⟩
  · rw [List.getElem?_set_ne e] at h
    exact .inr ⟨fun z => e z.symm, h⟩
theorem Rep.set (R : Rep W H0 H σ ρ) (h : Vd W v d) : Rep W H0 H (σ.set i (some v)) (ρ.set i (some (.d d))) where
  ok := R.ok
  len := by rw [List.length_set, List.length_set, R.len]
  at_ := fun j e q => by
    rcases getset q with ⟨rfl, e1, l⟩ | ⟨n, q⟩
    · cases e1
      exact ⟨v, List.getElem?_set_self (by rw [R.len]; exact l), h⟩
    · obtain ⟨u, e1, s⟩ := R.at_ j e q
      exact ⟨u, by rw [List.getElem?_set_ne (fun z => n z.symm)]; exact e1, s⟩
  sep := fun j k xs ys u q1 q2 q3 q4 => by
    rcases getset q1 with ⟨_, e1, _⟩ | ⟨n1, q1⟩
    · cases e1
    rcases getset q2 with ⟨_, e1, _⟩ | ⟨n2, q2⟩
    · cases e1
    rw [List.getElem?_set_ne (fun z => n1 z.symm)] at q3
    rw [List.getElem?_set_ne (fun z => n2 z.symm)] at q4
    exact R.sep j k xs ys u q1 q2 q3 q4
theorem Rep.wipe1 (R : Rep W H0 H σ ρ) : Rep W H0 H (σ.set i none) (ρ.set i none) where
  ok := R.ok
  len := by rw [List.length_set, List.length_set, R.len]
  at_ := fun j e q => by
    rcases getset q with ⟨_, e1, _⟩ | ⟨n, q⟩
    · cases e1
    · obtain ⟨u, e1, s⟩ := R.at_ j e q
      exact ⟨u, by rw [List.getElem?_set_ne (fun z => n z.symm)]; exact e1, s⟩
  sep := fun j k xs ys u q1 q2 q3 q4 => by
    rcases getset q1 with ⟨_, e1, _⟩ | ⟨n1, q1⟩
    · cases e1
    rcases getset q2 with ⟨_, e1, _⟩ | ⟨n2, q2⟩
    · cases e1
    rw [List.getElem?_set_ne (fun z => n1 z.symm)] at q3
    rw [List.getElem?_set_ne (fun z => n2 z.symm)] at q4
    exact R.sep j k xs ys u q1 q2 q3 q4
def wipeD (ρ : Ev) : List Nat → Ev
  | [] => ρ
  | v :: vs => (wipeD ρ vs).set v none
theorem Rep.wipe (R : Rep W H0 H σ ρ) : ∀ vs : List Nat, Rep W H0 H (L2.wipe σ vs) (wipeD ρ vs)
  | [] => R
  | v :: vs => by
    unfold L2.wipe wipeD
    exact (Rep.wipe R vs).wipe1
/-- a list of one's own changes -/
theorem Rep.mutOwn {es : List D} {us : List V} (R : Rep W H0 H σ ρ) (q : ρ[i]? = some (some (.own ds))) (qs : σ[i]? = some (some (.ref a))) (t : VdA W us es) : Rep W H0 (upd H a (.lst us)) σ (ρ.set i (some (.own es))) ∧ W.F a = none ∧ ¬ W.G a ∧ H0 a = none := by
  obtain ⟨v, e1, b, vs, e2, e3, t0, f, n, z⟩ := R.at_ i _ q
  rw [qs] at e1
  cases e1
  cases e2
  refine ⟨⟨⟨fun b u e => ?_, fun b gb => ?_, R.ok.t⟩, by rw [List.length_set, R.len], fun j e h => ?_, fun j k xs ys u q1 q2 q3 q4 => ?_⟩, f, n, z⟩
  · rw [upd_ne (ne_of_none e f)]
    exact R.ok.f b u e
  · have nb : b ≠ a := fun z => n (z ▸ gb)
    exact ⟨(R.ok.g b gb).1, (R.ok.g b gb).2.mono (fun _ _ e => e) rfl fun u e1 => by rw [upd_ne nb]; exact e1⟩
  · rcases getset h with ⟨rfl, e1, l⟩ | ⟨nj, h⟩
    · cases e1
      exact ⟨_, qs, a, us, rfl, upd_same, t, f, n, z⟩
    · obtain ⟨u, e1, s⟩ := R.at_ j e h
      refine ⟨u, e1, ?_⟩
      cases e with
      | d x => exact s
      | own xs =>
        obtain ⟨b, ws, e2, e3, r1, r2, r3, r4⟩ := s
        refine ⟨b, ws, e2, ?_, r1, r2, r3, r4⟩
        rw [upd_ne (fun z => nj (R.sep j i xs ds u h q e1 (by rw [e2, z]; exact qs)))]
        exact e3
  · have f1 : ∀ (j : Nat) (xs : List D), (ρ.set i (some (.own es)))[j]? = some (some (.own xs)) → ∃ zs : List D, ρ[j]? = some (some (.own zs)) := fun j xs h => by
      rcases getset h with ⟨rfl, e1, l⟩ | ⟨nj, h⟩
      · exact ⟨_, q⟩
      · exact ⟨_, h⟩
    obtain ⟨zs, h1⟩ := f1 j xs q1
    obtain ⟨ws, h2⟩ := f1 k ys q2
    exact R.sep j k zs ws u h1 h2 q3 q4
end
/-- no list of one's own among the slots -/
def NoOwn (ρ : Ev) : Prop := ∀ (i : Nat) (ds : List D), ρ[i]? ≠ some (some (.own ds))
def plain1 : Option En → Option En
  | some (.own _) => none
  | x => x
def plain (ρ : Ev) : Ev := ρ.map plain1
theorem plain_at {ρ : Ev} {i : Nat} {e : En} (h : (plain ρ)[i]? = some (some e)) : ρ[i]? = some (some e) ∧ ∃ d, e = .d d := by
  unfold plain at h
  rw [List.getElem?_map] at h
  cases q : ρ[i]? with
  | none => rw [q] at h; cases h
  | some o =>
    rw [q] at h
    cases o with
    | none => cases h
    | some u =>
      cases u with
      | own ds => cases h
      | d x =>
        cases h
        exact ⟨rfl, x, rfl⟩
theorem plain_no (ρ : Ev) : NoOwn (plain ρ) := fun i ds h => by
  obtain ⟨_, d, e⟩ := plain_at h
  cases e
theorem NoOwn.set {ρ : Ev} {i : Nat} {d : D} (h : NoOwn ρ) : NoOwn (ρ.set i (some (.d d))) := fun j ds q => by
  rcases getset q with ⟨_, e, _⟩ | ⟨_, q⟩
  · cases e
  · exact h j ds q
theorem NoOwn.wipe {ρ : Ev} (h : NoOwn ρ) : ∀ vs : List Nat, NoOwn (wipeD ρ vs)
  | [] => h
  | v :: vs => fun j ds q => by
    unfold wipeD at q
    rcases getset q with ⟨_, e, _⟩ | ⟨_, q⟩
    · cases e
    · exact NoOwn.wipe h vs j ds q
theorem Rep.plain {W : Wd} {H0 H : Hp} {σ : L2.St} {ρ : Ev} (R : Rep W H0 H σ ρ) : Rep W H0 H σ (plain ρ) :=
  ⟨R.ok, by unfold Dt.plain; rw [List.length_map, R.len], fun i e h => R.at_ i e (plain_at h).1, fun i j ds es v h => absurd h (plain_no ρ i ds)⟩
theorem Rep.free {W W' : Wd} {H0 H H' : Hp} {σ : L2.St} {ρ : Ev} (R : Rep W H0 H σ ρ) (n : NoOwn ρ) (l : Le W W') (k : Ok W' H') : Rep W' H0 H' σ ρ :=
  ⟨k, R.len, fun i e h => by
    cases e with
    | own ds => exact absurd h (n i ds)
    | d x =>
      obtain ⟨v, e1, hv⟩ := R.at_ i _ h
      exact ⟨v, e1, Vd.mono l hv⟩, fun i j ds es v h => absurd h (n i ds)⟩
end Dt
set_option Elab.async false
set_option linter.all false
set_option maxRecDepth 100000
set_option maxHeartbeats 4000000
namespace Gn
open PySem PySem.Spec PyProof.Rows L2 Com Sd StV
/-- a clause: the class, the slot of its name, its suite -/
structure Cl where
  c : Value
  i : Nat
  ts : Addr → Value → Option Addr → TS
end Gn
set_option Elab.async false
set_option linter.all false
set_option maxRecDepth 100000
set_option maxHeartbeats 4000000
namespace PySem
namespace Exo_side
open PySem.W PySem.Calls PyProof.Rows PySem.HandSPX
def iA (p1 p2 : Pos) : Arguments := { posonlyargs := [], args := [{ arg := "self", annotation := none, pos := p1 }, { arg := "side", annotation := none, pos := p2 }], vararg := none, kwonlyargs := [], kw_defaults := [], kwarg := none, defaults := [] }
abbrev sCall (msg : Str) (q1 q2 q3 q4 q5 : Pos) : Expr := .Call (.Attribute (.Call (.Name "super" q1) [] [] q2) "__init__" q3) [.Constant (.str msg) 0 q4] [] q5
def iB (msg : Str) (q1 q2 q3 q4 q5 q6 q7 q8 q9 q10 : Pos) : List Stmt :=
  [.Expr (sCall msg q1 q2 q3 q4 q5) q6, .Assign [.Attribute (.Name "self" q7) "side" q8] (.Name "side" q9) q10]
def iS : Scope := { kind := .function, names := [(PySem.Str.ofString "self", .local), (PySem.Str.ofString "side", .local), (PySem.Str.ofString "__class__", .free), (PySem.Str.ofString "super", .globalImplicit)], isGenerator := false, isCoroutine := false, more := [] }
/-- how the call of the bound __init__ is read -/
def Reads (msg : Str) (q1 q2 q3 q4 q5 : Pos) (env : Env) : Prop := ∃ pl : Sem Bool, eval (sCall msg q1 q2 q3 q4 q5) env = (do
  let ov ← attributeBase (.Call (.Name "super" q1) [] [] q2) "__init__" env (eval (.Call (.Name "super" q1) [] [] q2) env)
  standAt q3.atName
  let (f, first) ← holding [ov] (getMethod ov "__init__" pl)
  callWith q5 f first (backTo q5 (starEach [.Constant (.str msg) 0 q4] env)) [])
/-- what the written part says of the class x, at C, and of its __init__, at fI -/
structure Txt (prog : Program) (K : Frag) (mg : Str → Option Value) (x : Str) (C fI : Addr) : Prop where
  gC : mg x = some (.ref C)
  gS : mg "super" = none
  cls : ∃ nm q N bs bm sn sub ab col dd k0 k1 k2 k3 k5, K.lookup C = some (excClassObj nm q C N bs bm true sn sub ab col dd k0 k1 k2 k3 k5 "ValueError.__new__") ∧ refsVE bm = true
  sup : ks_superIn K C C "__init__" = some (some (.builtin "ValueError.__init__"))
  sVE : subIn K (.ref C) (.type "ValueError") = some true
  own : mroIn K C (.ref C) = some true
  op : nsIn K cStatics "thirdparty.any" = some none
  sa : findIn K (.ref C) "__setattr__" = some (some (.builtin "object.__setattr__"))
  ga : findIn K (.ref C) "__getattribute__" = some (some (.builtin "BaseException.__getattribute__"))
  gg : findIn K (.ref C) "__getattr__" = some none
  noN : findIn K (.ref C) "side" = some none
  iC : findIn K (.ref C) "__init__" = some (some (.ref fI))
  tC : typeIn K (.ref fI) = some (.type "function")
  kC : keepIn K (.ref C) = true
  exC : subIn K (.ref C) (.type "BaseException") = some true
  tyC : typeIn K (.ref C) = some (.type "type")
  hdC : hasDictIn K C = true
  te : exmOne K (.ref C) (.ref C) = some true
  top : (prog.main.scope.names.lookup ("super" : Str)).isSome = false
  fn : ∃ (oc : Value) (od : Option Addr) (doc pm : Value) (an : Option Addr) (ct : Value) (osl : Array (Option Value)) (cda cc : Addr) (qual : Str) (p1 p2 : Pos) (msg : Str) (q1 q2 q3 q4 q5 q6 q7 q8 q9 q10 : Pos)
      (cl : Value) (cld : Option Addr) (csl : Array (Option Value)) (ccl : Value) (cdd : Option Addr) (vs : Array Value) (ccs : Array (Option Value)) (file : Str) (tf : Tok),
    K.lookup fI = some ⟨oc, od, .func (ksFn "__init__" qual (iA p1 p2) (iB msg q1 q2 q3 q4 q5 q6 q7 q8 q9 q10) iS .none .none doc pm an (.ref cda) ct cc), osl⟩ ∧ codeIn K (.ref cda) qual = true ∧
    K.lookup cc = some ⟨cl, cld, .cell (some (.ref C)), csl⟩ ∧ K.lookup cda = some ⟨ccl, cdd, .fields vs, ccs⟩ ∧ vs[2]? = some (.str file tf) ∧ ((prog.main.file : Str) == file) = true ∧ (∀ L : Addr, Reads msg q1 q2 q3 q4 q5 (ksEnv qual iS L fI (.ref cda) cc))
theorem kept_but {K : Frag} {h h' : Heap} {x : Addr} (X : K.In h) (hx : K.lookup x = none) (k : ∀ b o, b ≠ x → h.get? b = some o → h'.get? b = some o) : K.In h' := fun a o e =>
  k a o (fun z => by rw [z, hx] at e; cases e) (X a o e)
theorem one_size (v : Value) : [v].length ≤ sizeLine := by
  rw [sizeLine_eq]
  exact (by decide : 1 ≤ 16777216)
/-- what __init__ leaves of a fresh exception at x -/
structure InitEnd (h h' : Heap) (x C dx t1 : Addr) (v : Value) : Prop where
  keep : ∀ b o, b ≠ x → h.get? b = some o → h'.get? b = some o
  obj : h'.get? x = some { cls := .ref C, dict := some dx, data := .fields #[.ref t1, .none, .none, .none, .bool false, .none] }
  dbig : h.objs.size ≤ dx
  dne : dx ≠ x
  ns : h'.Ns1 dx (fun y => if y = "side" then some v else none)
/-- a made one -/
structure OwnMade (h h' : Heap) (e C d : Addr) (v : Value) : Prop where
  keep : ∀ b o, h.get? b = some o → h'.get? b = some o
  new : h.objs.size ≤ e
  obj : ∃ oe vs, h'.get? e = some oe ∧ oe.cls = .ref C ∧ oe.dict = some d ∧ oe.data = .fields vs ∧ vs[1]? = some .none
  dbig : h.objs.size ≤ d
  dne : d ≠ e
  ns : h'.Ns1 d (fun y => if y = "side" then some v else none)
section
variable {M : Model} {prog : Program} {w : World} {A : Around} {E : Value → Shared → Prop} {h : Heap} {g : Array GenState} {d : Drawn} {t : Nat} {os : OsState}
variable {nm q : Str} {C N : Addr} {bs bm : List Value} {hdct : Bool} {sn : List Str} {sub : List Value} {ab : Bool} {col : Option Bool} {dd : Option Addr} {k0 k1 k2 k3 k5 : Option Value}
/-- the bound ValueError.__init__ is called -/
theorem call_mw {u e t0 : Addr} {rest : List Value} {Q : Value → Shared → Prop}
    (hC : h.get? C = some (excClassObj nm q C N bs bm hdct sn sub ab col dd k0 k1 k2 k3 k5 "ValueError.__new__")) (he : h.get? e = some (excO C t0)) (hu : h.get? u = some (kxs_mw "ValueError.__init__" e)) (hrest : rest.length ≤ sizeLine)
    (hq : ∀ h' t1, (∀ b o, b ≠ e → h.get? b = some o → h'.get? b = some o) → h'.get? e = some (excO C t1) → h.objs.size ≤ h'.objs.size → Q .none ⟨h', g, d, t, os⟩) :
    wpAny (model prog w) A (call (.ref u) rest) Q E ⟨h, g, d, t, os⟩ := by
  refine wpAny_call (codeAny_of_tree ?_)
  show wpAny _ A.in1 (callAny (.ref u) ⟨rest, []⟩) _ _ _
  simp only [callAny]
  refine wpAny_bind (wpAny_load hu ?_)
  simp only [kxs_mw, show (Value.type "method-wrapper" == Value.type "method" || Value.type "method-wrapper" == Value.type "builtin_function_or_method" || Value.type "method-wrapper" == Value.type "method-wrapper") = true by decide, if_true]
  refine KFB.if_so (by decide) ?_
  refine wpAny_bind (check_bound_init F.excBase_ValueError.toExcCallFacts hC he rfl ?_)
  refine wpAny_bind (wpAny_pure (wpAny_pure ?_))
  refine ⟨plainId_quiet F.excBase_ValueError.init.plain _, codeAny_builtin F.excBase_ValueError.initEntry ?_⟩
  refine exc_init_tree (cls := .ref C) (t0 := t0) (dv := none) (c2 := .none) (c3 := .none) (b4 := .bool false) he hrest fun h' k hx ht => hq h' h.objs.size k hx (Nat.le_of_lt (Heap.lt_size ht))
end
section
variable {prog : Program} {w : World} {A : Around} {E : Value → Shared → Prop} {R : Result → Shared → Prop} {s : Shared} {K : Frag} {mg : Str → Option Value} {C fI : Addr} {nm : Str}
theorem ldC {M : Model} {s : Shared} {env : Env} {m : Str → Option Value} {x : Str} {pos : Pos} {v : Value} {Q : Value → Shared → Prop} {A : Around} {E : Value → Shared → Prop} (hn : s.heap.Ns env.locals m) (hv : m x = some v) (h : Q v s)
    (hk : env.scope.kind = .function := by rfl) (hl : env.kindOf x = some .local := by rfl) (hd : (x == ("__debug__" : Str)) = false := by decide) : wpAny M A (eval (.Name x pos) env) Q E s := wpAny_Name (wpAny_loadName_local hk hl hn hv h) hd
theorem init (T : Txt prog K mg nm C fI) {x t0 : Addr} {v : Value} {mb : Str → Option Value} (X : K.In s.heap) (hg : s.heap.Ns mainGlobals mg) (hb : s.heap.Ns builtinsNs mb) (hbv : ∀ y : Str, y ≠ "__name__" → mb y = bootBuiltins y)
    (hlim : s.heap.NoLimit) (hx : s.heap.get? x = some (excO C t0)) (hnx : K.lookup x = none) (hroom : A.depth < recursionLimit)
    (hq : ∀ h' tk dx t1, InitEnd s.heap h' x C dx t1 v → R (.ok (.ret .none)) { s with heap := h', toks := tk }) :
    codeAny (model prog w) A (.call (.ref fI) ⟨[.ref x, v], []⟩) R s := by
  obtain ⟨oc, od, doc, pm, an, ct, osl, cda, cc, qual, p1, p2, msg, q1, q2, q3, q4, q5, q6, q7, q8, q9, q10, cl, cld, csl, ccl, cdd, vs, ccs, file, tf, lk, hcd, hcell, hcode, hvs, hfile, hrd⟩ := T.fn
  obtain ⟨pl, hpl⟩ := hrd s.heap.objs.size
  obtain ⟨cn, q, N, bs, bm, sn, sub, ab, col, dd, k0, k1, k2, k3, k5, hC, hbm⟩ := T.cls
  have hcl : clsIn K C = some { name := cn, bases := bs, mro := .ref C :: bm, ns := N, qualname := q, hasDict := true, slotNames := sn, subclasses := sub, abstract := ab, collection := col, hasDel := false } := by unfold clsIn; rw [hC] <;> rfl
  refine ks_codeAny_call_defAt (fd := ksFn "__init__" qual (iA p1 p2) (iB msg q1 q2 q3 q4 q5 q6 q7 q8 q9 q10) iS .none .none doc pm an (.ref cda) ct cc) (body := iB msg q1 q2 q3 q4 q5 q6 q7 q8 q9 q10) (binds := [("self", .ref x), ("side", v)]) hroom (X _ _ lk) rfl hlim (codeRec_of X hcd) rfl
    (BindsTo.of_eq (by first | rfl | with_unfolding_all rfl)) (show ∀ y ∈ iS.names, y.2 ≠ .cell by decide) (by intro y hy; rcases List.mem_cons.mp hy with rfl | hy <;> first | rfl | (rcases List.mem_cons.mp hy with rfl | hy <;> first | rfl | cases hy)) (fun h₁ hns k => ?_) rfl rfl rfl
  have X₁ : K.In h₁ := X.keeps k
  have hx₁ := k _ _ hx
  have hxL : s.heap.objs.size ≠ x := Nat.ne_of_gt (Heap.lt_size hx)
  have hxC : x ≠ C := fun z => by
    have y := X _ _ hC
    rw [← z, hx] at y
    cases y
  show PySem.wpAt (model prog w) _ _ (execs (iB msg q1 q2 q3 q4 q5 q6 q7 q8 q9 q10) (ksEnv qual iS s.heap.objs.size fI (.ref cda) cc)) _ _ _
  refine ks_wpAt_execs_cons (ks_wpAt_Expr_any (ks_wpAt_MethodCall (pl := pl) ?_ hpl))
  refine ks_wpAt_super_base (env := ksEnv qual iS s.heap.objs.size fI (.ref cda) cc) rfl rfl rfl rfl (X₁ _ _ lk) rfl rfl rfl (X₁ _ _ hcode) rfl hvs hfile T.top ?_
  refine ks_loadName_global rfl rfl (loadGlobal_builtin (env := ksEnv qual iS s.heap.objs.size fI (.ref cda) cc) (hg.keeps k) T.gS (hb.keeps k) ((hbv _ (by decide)).trans PyProof.Rows.Boot.«super») ⟨rfl, ?_⟩)
  refine wpAny_loadName_free (env := ksEnv qual iS s.heap.objs.size fI (.ref cda) cc) rfl rfl rfl ⟨_, X₁ _ _ hcell, rfl⟩ ?_
  refine wpAny_loadName_local (env := ksEnv qual iS s.heap.objs.size fI (.ref cda) cc) (v := .ref x) rfl rfl hns (by first | rfl | with_unfolding_all rfl | kernel_rfl) ?_
  refine ks_wpAny_isType_cls (X₁ _ _ hC) rfl ⟨rfl, ?_⟩
  refine ks_wpAny_call_super (X₁ _ _ hC) rfl hx₁ rfl (fun c e => nomatch e) (looks_mroIn X₁ T.own) (fun h₂ hso k₂ => ?_)
  have X₂ : K.In h₂ := X₁.keeps k₂
  have hx₂ := k₂ _ _ hx₁
  have I₂ : InstAt h₂ x (excO C t0) C none := ⟨hx₂, rfl, rfl, trivial⟩
  have hm := T.sup
  unfold ks_superIn at hm
  rw [hcl] at hm
  refine kxs_getMethod kxs_ValueError hso (looks_opaque X₂ T.op) (l₀ := .ref C :: bm) ((looks_clsIn X₂ hcl).andThen .now) rfl X₂ hm (I₂.type.andThen (looks_subIn X₂ T.sVE)) hxC rfl ?_
  have k₁₂ : ∀ b o, h₁.get? b = some o → (h₂.push (kxs_mw "ValueError.__init__" x)).get? b = some o := fun b o e => Heap.get?_push_of_some _ (k₂ b o e)
  have hu : (h₂.push (kxs_mw "ValueError.__init__" x)).get? h₂.objs.size = some (kxs_mw "ValueError.__init__" x) := Heap.get?_push_at rfl rfl
  have sz₂ : s.heap.objs.size ≤ (h₂.push (kxs_mw "ValueError.__init__" x)).objs.size := by
    have a : h₂.objs.size < (h₂.push (kxs_mw "ValueError.__init__" x)).objs.size := Heap.lt_size hu
    have b : h₁.objs.size < h₂.objs.size := Heap.lt_size hso
    have c : s.heap.objs.size < h₁.objs.size := hns.lt
    omega
  generalize h₂.push (kxs_mw "ValueError.__init__" x) = h₂' at k₁₂ hu sz₂ ⊢
  have X₂' : K.In h₂' := X₁.keeps k₁₂
  show wpAny _ _ (callWith q5 (.ref h₂.objs.size) [] (backTo q5 (starEach (.Constant (.str msg) 0 q4 :: []) (ksEnv qual iS s.heap.objs.size fI (.ref cda) cc))) []) _ _ _
  rw [show starEach (.Constant (.str msg) 0 q4 :: []) (ksEnv qual iS s.heap.objs.size fI (.ref cda) cc) = (false, eval (.Constant (.str msg) 0 q4) (ksEnv qual iS s.heap.objs.size fI (.ref cda) cc)) :: starEach [] (ksEnv qual iS s.heap.objs.size fI (.ref cda) cc) from rfl]
  refine kxs_callWith (i := "ValueError.__init__") (x := x) rfl (evalArgs_plain (Calls.spliced_cons (wpAny_Constant_str (env := ksEnv qual iS s.heap.objs.size fI (.ref cda) cc) (x := msg) (k := 0) (pos := q4) (Calls.spliced_nil ⟨hu, ?_⟩))))
  refine call_mw (X₂' _ _ hC) (k₁₂ _ _ hx₁) hu (one_size _) fun h₃ t1 k₃ hx₃ sz₃ => ?_
  have X₃ : K.In h₃ := kept_but X₂' hnx k₃
  have hns₃ : h₃.Ns s.heap.objs.size (fun y => List.lookup y [(PySem.Str.ofString "self", Value.ref x), (PySem.Str.ofString "side", v)].reverse) := by
    obtain ⟨oL, es, ep, hL, r⟩ := hns
    exact ⟨oL, es, ep, k₃ _ _ hxL (k₁₂ _ _ hL), r⟩
  -- self.field = field
  show PySem.wpAt _ _ _ (execs [.Assign [.Attribute (.Name "self" q7) "side" q8] (.Name "side" q9) q10] (ksEnv qual iS s.heap.objs.size fI (.ref cda) cc)) _ _ _
  refine ks_wpAt_execs_cons (wpAt_of_wpAny (plainObj_wpAny_Assign_Attribute ?_))
  refine ldC (env := ksEnv qual iS s.heap.objs.size fI (.ref cda) cc) (v := v) hns₃ (by first | rfl | with_unfolding_all rfl | kernel_rfl) (ldC (env := ksEnv qual iS s.heap.objs.size fI (.ref cda) cc) (v := .ref x) hns₃ (by first | rfl | with_unfolding_all rfl | kernel_rfl) ?_)
  refine set_plain X₃ (ox := excO C t1) (od := none) ⟨hx₃, rfl, rfl, trivial⟩ T.sa ?_
  refine exc_osa X₃ hx₃ hcl (show refsVE (.ref C :: bm) = true from hbm) rfl T.noN (fun h₄ tk₄ dx k₄ dn dne hx₄ hn₄ => ?_)
  refine wpAt_of_wpAny (wpAny_execs_nil (hq h₄ tk₄ dx t1 ⟨fun b o hb e => k₄ b o hb (k₃ b o hb (k₁₂ b o (k b o e))), hx₄, Nat.le_trans sz₂ (Nat.le_trans sz₃ dn), dne, hn₄⟩))
theorem made (T : Txt prog K mg nm C fI) {v : Value} {mb : Str → Option Value} (X : K.In s.heap) (hg : s.heap.Ns mainGlobals mg) (hb : s.heap.Ns builtinsNs mb) (hbv : ∀ y : Str, y ≠ "__name__" → mb y = bootBuiltins y) (hlim : s.heap.NoLimit)
    (hroom : A.depth + 1 < recursionLimit) (hq : ∀ h' tk e d, OwnMade s.heap h' e C d v → R (.ok (.ret (.ref e))) { s with heap := h', toks := tk }) :
    codeAny (model prog w) A (.call (.ref C) ⟨[v], []⟩) R s := by
  obtain ⟨cn, q, N, bs, bm, sn, sub, ab, col, dd, k0, k1, k2, k3, k5, hC, hbm⟩ := T.cls
  obtain ⟨hp, g, dr, tk, os⟩ := s
  have k : ∀ b o, hp.get? b = some o → ((hp.push (kdv_tup [v])).push (excO C hp.objs.size)).get? b = some o := fun b o e => Heap.get?_push_of_some _ (Heap.get?_push_of_some _ e)
  have hget : ((hp.push (kdv_tup [v])).push (excO C hp.objs.size)).get? (hp.objs.size + 1) = some (excO C hp.objs.size) := by heap_get
  have hnx : K.lookup (hp.objs.size + 1) = none := by
    cases e : K.lookup (hp.objs.size + 1) with
    | none => rfl
    | some o =>
      have z : hp.get? (hp.objs.size + 1) = some o := X _ _ e
      exact absurd (Nat.lt_of_succ_lt (Heap.lt_size z)) (Nat.lt_irrefl _)
  refine call_own F.excBase_ValueError (fun X => refsVE_contains X bm hbm) (X _ _ hC) (looks_findIn X T.iC) (fun self => bind_fn X self T.tC) (one_size v) ?_
  refine init (s := ⟨(hp.push (kdv_tup [v])).push (excO C hp.objs.size), g, dr, tk, os⟩) T (X.keeps k) (hg.keeps k) (hb.keeps k) hbv (hlim.keeps k) hget hnx ?_ fun h' tk' dx t1 ⟨k', hx, dn, dne, hns⟩ => ?_
  · show A.depth + 1 < recursionLimit
    exact hroom
  · have old : ∀ b o, hp.get? b = some o → h'.get? b = some o := fun b o e => k' b o (Nat.ne_of_lt (Nat.lt_succ_of_lt (Heap.lt_size e))) (k b o e)
    have z : hp.objs.size + 1 + 1 ≤ dx := by
      first
        | (simpa only [Heap.size_push] using dn)
        | exact dn
        | (have q := dn; rw [Heap.size_push, Heap.size_push] at q; exact q)
    exact ⟨rfl, hq h' tk' (hp.objs.size + 1) dx ⟨old, Nat.le_succ _, ⟨_, _, hx, rfl, rfl, rfl, rfl⟩, Nat.le_trans (Nat.le_trans (Nat.le_succ _) (Nat.le_succ _)) z, dne, hns⟩⟩
end
end Exo_side
end PySem
set_option Elab.async false
set_option linter.all false
namespace Sd
def takeL (L : List PP) (p : PP) : List PP := L.filter fun c => !decide (c = p)
theorem LoadOk.le {n m : Nat} {L : List PP} (h : LoadOk n m L) : L.Pairwise (fun a b => leP a b = true) := by
  have := List.pairwise_map.mp h.asc
  exact this.imp fun {a b} x => leP_iff.mpr (.inl x)
theorem LoadOk.nodup {n m : Nat} {L : List PP} (h : LoadOk n m L) : L.Nodup := by
  have := List.pairwise_map.mp h.asc
  exact this.imp fun {a b} x e => by rw [e] at x; omega
theorem take_perm {L : List PP} {p : PP} (nd : L.Nodup) (hp : p ∈ L) : L.Perm (takeL L p ++ [p]) := by
  have e : takeL L p = L.erase p := by
    rw [List.Nodup.erase_eq_filter nd]
    unfold takeL
    congr 1
    funext c
    by_cases z : c = p <;> simp [z]
  rw [e]
  exact (List.perm_cons_erase hp).trans (List.perm_append_comm (l₁ := [p]))
theorem LoadOk.take {n m : Nat} {L : List PP} (p : PP) (h : LoadOk n m L) : LoadOk n m (takeL L p) :=
  ⟨fun q hq => h.rng q (List.mem_filter.mp hq).1, h.asc.sublist ((List.filter_sublist).map _), List.Pairwise.sublist ((List.filter_sublist).map _) h.nd⟩
theorem left_more {ds is js : List Int} {i : Int} (h : is.Perm (js ++ [i])) (g : ∀ d ∈ left ds is, 0 ≤ d) : (∀ d ∈ left ds js, 0 ≤ d) ∧ (0 ≤ i → i < ds.length → 0 < (left ds js).getD i.toNat 0) := by
  have key : ∀ {j : Nat} {d : Int}, ds[j]? = some d → 0 ≤ d - ((is.count (j : Int) : Nat) : Int) := fun {j d} e => by
    refine g _ (List.mem_of_getElem? (i := j) ?_)
    rw [left_get, e]
    rfl
  have cnt : ∀ j : Nat, is.count (j : Int) = js.count (j : Int) + [i].count (j : Int) := fun j => by rw [h.count_eq, List.count_append]
  constructor
  · intro d hd
    obtain ⟨j, hj⟩ := List.getElem?_of_mem hd
    rw [left_get] at hj
    cases e : ds[j]? with
    | none => rw [e] at hj; cases hj
    | some z =>
      rw [e] at hj
      have := key e
      have c := cnt j
      simp only [Option.map_some, Option.some.injEq] at hj
      omega
  · intro h0 h1
    obtain ⟨n, rfl⟩ := Int.eq_ofNat_of_zero_le h0
    have hn : n < ds.length := by omega
    have e : ds[n]? = some ds[n] := List.getElem?_eq_getElem hn
    have k := key e
    have c := cnt n
    rw [List.count_singleton_self] at c
    rw [List.getD_eq_getElem?_getD, Int.toNat_natCast, left_get, e]
    show 0 < ds[n] - _
    omega
theorem set_flat {S : List (List PP)} {k : Nat} {L M : List PP} {p : PP} (hk : S[k]? = some L) (h : L.Perm (M ++ [p])) : S.flatten.Perm ((S.set k M).flatten ++ [p]) := by
  have hkl : k < S.length := (List.getElem?_eq_some_iff.mp hk).1
  have e1 : S = S.take k ++ L :: S.drop (k + 1) := by
    obtain ⟨_, e⟩ := List.getElem?_eq_some_iff.mp hk
    rw [← e]
    simp
  have e2 : S.set k M = S.take k ++ M :: S.drop (k + 1) := by rw [List.set_eq_take_append_cons_drop, if_pos hkl]
  rw [e2]
  conv => lhs; rw [e1]
  rw [List.flatten_append, List.flatten_cons, List.flatten_append, List.flatten_cons, List.append_assoc, List.append_assoc]
  refine List.Perm.append_left _ ?_
  refine (List.Perm.append_right _ h).trans ?_
  rw [List.append_assoc]
  exact List.Perm.append_left _ List.perm_append_comm
theorem StdOk.take {ds es : List Int} {m : Int} {S : List (List PP)} {k : Nat} {L : List PP} {p : PP} (h : StdOk ds es m S) (hk : S[k]? = some L) (hp : p ∈ L) :
    StdOk ds es m (S.set k (takeL L p)) ∧ 0 < (left ds (fs (S.set k (takeL L p)))).getD p.1.toNat 0 ∧ 0 < (left es (sn (S.set k (takeL L p)))).getD p.2.toNat 0 := by
  have lo := h.ld L (List.mem_of_getElem? hk)
  obtain ⟨r1, r2, r3, r4⟩ := lo.rng p hp
  have pm := set_flat hk (take_perm lo.nodup hp)
  have p1 : (fs S).Perm (fs (S.set k (takeL L p)) ++ [p.1]) := by
    unfold fs
    have := pm.map (·.1)
    rwa [List.map_append] at this
  have p2 : (sn S).Perm (sn (S.set k (takeL L p)) ++ [p.2]) := by
    unfold sn
    have := pm.map (·.2)
    rwa [List.map_append] at this
  obtain ⟨a1, a2⟩ := left_more p1 h.ci
  obtain ⟨b1, b2⟩ := left_more p2 h.co
  refine ⟨⟨by rw [List.length_set]; exact h.len, fun M hM => ?_, a1, b1⟩, a2 r1 r2, b2 r3 r4⟩
  rcases List.mem_or_eq_of_mem_set hM with e | e
  · exact h.ld M e
  · rw [e]
    exact lo.take p
end Sd
set_option Elab.async false
set_option linter.all false
set_option maxRecDepth 100000
set_option maxHeartbeats 4000000
namespace Gn
open PySem PySem.Spec PyProof.Rows L2 Com Sd StV Ext
def rNotInT (K : PySem.W.Frag) : R2 := fun x y H Q => ∃ d ds, Dp K H x d ∧ Dp K H y (.tuple ds) ∧ SeqAt.shaped d = true ∧ SeqAt.shaped (.list ds) = true ∧ Q (.bl (!ds.any fun z => PyData.eqv z d)) H
theorem notInT {X : Cx} (K : PySem.W.Frag) (hu : X.A.units + 65 < cLine) (hK : X.K = K := by rfl) : OpR X (compareOp .NotIn) (rNotInT K) := by
  subst hK
  intro pins s σ H x y v u Q I rx ry h
  obtain ⟨d, ds, hd, he, sd, se, q⟩ := h
  obtain ⟨as, r1⟩ := Dp.reads I d x v hd rx
  obtain ⟨bs, r2⟩ := Dp.reads I (.tuple ds) y u he ry
  exact SeqAt.notIn_tuple_reads r2 r1 (SeqAt.canLay_of_shaped se) (SeqAt.canLay_of_shaped sd) (room_in_shaped sd hu) ⟨.bl _, H, I, rfl, q⟩
def at1 (ds : List Int) (S : List (List PP)) (p : PP) : Int := (left ds (fs S)).getD p.1.toNat 0
/-- an answer, or a refusal -/
inductive Out where
  | told (S : List (List PP))
  | side (t : Str)
  | mid (x : V)
  | call (u : V)
def OutV (H : Hp) (r : V) : Out → Prop
  | .told S => ∃ t v, r = .ref t ∧ H t = some (.tup [.str "told", v]) ∧ StaV H v S
  | .side s => ∃ t, r = .ref t ∧ H t = some (.tup [.str "door", .str s])
  | .mid x => ∃ t, r = .ref t ∧ H t = some (.tup [.str "middle", x])
  | .call u => ∃ t, r = .ref t ∧ H t = some (.tup [.str "call", u])
/-- the middle: a number, or nothing of the kind -/
def KJ (K : Frg) (H : Hp) (x : V) : Prop := sameOk x = true ∧ ((∃ z, x = .int z) ∨ PlainI K H x false)
theorem KJ.same {K : Frg} {H H' : Hp} (s : Same H H') {x : V} (h : KJ K H x) : KJ K H' x := ⟨h.1, h.2.imp id fun p => p.same s⟩
def kIn (S : List (List PP)) (x : V) : Option Nat := match x with
  | .int z => if 0 ≤ z ∧ z < S.length then some z.toNat else none
  | _ => none
theorem OutV.same {H H' : Hp} (s : Same H H') {r : V} {out : Out} (h : OutV H r out) : OutV H' r out := by
  cases out with
  | told S => exact let ⟨t, v, e, h1, h2⟩ := h; ⟨t, v, e, s _ _ h1, StaV.same s h2⟩
  | side t => exact let ⟨t, e, h1⟩ := h; ⟨t, e, s _ _ h1⟩
  | mid x => exact let ⟨t, e, h1⟩ := h; ⟨t, e, s _ _ h1⟩
  | call u => exact let ⟨t, e, h1⟩ := h; ⟨t, e, s _ _ h1⟩
end Gn
set_option Elab.async false
set_option linter.all false
set_option maxRecDepth 100000
set_option maxHeartbeats 4000000
namespace Dt
open PySem PySem.Spec PyProof.Rows L2 Com
variable [Dt.Tb]
abbrev KD := D → Prop
abbrev XD := Addr → Str → D → Prop
abbrev ME := Ev → KD → XD → Prop
abbrev MT := Ev → (Bool → Prop) → XD → Prop
abbrev MA := Ev → (List D → Prop) → XD → Prop
abbrev MO := Ev → (Option Int → Prop) → XD → Prop
abbrev SpD := List D → KD → XD → Prop
def Kv (W : Wd) (H : Hp) (Q : VK) (q : KD) : Prop := ∀ W' v d H', Go W H W' H' → Vd W' v d → q d → Q v H'
def Ka (n : Nat) (W : Wd) (H : Hp) (Q : List V → Hp → Prop) (q : List D → Prop) : Prop := ∀ W' vs ds H', Go W H W' H' → VdA W' vs ds → ds.length = n → q ds → Q vs H'
def Kb {α : Type} (W : Wd) (H : Hp) (Q : α → Hp → Prop) (q : α → Prop) : Prop := ∀ W' b H', Go W H W' H' → q b → Q b H'
def Kx (W : Wd) (H : Hp) (E : XK) (e : XD) : Prop := ∀ W' H' C dx f v d, Go W H W' H' → H' dx = some (.xd [(f, v)]) → Vd W' v d → e C f d → E (.ref C) (some dx) H'
section
variable {W W1 : Wd} {H H1 : Hp} {Q : VK} {q : KD} {E : XK} {e : XD}
theorem Kv.go (k : Ok W H) (h : Kv W H Q q) (g : Go W H W1 H1) : Kv W1 H1 Q q := fun W' v d H' g1 => h W' v d H' (g.trans k g1)
theorem Ka.go {n : Nat} {Q : List V → Hp → Prop} {q : List D → Prop} (k : Ok W H) (h : Ka n W H Q q) (g : Go W H W1 H1) : Ka n W1 H1 Q q := fun W' v d H' g1 => h W' v d H' (g.trans k g1)
theorem Kb.go {α : Type} {Q : α → Hp → Prop} {q : α → Prop} (k : Ok W H) (h : Kb W H Q q) (g : Go W H W1 H1) : Kb W1 H1 Q q := fun W' b H' g1 => h W' b H' (g.trans k g1)
theorem Kx.go (k : Ok W H) (h : Kx W H E e) (g : Go W H W1 H1) : Kx W1 H1 E e := fun W' H' C dx f v d g1 => h W' H' C dx f v d (g.trans k g1)
end
def SimE (E : XK) (te : TE) (m : ME) : Prop := ∀ W H0 H σ ρ Q q e, Rep W H0 H σ ρ → m ρ q e → Kv W H Q q → Kx W H E e → te σ H Q
def SimT (E : XK) (tt : TT) (m : MT) : Prop := ∀ W H0 H σ ρ Q q e, Rep W H0 H σ ρ → m ρ q e → Kb W H Q q → Kx W H E e → tt σ H Q
def SimA (E : XK) (n : Nat) (ta : TA) (m : MA) : Prop := ∀ W H0 H σ ρ Q q e, Rep W H0 H σ ρ → m ρ q e → Ka n W H Q q → Kx W H E e → ta σ H Q
def SimO (E : XK) (to : TO) (m : MO) : Prop := ∀ W H0 H σ ρ Q q e, Rep W H0 H σ ρ → m ρ q e → Kb W H Q q → Kx W H E e → to σ H Q
def SimR (r : R2) (f : D → D → KD → Prop) : Prop := ∀ W H x y dx dy Q q, Ok W H → Vd W x dx → Vd W y dy → f dx dy q → Kv W H Q q → r x y H Q
def SimU (r : V → Hp → VK → Prop) (f : D → KD → Prop) : Prop := ∀ W H x dx Q q, Ok W H → Vd W x dx → f dx q → Kv W H Q q → r x H Q
def SimC (r : List V → Hp → VK → Prop) (f : List D → KD → Prop) : Prop := ∀ W H xs ds Q q, Ok W H → VdA W xs ds → f ds q → Kv W H Q q → r xs H Q
abbrev mVar (i : Nat) : ME := fun ρ q _ => ∃ d, ρ[i]? = some (some (.d d)) ∧ q d
abbrev mC (d : D) : ME := fun _ q _ => q d
abbrev mOp (f : D → D → KD → Prop) (a b : ME) : ME := fun ρ q e => a ρ (fun x => b ρ (fun y => f x y q) e) e
abbrev mUn (f : D → KD → Prop) (a : ME) : ME := fun ρ q e => a ρ (fun x => f x q) e
abbrev mNil : MA := fun _ q _ => q []
abbrev mCons (a : ME) (r : MA) : MA := fun ρ q e => a ρ (fun x => r ρ (fun xs => q (x :: xs)) e) e
abbrev mTup (a : MA) : ME := fun ρ q e => a ρ (fun ds => ds.length ≤ sizeLine ∧ q (.tup ds)) e
abbrev mLst (a : MA) : ME := fun ρ q e => a ρ (fun ds => ds.length ≤ sizeLine ∧ q (.lst ds)) e
abbrev mCB (f : List D → KD → Prop) (a : MA) : ME := fun ρ q e => a ρ (fun ds => f ds q) e
abbrev mBoo (a : ME) : MT := fun ρ q e => a ρ (fun x => ∃ c, x = .bl c ∧ q c) e
abbrev mAnd (a b : MT) : MT := fun ρ q e => a ρ (fun c => if c = true then b ρ q e else q false) e
abbrev mOr (a b : MT) : MT := fun ρ q e => a ρ (fun c => if c = true then q true else b ρ q e) e
abbrev mNot (a : MT) : MT := fun ρ q e => a ρ (fun c => q (!c)) e
abbrev mAndV (a b : ME) : ME := fun ρ q e => a ρ (fun x => ∃ c, x = .bl c ∧ if c = true then b ρ q e else q (.bl false)) e
abbrev mNotV (a : ME) : ME := fun ρ q e => a ρ (fun x => ∃ c, x = .bl c ∧ q (.bl (!c))) e
abbrev mDef (sp : SpD) (a : MA) : ME := fun ρ q e => a ρ (fun ds => sp ds q e) e
abbrev mNoP : MO := fun _ q _ => q none
abbrev mPart (a : ME) : MO := fun ρ q e => a ρ (fun x => ∃ i, x = .int i ∧ q (some i)) e
abbrev mSl (f : D → Option Int → Option Int → KD → Prop) (a : ME) (l h : MO) : ME := fun ρ q e => a ρ (fun x => l ρ (fun lo => h ρ (fun hi => f x lo hi q) e) e) e
def lookD (f : Str) : List Str → List D → Option D
  | k :: ks, d :: ds => if (f == k) = true then some d else lookD f ks ds
  | _, _ => none
abbrev mFld (C : Addr) (f : Str) (a : ME) : ME := fun ρ q e => a ρ (fun x => ∃ ks ds d, x = .obj C ks ds ∧ lookD f ks ds = some d ∧ q d) e
abbrev mMth (C : Addr) (m : Str) (sp : SpD) (o : ME) (a : MA) : ME := fun ρ q e => o ρ (fun x => ∃ ks ds, x = .obj C ks ds ∧ ks.contains m = false ∧ a ρ (fun es => sp (x :: es) q e) e) e
abbrev mChain (f f' : D → D → KD → Prop) (a b c : ME) : ME := fun ρ q e => a ρ (fun x => b ρ (fun y => f x y fun z => ∃ k, z = .bl k ∧ if k = true then c ρ (fun w => f' y w q) e else q (.bl false)) e) e
def spOf (sp : SpD) : Sp := fun vs H Q E => ∃ W ds q e, Ok W H ∧ VdA W vs ds ∧ sp ds q e ∧ Kv W H Q q ∧ Kx W H E e
section
variable {E : XK} {ta tb tc te : TE} {ma mb mc me : ME} {tt tu : TT} {mt mu : MT} {aa ab : TA} {na nb : MA} {r r' : R2} {f f' : D → D → KD → Prop} {K : PySem.W.Frag} {n n' : Nat}
theorem si_var {i : Nat} : SimE E (tVar i) (mVar i) := fun W H0 H σ ρ Q q e R h k _ => by
  obtain ⟨d, h1, hq⟩ := h
  obtain ⟨v, e1, hv⟩ := R.var h1
  exact ⟨v, e1, k W v d H (.refl R.ok) hv hq⟩
theorem si_int {i : Int} : SimE E (tC (.int i)) (mC (.int i)) := fun W H0 H σ ρ Q q e R h k _ => k W _ _ H (.refl R.ok) (.int i) h
theorem si_bl {b : Bool} : SimE E (tC (.bl b)) (mC (.bl b)) := fun W H0 H σ ρ Q q e R h k _ => k W _ _ H (.refl R.ok) (.bl b) h
theorem si_non : SimE E (tC .non) (mC .non) := fun W H0 H σ ρ Q q e R h k _ => k W _ _ H (.refl R.ok) .non h
theorem si_str {x : Str} : SimE E (tC (.str x)) (mC (.str x)) := fun W H0 H σ ρ Q q e R h k _ => k W _ _ H (.refl R.ok) (.str x) h
theorem si_op (ha : SimE E ta ma) (hb : SimE E tb mb) (hr : SimR r f) : SimE E (tOp r ta tb) (mOp f ma mb) := fun W H0 H σ ρ Q q e R h k kx =>
  ha W H0 H σ ρ _ _ e R h (fun W1 x dx H1 g1 hx h1 => hb W1 H0 H1 σ ρ _ _ e (R.go g1) h1 (fun W2 y dy H2 g2 hy h2 => hr W2 H2 x y dx dy Q q g2.ok (hx.mono g2.le) hy h2 (k.go R.ok (g1.trans R.ok g2))) (kx.go R.ok g1)) kx
theorem si_un {r : V → Hp → VK → Prop} {f : D → KD → Prop} (ha : SimE E ta ma) (hr : SimU r f) : SimE E (tUn r ta) (mUn f ma) := fun W H0 H σ ρ Q q e R h k kx =>
  ha W H0 H σ ρ _ _ e R h (fun W1 x dx H1 g1 hx h1 => hr W1 H1 x dx Q q g1.ok hx h1 (k.go R.ok g1)) kx
theorem si_nil : SimA E 0 tNil mNil := fun W H0 H σ ρ Q q e R h k _ => k W _ _ H (.refl R.ok) .nil rfl h
theorem si_cons (ha : SimE E ta ma) (hr : SimA E n aa na) : SimA E (n + 1) (tCons ta aa) (mCons ma na) := fun W H0 H σ ρ Q q e R h k kx =>
  ha W H0 H σ ρ _ _ e R h (fun W1 x dx H1 g1 hx h1 => hr W1 H0 H1 σ ρ _ _ e (R.go g1) h1 (fun W2 xs ds H2 g2 hy hl h2 => k W2 _ _ H2 (g1.trans R.ok g2) (.cons (hx.mono g2.le) hy) (by rw [List.length_cons, hl]) h2) (kx.go R.ok g1)) kx
theorem si_tup (ha : SimA E n aa na) : SimE E (tTup aa) (mTup na) := fun W H0 H σ ρ Q q e R h k kx =>
  ha W H0 H σ ρ _ _ e R h (fun W1 xs ds H1 g1 hx hl1 h1 => ⟨by rw [hx.length]; exact h1.1, fun p hp => k _ _ _ _ (g1.trans R.ok (.put g1.ok hp)) (.tup (upd_same (H := W1.F)) (hx.mono (Go.put g1.ok hp).le)) h1.2⟩) kx
theorem si_lst (ha : SimA E n aa na) : SimE E (tLst aa) (mLst na) := fun W H0 H σ ρ Q q e R h k kx =>
  ha W H0 H σ ρ _ _ e R h (fun W1 xs ds H1 g1 hx hl1 h1 => ⟨by rw [hx.length]; exact h1.1, fun p hp => k _ _ _ _ (g1.trans R.ok (.put g1.ok hp)) (.lst (upd_same (H := W1.F)) (hx.mono (Go.put g1.ok hp).le)) h1.2⟩) kx
theorem si_cb {r : List V → Hp → VK → Prop} {f : List D → KD → Prop} (ha : SimA E n aa na) (hr : SimC r f) : SimE E (tCB r aa) (mCB f na) := fun W H0 H σ ρ Q q e R h k kx =>
  ha W H0 H σ ρ _ _ e R h (fun W1 xs ds H1 g1 hx hl1 h1 => hr W1 H1 xs ds Q q g1.ok hx h1 (k.go R.ok g1)) kx
theorem bl_of {W : Wd} {v : V} {d : D} {c : Bool} (h : Vd W v d) (e : d = .bl c) : v = .bl c := by subst e; cases h; rfl
theorem int_of {W : Wd} {v : V} {d : D} {i : Int} (h : Vd W v d) (e : d = .int i) : v = .int i := by subst e; cases h; rfl
theorem tup_of {W : Wd} {H : Hp} {v : V} {d : D} {ds : List D} (k : Ok W H) (h : Vd W v d) (e : d = .tup ds) : ∃ a vs, v = .ref a ∧ W.F a = some (.tup vs) ∧ H a = some (.tup vs) ∧ VdA W vs ds := by subst e; cases h with | tup h t => exact ⟨_, _, rfl, h, k.f _ _ h, t⟩
theorem lst_of {W : Wd} {H : Hp} {v : V} {d : D} {ds : List D} (k : Ok W H) (h : Vd W v d) (e : d = .lst ds) : ∃ a vs, v = .ref a ∧ W.F a = some (.lst vs) ∧ H a = some (.lst vs) ∧ VdA W vs ds := by subst e; cases h with | lst h t => exact ⟨_, _, rfl, h, k.f _ _ h, t⟩
theorem obj_of {W : Wd} {H : Hp} {v : V} {d : D} {C : Addr} {ks : List Str} {ds : List D} (k : Ok W H) (h : Vd W v d) (e : d = .obj C ks ds) : ∃ a dx vs, v = .ref a ∧ H a = some (.ins C dx (ks.zip vs)) ∧ ks.length = vs.length ∧ VdA W vs ds := by subst e; cases h with | obj h l t => exact ⟨_, _, _, rfl, k.f _ _ h, l, t⟩
theorem si_test (ha : SimE E ta ma) : SimT E (tTest ta) (mBoo ma) := fun W H0 H σ ρ Q q e R h k kx =>
  ha W H0 H σ ρ _ _ e R h (fun W1 x dx H1 g1 hx h1 => by obtain ⟨c, e1, h1⟩ := h1; exact ⟨c, bl_of hx e1, k W1 c H1 g1 h1⟩) kx
theorem si_B (ha : SimE E ta ma) : SimT E (tB ta) (mBoo ma) := fun W H0 H σ ρ Q q e R h k kx =>
  ha W H0 H σ ρ _ _ e R h (fun W1 x dx H1 g1 hx h1 => by obtain ⟨c, e1, h1⟩ := h1; exact ⟨c, bl_of hx e1, k W1 c H1 g1 h1⟩) kx
theorem si_and (ha : SimT E tt mt) (hb : SimT E tu mu) : SimT E (tAnd tt tu) (mAnd mt mu) := fun W H0 H σ ρ Q q e R h k kx =>
  ha W H0 H σ ρ _ _ e R h (fun W1 c H1 g1 h1 => by
    cases c with
    | true => exact (hb W1 H0 H1 σ ρ _ _ e (R.go g1) h1 (k.go R.ok g1) (kx.go R.ok g1) : tu σ H1 Q)
    | false => exact (k W1 false H1 g1 h1 : Q false H1)) kx
theorem si_or (ha : SimT E tt mt) (hb : SimT E tu mu) : SimT E (tOr tt tu) (mOr mt mu) := fun W H0 H σ ρ Q q e R h k kx =>
  ha W H0 H σ ρ _ _ e R h (fun W1 c H1 g1 h1 => by
    cases c with
    | false => exact (hb W1 H0 H1 σ ρ _ _ e (R.go g1) h1 (k.go R.ok g1) (kx.go R.ok g1) : tu σ H1 Q)
    | true => exact (k W1 true H1 g1 h1 : Q true H1)) kx
theorem si_not (ha : SimT E tt mt) : SimT E (tNot tt) (mNot mt) := fun W H0 H σ ρ Q q e R h k kx =>
  ha W H0 H σ ρ _ _ e R h (fun W1 c H1 g1 h1 => k W1 _ H1 g1 h1) kx
theorem si_andV (ha : SimE E ta ma) (hb : SimE E tb mb) : SimE E (tAndV ta tb) (mAndV ma mb) := fun W H0 H σ ρ Q q e R h k kx =>
  ha W H0 H σ ρ _ _ e R h (fun W1 x dx H1 g1 hx h1 => by
    obtain ⟨c, e1, h1⟩ := h1
    refine ⟨c, bl_of hx e1, ?_⟩
    cases c with
    | true => exact (hb W1 H0 H1 σ ρ _ _ e (R.go g1) h1 (k.go R.ok g1) (kx.go R.ok g1) : tb σ H1 Q)
    | false => exact (k W1 _ _ H1 g1 (.bl false) h1 : Q (.bl false) H1)) kx
theorem si_notV (ha : SimE E ta ma) : SimE E (tNotV ta) (mNotV ma) := fun W H0 H σ ρ Q q e R h k kx =>
  ha W H0 H σ ρ _ _ e R h (fun W1 x dx H1 g1 hx h1 => by obtain ⟨c, e1, h1⟩ := h1; exact ⟨c, bl_of hx e1, k W1 _ _ H1 g1 (.bl _) h1⟩) kx
theorem si_def {sp : SpD} (ha : SimA E n aa na) : SimE E (tDef (spOf sp) E aa) (mDef sp na) := fun W H0 H σ ρ Q q e R h k kx =>
  ha W H0 H σ ρ _ _ e R h (fun W1 xs ds H1 g1 hx hl1 h1 => ⟨W1, ds, q, e, g1.ok, hx, h1, k.go R.ok g1, kx.go R.ok g1⟩) kx
theorem si_noP : SimO E tNoPart mNoP := fun W H0 H σ ρ Q q e R h k _ => k W _ H (.refl R.ok) h
theorem si_part (ha : SimE E ta ma) : SimO E (tPart ta) (mPart ma) := fun W H0 H σ ρ Q q e R h k kx =>
  ha W H0 H σ ρ _ _ e R h (fun W1 x dx H1 g1 hx h1 => by obtain ⟨c, e1, h1⟩ := h1; exact ⟨c, int_of hx e1, k W1 _ H1 g1 h1⟩) kx
def SimSl (r : V → Option Int → Option Int → Hp → VK → Prop) (f : D → Option Int → Option Int → KD → Prop) : Prop := ∀ W H x dx lo hi Q q, Ok W H → Vd W x dx → f dx lo hi q → Kv W H Q q → r x lo hi H Q
theorem si_sl {r : V → Option Int → Option Int → Hp → VK → Prop} {f : D → Option Int → Option Int → KD → Prop} {tl th : TO} {ml mh : MO} (ha : SimE E ta ma) (hl : SimO E tl ml) (hh : SimO E th mh) (hr : SimSl r f) : SimE E (tSl r ta tl th) (mSl f ma ml mh) := fun W H0 H σ ρ Q q e R h k kx =>
  ha W H0 H σ ρ _ _ e R h (fun W1 x dx H1 g1 hx h1 => hl W1 H0 H1 σ ρ _ _ e (R.go g1) h1 (fun W2 lo H2 g2 h2 => hh W2 H0 H2 σ ρ _ _ e ((R.go g1).go g2) h2 (fun W3 hi H3 g3 h3 =>
    hr W3 H3 x dx lo hi Q q g3.ok ((hx.mono g2.le).mono g3.le) h3 (k.go R.ok ((g1.trans R.ok g2).trans R.ok g3))) (kx.go R.ok (g1.trans R.ok g2))) (kx.go R.ok g1)) kx
theorem look_zip {W : Wd} {f : Str} : ∀ {ks : List Str} {vs : List V} {ds : List D} {d : D}, ks.length = vs.length → VdA W vs ds → lookD f ks ds = some d → ∃ v, (ks.zip vs).lookup f = some v ∧ Vd W v d
  | [], _, _, _, _, _, h => by
    unfold lookD at h
    cases h
  | k :: ks, [], _, _, l, _, _ => by cases l
  | k :: ks, v :: vs, _, d, l, .cons h t, e => by
    unfold lookD at e
    rw [List.zip_cons_cons, List.lookup_cons]
    by_cases z : (f == k) = true
    · rw [if_pos z] at e
      cases e
      rw [z]
      exact ⟨v, rfl, h⟩
    · rw [if_neg z] at e
      have z2 : (f == k) = false := by simpa using z
      rw [z2]
      exact look_zip (by simpa using l) t e
theorem look_no {m : Str} : ∀ {ks : List Str} {vs : List V}, ks.contains m = false → (ks.zip vs).lookup m = none
  | [], _, _ => by simp
  | k :: ks, [], _ => by simp
  | k :: ks, v :: vs, h => by
    rw [List.contains_cons, Bool.or_eq_false_iff] at h
    rw [List.zip_cons_cons, List.lookup_cons, h.1]
    exact look_no h.2
theorem si_fld {C : Addr} {x : Str} (cl : Cls K C) (na : NoAttr K C x) (ha : SimE E ta ma) : SimE E (tFld K ta x) (mFld C x ma) := fun W H0 H σ ρ Q q e R h k kx =>
  ha W H0 H σ ρ _ _ e R h (fun W1 v dx H1 g1 hx h1 => by
    obtain ⟨ks, ds, d, e1, e2, h1⟩ := h1
    obtain ⟨a, dx, vs, e3, e4, l, t⟩ := obj_of g1.ok hx e1
    obtain ⟨u, e5, hu⟩ := look_zip l t e2
    exact ⟨a, C, dx, _, u, e3, e4, cl, na, e5, k W1 u d H1 g1 hu h1⟩) kx
theorem si_mth {C : Addr} {m : Str} {sp : SpD} (ho : SimE E ta ma) (ha : SimA E n aa na) : SimE E (tMth C m (spOf sp) E ta aa) (mMth C m sp ma na) := fun W H0 H σ ρ Q q e R h k kx =>
  ho W H0 H σ ρ _ _ e R h (fun W1 v d H1 g1 hx h1 => by
    obtain ⟨ks, ds, e1, e2, h1⟩ := h1
    obtain ⟨a, dx, vs, e3, e4, l, t⟩ := obj_of g1.ok hx e1
    exact ⟨a, dx, _, e3, e4, look_no e2, ha W1 H0 H1 σ ρ _ _ e (R.go g1) h1 (fun W2 xs es H2 g2 hy _ h2 => ⟨W2, d :: es, q, e, g2.ok, .cons (hx.mono g2.le) hy, h2, k.go R.ok (g1.trans R.ok g2), kx.go R.ok (g1.trans R.ok g2)⟩) (kx.go R.ok g1)⟩) kx
theorem si_chain (ha : SimE E ta ma) (hb : SimE E tb mb) (hc : SimE E tc mc) (hr : SimR r f) (hr' : SimR r' f') : SimE E (tChain r r' ta tb tc) (mChain f f' ma mb mc) := fun W H0 H σ ρ Q q e R h k kx =>
  ha W H0 H σ ρ _ _ e R h (fun W1 x dx H1 g1 hx h1 => hb W1 H0 H1 σ ρ _ _ e (R.go g1) h1 (fun W2 y dy H2 g2 hy h2 => hr W2 H2 x y dx dy _ _ g2.ok (hx.mono g2.le) hy h2 (fun W3 z dz H3 g3 hz h3 => by
    obtain ⟨c, e1, h3⟩ := h3
    refine ⟨c, bl_of hz e1, ?_⟩
    have g := (g1.trans R.ok g2).trans R.ok g3
    cases c with
    | true => exact (hc W3 H0 H3 σ ρ _ _ e (R.go g) h3 (fun W4 w dw H4 g4 hw h4 => hr' W4 H4 y w dy dw Q q g4.ok ((hy.mono g3.le).mono g4.le) hw h4 (k.go R.ok (g.trans R.ok g4))) (kx.go R.ok g) : tc σ H3 _)
    | false => exact (k W3 _ _ H3 g (.bl false) h3 : Q (.bl false) H3))) (kx.go R.ok g1)) kx
end
end Dt
set_option Elab.async false
set_option linter.all false
set_option maxRecDepth 100000
set_option maxHeartbeats 4000000
namespace Dt
open PySem PySem.Spec PyProof.Rows L2 Com
variable [Dt.Tb]
structure EndsD where
  nx : Ev → Prop
  rt : D → Prop
  bk : Ev → Prop
  ct : Ev → Prop
abbrev MS := EndsD → Ev → XD → Prop
abbrev MG := D → Ev → (Ev → Prop) → Prop
abbrev MGs := List D → Ev → (Ev → Prop) → Prop
abbrev MI := Ev → (List D → Prop) → XD → Prop
/-- what follows, from a start (W0, H0), the world being at least W -/
def Cn (W0 : Wd) (H0 : Hp) (W : Wd) (n : L2.St → Hp → Prop) (m : Ev → Prop) : Prop := ∀ W' H' σ' ρ', Le W W' → Go W0 H0 W' H' → Rep W' H0 H' σ' ρ' → m ρ' → n σ' H'
structure Ct (W0 : Wd) (H0 : Hp) (W : Wd) (D : Ends) (d : EndsD) : Prop where
  nx : Cn W0 H0 W D.nx d.nx
  rt : ∀ W' H' v x, Le W W' → Go W0 H0 W' H' → Vd W' v x → d.rt x → D.rt v H'
  bk : Cn W0 H0 W D.bk d.bk
  ct : Cn W0 H0 W D.ct d.ct
theorem Cn.up {W0 W W1 : Wd} {H0 : Hp} {n : L2.St → Hp → Prop} {m : Ev → Prop} (h : Cn W0 H0 W n m) (l : Le W W1) : Cn W0 H0 W1 n m := fun W' H' σ' ρ' l1 => h W' H' σ' ρ' (l.trans l1)
theorem Ct.up {W0 W W1 : Wd} {H0 : Hp} {D : Ends} {d : EndsD} (h : Ct W0 H0 W D d) (l : Le W W1) : Ct W0 H0 W1 D d := ⟨h.nx.up l, fun W' H' v x l1 => h.rt W' H' v x (l.trans l1), h.bk.up l, h.ct.up l⟩
def SimS (E : XK) (ts : TS) (m : MS) : Prop := ∀ W0 H0 W H σ ρ D d e, Ok W0 H0 → Go W0 H0 W H → Rep W H0 H σ ρ → m d ρ e → Ct W0 H0 W D d → Kx W0 H0 E e → ts D σ H
def SimG (g : TG) (m : MG) (is : List Nat) : Prop := ∀ W H0 H v d σ ρ (Q : L2.St → Hp → Prop) (q : Ev → Prop), Rep W H0 H σ ρ → Vd W v d → m d ρ q → (∀ σ' ρ', Rep W H0 H σ' ρ' → (∀ vs : List Nat, (∀ i ∈ is, i ∈ vs) → wipe σ' vs = wipe σ vs) → (NoOwn ρ → NoOwn ρ') → q ρ' → Q σ' H) → g v σ H Q
def SimGs (g : TGs) (m : MGs) (is : List Nat) : Prop := ∀ W H0 H vs ds σ ρ (Q : L2.St → Hp → Prop) (q : Ev → Prop), Rep W H0 H σ ρ → VdA W vs ds → m ds ρ q → (∀ σ' ρ', Rep W H0 H σ' ρ' → (∀ vs : List Nat, (∀ i ∈ is, i ∈ vs) → wipe σ' vs = wipe σ vs) → (NoOwn ρ → NoOwn ρ') → q ρ' → Q σ' H) → g vs σ H Q
/-- it walks the data xs -/
def ItD (W : Wd) (J : It) (xs : List D) : Prop := ∀ i W1 H1, Le W W1 → Ok W1 H1 → (∀ d, xs[i]? = some d → J.go i H1 ∧ ∀ v H2, J.yld i H1 v H2 → ∃ W2, Go W1 H1 W2 H2 ∧ Vd W2 v d) ∧ (xs.length ≤ i → J.stop i H1)
def SimI (E : XK) (ti : TI) (m : MI) : Prop := ∀ W H0 H σ ρ R q e, Rep W H0 H σ ρ → m ρ q e → (∀ W' J xs H', Go W H W' H' → ItD W' J xs → q xs → R J H') → Kx W H E e → ti σ H R
theorem wipe_set {σ : L2.St} {i : Nat} {o : Option V} : ∀ vs : List Nat, wipe (σ.set i o) vs = if i ∈ vs then wipe σ vs else (wipe σ vs).set i o
  | [] => by rw [if_neg (by simp)]; rfl
  | v :: vs => by
    show (wipe (σ.set i o) vs).set v none = _
    rw [wipe_set vs]
    show _ = if i ∈ v :: vs then (wipe σ vs).set v none else ((wipe σ vs).set v none).set i o
    by_cases h : i ∈ vs
    · rw [if_pos h, if_pos (List.mem_cons_of_mem _ h)]
    · rw [if_neg h]
      by_cases e : i = v
      · subst e
        rw [if_pos (by simp), List.set_set]
      · rw [if_neg (by simp [e, h]), List.set_comm _ _ e]
theorem wipe_in {σ : L2.St} {i : Nat} {o : Option V} {vs : List Nat} (h : i ∈ vs) : wipe (σ.set i o) vs = wipe σ vs := by rw [wipe_set, if_pos h]
theorem wipe_two {σ : L2.St} : ∀ {vs us : List Nat}, (∀ i ∈ us, i ∈ vs) → wipe (wipe σ us) vs = wipe σ vs
  | vs, [], _ => rfl
  | vs, u :: us, h => by
    show wipe ((wipe σ us).set u none) vs = _
    rw [wipe_in (h u (by simp)), wipe_two fun i hi => h i (List.mem_cons_of_mem _ hi)]
abbrev mgN (i : Nat) : MG := fun d ρ q => q (ρ.set i (some (.d d)))
abbrev mgNil : MGs := fun ds ρ q => ds = [] ∧ q ρ
abbrev mgCons (m : MG) (r : MGs) : MGs := fun ds ρ q => ∃ d es, ds = d :: es ∧ m d ρ fun ρ' => r es ρ' q
abbrev mgT (n : Nat) (r : MGs) : MG := fun d ρ q => ∃ ds, d = .tup ds ∧ ds.length = n ∧ r ds ρ q
section
variable {E : XK} {K : PySem.W.Frag} {is js : List Nat} {g : TG} {gs : TGs} {mg : MG} {mgs : MGs} {te : TE} {me : ME} {tt : TT} {mt : MT} {ta : TA} {ma : MA} {ti : TI} {mi : MI} {ts tu : TS} {ms mu : MS} {n : Nat}
theorem sg_name {i : Nat} : SimG (gName i) (mgN i) [i] := fun W H0 H v d σ ρ Q q R hv h k => k _ _ (R.set hv) (fun vs hvs => wipe_in (hvs i (by simp))) (fun n => n.set) h
theorem sg_nil : SimGs gNil mgNil [] := fun W H0 H vs ds σ ρ Q q R hv h k => by
  obtain ⟨rfl, h⟩ := h
  cases hv
  exact ⟨rfl, k _ _ R (fun _ _ => rfl) (fun n => n) h⟩
theorem sg_cons (h1 : SimG g mg is) (h2 : SimGs gs mgs js) : SimGs (gCons g gs) (mgCons mg mgs) (is ++ js) := fun W H0 H vs ds σ ρ Q q R hv h k => by
  obtain ⟨d, es, rfl, h⟩ := h
  cases hv with
  | cons hd ht => exact ⟨_, _, rfl, h1 W H0 H _ d σ ρ _ _ R hd h fun σ' ρ' R' w' n' h' => h2 W H0 H _ es σ' ρ' Q q R' ht h' fun σ2 ρ2 R2 w2 n2 h2 => k σ2 ρ2 R2 (fun us hus => by rw [w2 us (fun i hi => hus i (by simp [hi])), w' us (fun i hi => hus i (by simp [hi]))]) (fun n => n2 (n' n)) h2⟩
theorem sg_tup {n : Nat} (h2 : SimGs gs mgs js) : SimG (gTup K n gs) (mgT n mgs) js := fun W H0 H v d σ ρ Q q R hv h k => by
  obtain ⟨ds, rfl, hl, h⟩ := h
  obtain ⟨a, vs, e, _, ha, t⟩ := tup_of R.ok hv rfl
  exact ⟨a, vs, e, SqT.of ha, by rw [t.length, hl], h2 W H0 H vs ds σ ρ Q q R t h k⟩
abbrev mSeq (a : ME) : MI := fun ρ q e => a ρ (fun x => ∃ xs, (x = .tup xs ∨ x = .lst xs) ∧ q xs) e
abbrev mRng1 (a : MA) : MI := fun ρ q e => a ρ (fun ds => ∃ n : Int, ds = [.int n] ∧ n ≤ 1000000 ∧ -1000000 ≤ n ∧ q ((List.range n.toNat).map fun (i : Nat) => .int (i : Int))) e
theorem it_list {W : Wd} {a : Addr} {vs : List V} {xs : List D} (h : W.F a = some (.lst vs)) (t : VdA W vs xs) : ItD W (Itl K a) xs := fun i W1 H1 l k => by
  have h1 : SqL K H1 a vs := SqL.of (k.f _ _ (l.f _ _ h))
  refine ⟨fun d hd => ?_, fun hl => ⟨vs, h1, by rw [t.length]; exact hl⟩⟩
  obtain ⟨v, hv, r⟩ := t.get' hd
  refine ⟨⟨vs, v, h1, hv⟩, fun u H2 y => ?_⟩
  obtain ⟨rfl, y⟩ := y
  have := y vs h1
  rw [hv] at this
  cases this
  exact ⟨W1, .refl k, r.mono l⟩
theorem it_tup {W : Wd} {a : Addr} {vs : List V} {xs : List D} (h : W.F a = some (.tup vs)) (t : VdA W vs xs) : ItD W (Itt K a) xs := fun i W1 H1 l k => by
  have h1 : SqT K H1 a vs := SqT.of (k.f _ _ (l.f _ _ h))
  refine ⟨fun d hd => ?_, fun hl => ⟨vs, h1, by rw [t.length]; exact hl⟩⟩
  obtain ⟨v, hv, r⟩ := t.get' hd
  refine ⟨⟨vs, v, h1, hv⟩, fun u H2 y => ?_⟩
  obtain ⟨rfl, y⟩ := y
  have := y vs h1
  rw [hv] at this
  cases this
  exact ⟨W1, .refl k, r.mono l⟩
theorem it_rng {W : Wd} {lo : Int} {n : Nat} : ItD W (Itr lo n) ((List.range n).map fun (i : Nat) => .int (lo + (i : Int))) := fun i W1 H1 l k => by
  refine ⟨fun d hd => ?_, fun hl => (show n ≤ i by simpa using hl)⟩
  rw [List.getElem?_map] at hd
  cases e : (List.range n)[i]? with
  | none =>
    rw [e] at hd
    cases hd
  | some j =>
    rw [e] at hd
    cases hd
    have hi := (List.getElem?_eq_some_iff.mp e).1
    have hj := (List.getElem?_eq_some_iff.mp e).2
    rw [List.getElem_range] at hj
    subst hj
    refine ⟨(show i < n by simpa using hi), fun v H2 y => ?_⟩
    obtain ⟨rfl, rfl⟩ := y
    exact ⟨W1, .refl k, .int _⟩
theorem si_seq (ha : SimE E te me) : SimI E (Gn.iSeq K te) (mSeq me) := fun W H0 H σ ρ R q e Rp h k kx =>
  ha W H0 H σ ρ _ _ e Rp h (fun W1 v d H1 g1 hv h1 => by
    obtain ⟨xs, e1, h1⟩ := h1
    rcases e1 with e1 | e1
    · obtain ⟨a, vs, e2, f, hh, t⟩ := tup_of g1.ok hv e1
      exact ⟨a, e2, .inr ⟨vs, SqT.of hh, k W1 _ xs H1 g1 (it_tup f t) h1⟩⟩
    · obtain ⟨a, vs, e2, f, hh, t⟩ := lst_of g1.ok hv e1
      exact ⟨a, e2, .inl ⟨vs, SqL.of hh, k W1 _ xs H1 g1 (it_list f t) h1⟩⟩) kx
theorem si_rng1 (ha : SimA E n ta ma) : SimI E (iRng1 ta) (mRng1 ma) := fun W H0 H σ ρ R q e Rp h k kx =>
  ha W H0 H σ ρ _ _ e Rp h (fun W1 vs ds H1 g1 hv _ h1 => by
    obtain ⟨n, rfl, b1, b2, h1⟩ := h1
    have := hv.of_ints (ns := [n])
    refine ⟨n, this, by omega, by omega, k W1 _ _ H1 g1 it_rng ?_⟩
    have e : ((List.range n.toNat).map fun (i : Nat) => D.int (0 + (i : Int))) = (List.range n.toNat).map fun (i : Nat) => D.int (i : Int) := by
      congr 1
      funext i
      rw [Int.zero_add]
    rw [e]
    exact h1) kx
abbrev msNx : MS := fun d ρ _ => d.nx ρ
abbrev msNever : MS := fun _ _ _ => False
abbrev msSeq (a b : MS) : MS := fun d ρ e => a { d with nx := fun ρ' => b d ρ' e } ρ e
abbrev msIf (t : MT) (a b : MS) : MS := fun d ρ e => t ρ (fun c => if c = true then a d ρ e else b d ρ e) e
abbrev msRet (a : ME) : MS := fun d ρ e => a ρ d.rt e
abbrev msAsg (a : ME) (g : MG) : MS := fun d ρ e => a ρ (fun x => g x ρ d.nx) e
def msLoop (g : MG) (b : MS) : List D → MS
  | [] => fun d ρ _ => d.nx ρ
  | x :: xs => fun d ρ e => g x ρ fun ρ' => b { nx := fun ρ2 => msLoop g b xs d ρ2 e, rt := d.rt, bk := d.nx, ct := fun ρ2 => msLoop g b xs d ρ2 e } ρ' e
abbrev msFor (i : MI) (g : MG) (b : MS) : MS := fun d ρ e => i ρ (fun xs => msLoop g b xs d ρ e) e
theorem ss_nx : SimS E tNext msNx := fun W0 H0 W H σ ρ D d e k0 g R h c _ => c.nx W H σ ρ (.refl W) g R h
theorem ss_never : SimS E tNever msNever := fun W0 H0 W H σ ρ D d e k0 g R h c _ => h.elim
theorem ss_seq (h1 : SimS E ts ms) (h2 : SimS E tu mu) : SimS E (tSeq ts tu) (msSeq ms mu) := fun W0 H0 W H σ ρ D d e k0 g R h c kx =>
  h1 W0 H0 W H σ ρ _ _ e k0 g R h ⟨fun W' H' σ' ρ' l g' R' h' => h2 W0 H0 W' H' σ' ρ' D d e k0 g' R' h' (c.up l) kx, c.rt, c.bk, c.ct⟩ kx
theorem ss_if (ht : SimT E tt mt) (h1 : SimS E ts ms) (h2 : SimS E tu mu) : SimS E (tIfS tt ts tu) (msIf mt ms mu) := fun W0 H0 W H σ ρ D d e k0 g R h c kx =>
  ht W H0 H σ ρ _ _ e R h (fun W1 b H1 g1 hb => by
    cases b with
    | true => exact (h1 W0 H0 W1 H1 σ ρ D d e k0 (g.trans k0 g1) (R.go g1) hb (c.up g1.le) kx : ts D σ H1)
    | false => exact (h2 W0 H0 W1 H1 σ ρ D d e k0 (g.trans k0 g1) (R.go g1) hb (c.up g1.le) kx : tu D σ H1)) (kx.go k0 g)
theorem ss_ret (ha : SimE E te me) : SimS E (tRet te) (msRet me) := fun W0 H0 W H σ ρ D d e k0 g R h c kx =>
  ha W H0 H σ ρ _ _ e R h (fun W1 v x H1 g1 hv h1 => c.rt W1 H1 v x g1.le (g.trans k0 g1) hv h1) (kx.go k0 g)
theorem ss_asg (ha : SimE E te me) (hg : SimG g mg is) : SimS E (tAsg te g) (msAsg me mg) := fun W0 H0 W H σ ρ D d e k0 g R h c kx =>
  ha W H0 H σ ρ _ _ e R h (fun W1 v x H1 g1 hv h1 => hg W1 H0 H1 v x σ ρ _ _ (R.go g1) hv h1 fun σ' ρ' R' _ _ h' => c.nx W1 H1 σ' ρ' g1.le (g.trans k0 g1) R' h') (kx.go k0 g)
/-- op= on values -/
def SimIp (t : TIp) (f : D → D → KD → Prop) : Prop := ∀ W H x y dx dy Q q, Ok W H → Vd W x dx → Vd W y dy → f dx dy q → Kv W H Q q → t x y H Q
theorem ss_for (hi : SimI E ti mi) (hg : SimG g mg is) (hb : SimS E ts ms) : SimS E (tFor ti g ts) (msFor mi mg ms) := fun W0 H0 W H σ ρ D d e k0 g0 R h c kx =>
  hi W H0 H σ ρ _ _ e R h (fun W1 J xs H1 g1 hJ h1 => by
    refine ⟨fun i m σ H => m = xs.length - i ∧ i ≤ xs.length ∧ ∃ W2 ρ, Le W1 W2 ∧ Go W0 H0 W2 H ∧ Rep W2 H0 H σ ρ ∧ msLoop mg ms (xs.drop i) d ρ e, ⟨xs.length, by simp, Nat.zero_le _, W1, ρ, .refl W1, g0.trans k0 g1, R.go g1, h1⟩, ?_⟩
    rintro i m σ2 H2 ⟨rfl, hi, W2, ρ2, l2, g2, R2, h2⟩
    by_cases hlt : i < xs.length
    · rw [List.drop_eq_getElem_cons hlt] at h2
      obtain ⟨j1, j2⟩ := (hJ i W2 H2 l2 R2.ok).1 xs[i] (List.getElem?_eq_getElem hlt)
      refine .inr ⟨j1, fun σ3 H3 => ∃ W3 ρ3, Le W1 W3 ∧ Go W0 H0 W3 H3 ∧ Rep W3 H0 H3 σ3 ρ3 ∧ msLoop mg ms (xs.drop (i + 1)) d ρ3 e, fun σ3 H3 ⟨W3, ρ3, z⟩ => ⟨xs.length - (i + 1), by omega, rfl, hlt, W3, ρ3, z⟩, fun v H3 y => ?_⟩
      obtain ⟨W3, g3, hv⟩ := j2 v H3 y
      refine hg W3 H0 H3 v xs[i] σ2 ρ2 _ _ (R2.go g3) hv h2 fun σ4 ρ4 R4 _ _ h4 => ?_
      have l3 := (g1.le.trans l2).trans g3.le
      exact hb W0 H0 W3 H3 σ4 ρ4 _ _ e k0 (g2.trans k0 g3) R4 h4 ⟨fun W5 H5 σ5 ρ5 l5 g5 R5 h5 => ⟨W5, ρ5, (l2.trans g3.le).trans l5, g5, R5, h5⟩, fun W5 H5 v x l5 => c.rt W5 H5 v x (l3.trans l5), c.nx.up l3, fun W5 H5 σ5 ρ5 l5 g5 R5 h5 => ⟨W5, ρ5, (l2.trans g3.le).trans l5, g5, R5, h5⟩⟩ kx
    · have e1 : i = xs.length := by omega
      subst e1
      rw [List.drop_length] at h2
      exact .inl ⟨(hJ xs.length W2 H2 l2 R2.ok).2 (Nat.le_refl _), c.nx W2 H2 σ2 ρ2 (g1.le.trans l2) g2 R2 h2⟩) (kx.go k0 g0)
def mLcL (g : MG) (t : MT) (x : ME) (vs : List Nat) (ρ : Ev) (e : XD) : List D → List D → (List D → Prop) → Prop
  | [], acc, q => q acc
  | d :: ds, acc, q => g d (wipeD ρ vs) fun ρ2 => t ρ2 (fun b => if b = true then x ρ2 (fun y => acc.length < sizeLine ∧ mLcL g t x vs ρ e ds (acc ++ [y]) q) e else mLcL g t x vs ρ e ds acc q) e
abbrev mLcN (i : MI) (g : MG) (t : MT) (x : ME) (vs : List Nat) : Ev → (List D → Prop) → XD → Prop := fun ρ q e => i ρ (fun xs => mLcL g t x vs ρ e xs [] q) e
abbrev mLc (i : MI) (g : MG) (t : MT) (x : ME) (vs : List Nat) : ME := fun ρ q e => mLcN i g t x vs ρ (fun ds => q (.lst ds)) e
abbrev mYes : MT := fun _ q _ => q true
theorem si_yes : SimT E tYes mYes := fun W H0 H σ ρ Q q e R h k _ => k W _ H (.refl R.ok) h
/-- a new list comes -/
def Kn (W : Wd) (H : Hp) (Q : VK) (q : List D → Prop) : Prop := ∀ W' H' p vs ds, Go W H W' H' → H p = none → H' p = some (.lst vs) → W'.F p = none → ¬ W'.G p → VdA W' vs ds → q ds → Q (.ref p) H'
def SimN (E : XK) (te : TE) (m : MA) : Prop := ∀ W H0 H σ ρ Q q e, Rep W H0 H σ ρ → m ρ q e → Kn W H Q q → Kx W H E e → te σ H Q
theorem kn_of {W : Wd} {H : Hp} {Q : VK} {q : KD} (k0 : Ok W H) (k : Kv W H Q q) : Kn W H Q fun ds => q (.lst ds) := fun W' H' p vs ds g hp e f n t h => by
  obtain ⟨g2, l2⟩ := g.freeze hp f n e
  exact k _ _ _ H' g2 (.lst (upd_same (H := W'.F)) (t.mono l2)) h
theorem si_new (h : SimN E te ma) : SimE E te (fun ρ q e => ma ρ (fun ds => q (.lst ds)) e) := fun W H0 H σ ρ Q q e R hm k kx => h W H0 H σ ρ Q _ e R hm (kn_of R.ok k) kx
theorem sn_lc {vs : List Nat} {tx : TE} {mx : ME} (hi : SimI E ti mi) (hg : SimG g mg is) (ht : SimT E tt mt) (hx : SimE E tx mx) (hs : ∀ i ∈ is, i ∈ vs) : SimN E (tLc ti g tt tx vs) (mLcN mi mg mt mx vs) := fun W H0 H σ ρ Q q e R h k kx =>
  hi W H0 H σ ρ _ _ e R h (fun W1 J xs H1 g1 hJ h1 Da hD => by
    have nD := g1.ok.no hD
    have g0 := Go.own (o := .lst []) g1.ok hD
    refine ⟨fun i m H2 => m = xs.length - i ∧ i ≤ xs.length ∧ ∃ W2 us acc, Go W1 H1 W2 H2 ∧ H2 Da = some (.lst us) ∧ VdA W2 us acc ∧ W2.F Da = none ∧ ¬ W2.G Da ∧ mLcL mg mt mx vs ρ e (xs.drop i) acc q, ⟨xs.length, by simp, Nat.zero_le _, W1, [], [], g0, upd_same, .nil, nD.1, nD.2, h1⟩, ?_⟩
    rintro i m H2 ⟨rfl, hi, W2, us, acc, g2, e2, t2, f2, n2, h2⟩
    by_cases hlt : i < xs.length
    · rw [List.drop_eq_getElem_cons hlt] at h2
      obtain ⟨j1, j2⟩ := (hJ i W2 H2 g2.le g2.ok).1 xs[i] (List.getElem?_eq_getElem hlt)
      refine .inr ⟨j1, fun H3 => ∃ W3 us acc, Go W1 H1 W3 H3 ∧ H3 Da = some (.lst us) ∧ VdA W3 us acc ∧ W3.F Da = none ∧ ¬ W3.G Da ∧ mLcL mg mt mx vs ρ e (xs.drop (i + 1)) acc q, fun H3 ⟨W3, us3, acc3, z⟩ => ⟨xs.length - (i + 1), by omega, rfl, hlt, W3, us3, acc3, z⟩, fun v H3 y => ?_⟩
      obtain ⟨W3, g3, hv⟩ := j2 v H3 y
      -- the new list through a step
      have stay : ∀ {W3 H3 W4 H4}, Ok W3 H3 → Go W3 H3 W4 H4 → ∀ {us acc}, H3 Da = some (.lst us) → VdA W3 us acc → W3.F Da = none → ¬ W3.G Da → H4 Da = some (.lst us) ∧ VdA W4 us acc ∧ W4.F Da = none ∧ ¬ W4.G Da := fun {W3 H3 W4 H4} k3 g4 {us acc} e3 t3 f3 n3 => by
        refine ⟨g4.p _ _ e3 n3, t3.mono g4.le, ?_, fun z => ?_⟩
        · cases z : W4.F Da with
          | none => rfl
          | some o =>
            rcases g4.fn Da o z with z | z | ⟨u, z, hs⟩
            · rw [f3] at z; cases z
            · rw [e3] at z; cases z
            · rw [e3] at z; cases z; exact (still_lst hs).elim
        · rcases g4.gn Da z with z | z
          · exact n3 z
          · rw [e3] at z; cases z
      have s3 := stay g2.ok g3 e2 t2 f2 n2
      have R3 : Rep W3 H0 H3 σ ρ := (R.go (g1.trans R.ok (g2.trans g1.ok g3)))
      refine hg W3 H0 H3 v xs[i] _ _ _ _ (R3.wipe vs) hv h2 fun σ4 ρ4 R4 w4 _ h4 => ⟨by rw [w4 vs hs, wipe_two (fun _ h => h)], ?_⟩
      refine ht W3 H0 H3 σ4 ρ4 _ _ e R4 h4 (fun W5 b H5 g5 h5 => ?_) (kx.go R.ok (g1.trans R.ok (g2.trans g1.ok g3)))
      have s5 := stay g3.ok g5 s3.1 s3.2.1 s3.2.2.1 s3.2.2.2
      have g35 := (g2.trans g1.ok g3).trans g1.ok g5
      cases b with
      | true =>
        refine (hx W5 H0 H5 σ4 ρ4 _ _ e (R4.go g5) h5 (fun W6 u yd H6 g6 hu h6 => ?_) (kx.go R.ok (g1.trans R.ok g35)) : tx σ4 H5 _)
        have s6 := stay g5.ok g6 s5.1 s5.2.1 s5.2.2.1 s5.2.2.2
        refine ⟨us, s6.1, by rw [s6.2.1.length]; exact h6.1, W6, us ++ [u], acc ++ [yd], ?_, upd_same, s6.2.1.append (.one hu), s6.2.2.1, s6.2.2.2, h6.2⟩
        exact Go.mut (g35.trans g1.ok g6) hD s6.2.2.1 s6.2.2.2
      | false => exact (⟨W5, us, acc, g35, s5.1, s5.2.1, s5.2.2.1, s5.2.2.2, h5⟩ : ∃ W3 us acc, Go W1 H1 W3 H5 ∧ H5 Da = some (.lst us) ∧ VdA W3 us acc ∧ W3.F Da = none ∧ ¬ W3.G Da ∧ mLcL mg mt mx vs ρ e (xs.drop (i + 1)) acc q)
    · have e1 : i = xs.length := by omega
      subst e1
      rw [List.drop_length] at h2
      exact .inl ⟨(hJ xs.length W2 H2 g2.le g2.ok).2 (Nat.le_refl _), k W2 H2 Da us acc (g1.trans R.ok g2) (g1.gone R.ok hD) e2 f2 n2 t2 h2⟩) kx
theorem si_lc {vs : List Nat} {tx : TE} {mx : ME} (hi : SimI E ti mi) (hg : SimG g mg is) (ht : SimT E tt mt) (hx : SimE E tx mx) (hs : ∀ i ∈ is, i ∈ vs) : SimE E (tLc ti g tt tx vs) (mLc mi mg mt mx vs) := si_new (sn_lc hi hg ht hx hs)
end
end Dt
set_option Elab.async false
set_option linter.all false
set_option maxRecDepth 100000
set_option maxHeartbeats 4000000
namespace Srl
open PySem PyProof.Rows Srt SrtO Sd
/-- a load at v -/
def IsLd (h : Heap) (v : Value) (L : List PP) : Prop := ∃ a o xs n, v = .ref a ∧ h.get? a = some o ∧ o.cls = .type "tuple" ∧ o.data = .seq xs n ∧ xs.size = L.length ∧ ∀ (j : Nat) (u : Value) (p : PP), xs[j]? = some u → L[j]? = some p → IsPair h u p.1 p.2
theorem IsLd.keeps {h h' : Heap} {v : Value} {L : List PP} (x : IsLd h v L) (k : ∀ b o, h.get? b = some o → o.cls = .type "tuple" → h'.get? b = some o) : IsLd h' v L := by
  obtain ⟨a, o, xs, n, e, ho, hc, hd, hl, hp⟩ := x
  exact ⟨a, o, xs, n, e, k _ _ ho hc, hc, hd, hl, fun j u p h1 h2 => (hp j u p h1 h2).keeps k⟩
end Srl
set_option Elab.async false
set_option linter.all false
set_option maxRecDepth 100000
set_option maxHeartbeats 4000000
set_option Elab.async false
set_option linter.all false
set_option maxRecDepth 100000
set_option maxHeartbeats 4000000
set_option Elab.async false
set_option linter.all false
set_option maxRecDepth 100000
set_option maxHeartbeats 4000000
set_option Elab.async false
set_option linter.all false
set_option maxRecDepth 100000
set_option maxHeartbeats 4000000
namespace Dt
open PySem PySem.Spec PyProof.Rows L2 Com
variable [Dt.Tb]
mutual
def toPy : D → Option PyData
  | .non => some .none
  | .bl b => some (.bool b)
  | .int i => some (.int i)
  | .str s => some (.str s)
  | .tup ds => match toPyA ds with
    | some ps => some (.tuple ps)
    | none => none
  | .lst ds => match toPyA ds with
    | some ps => some (.list ps)
    | none => none
  | .obj _ _ _ => none
  | .flow _ => none
  | .scr _ _ => none
  | .dict0 => none
  | .dct _ _ _ _ => none
  | .vry _ d => toPy d
def toPyA : List D → Option (List PyData)
  | [] => some []
  | d :: ds => match toPy d with
    | some p => match toPyA ds with
      | some ps => some (p :: ps)
      | none => none
    | none => none
end
section
variable {W : Wd} {H : Hp} {K : PySem.W.Frag}
mutual
theorem dp_of (k : Ok W H) : ∀ {v : V} {d : D} {p : PyData}, Vd W v d → toPy d = some p → Dp K H v p
  | _, _, _, .non, e => by rw [toPy] at e; cases e; exact .non
  | _, _, _, .bl b, e => by rw [toPy] at e; cases e; exact .bl b
  | _, _, _, .int i, e => by rw [toPy] at e; cases e; exact .int i
  | _, _, _, .str s, e => by rw [toPy] at e; cases e; exact .str s
  | _, _, _, .tup (ds := ds) h t, e => by
    rw [toPy] at e
    cases q : toPyA ds with
    | none => rw [q] at e; cases e
    | some ps =>
      rw [q] at e
      cases e
      exact .tup (SqT.of (k.f _ _ h)) (dpA_of k t q)
  | _, _, _, .lst (ds := ds) h t, e => by
    rw [toPy] at e
    cases q : toPyA ds with
    | none => rw [q] at e; cases e
    | some ps =>
      rw [q] at e
      cases e
      exact .lst (SqL.of (k.f _ _ h)) (dpA_of k t q)
  | _, _, _, .obj _ _ _, e => by rw [toPy] at e; cases e
  | _, _, _, .flow _ _, e => by rw [toPy] at e; cases e
  | _, _, _, .scr _, e => by rw [toPy] at e; cases e
  | _, _, _, .dict0 _, e => by rw [toPy] at e; cases e
  | _, _, _, .dctN _ _ _ _, e => by rw [toPy] at e; cases e
  | _, _, _, .dctK _ _ _, e => by rw [toPy] at e; cases e
  | _, _, _, .vry h, e => by rw [toPy] at e; exact dp_of k h e
theorem dpA_of (k : Ok W H) : ∀ {vs : List V} {ds : List D} {ps : List PyData}, VdA W vs ds → toPyA ds = some ps → DpAll K H vs ps
  | _, _, _, .nil, e => by rw [toPyA] at e; cases e; exact .nil
  | _, _, _, .cons (d := d) (ds := ds) h t, e => by
    rw [toPyA] at e
    cases q : toPy d with
    | none => rw [q] at e; cases e
    | some p =>
      cases q2 : toPyA ds with
      | none => rw [q, q2] at e; cases e
      | some ps =>
        rw [q, q2] at e
        cases e
        exact .cons (dp_of k h q) (dpA_of k t q2)
end
end
def fAdd (x y : D) (q : KD) : Prop := match x, y with
  | .int i, .int j => q (.int (i + j))
  | .tup a, .tup b => a.length + b.length ≤ 1000 ∧ q (.tup (a ++ b))
  | .lst a, .lst b => a.length + b.length ≤ sizeLine ∧ q (.lst (a ++ b))
  | .str a, .str b => a.length + b.length ≤ sizeLine ∧ q (.str (a ++ b))
  | _, _ => False
def rPlus : R2 := fun x y H Q => (rI0 (fun i j => .int (i + j)) x y H Q) ∨ rCatB x y H Q ∨ rCat x y H Q ∨ (∃ i j, x = .str i ∧ y = .str j ∧ i.length + j.length ≤ sizeLine ∧ Q (.str (i ++ j)) H)
theorem op_plus {X : Cx} : OpR X (binaryOp .Add) rPlus := by
  intro pins s σ H x y v u Q I rx ry h
  rcases h with h | h | h | h
  · exact op_add pins s σ H x y v u Q I rx ry h
  · exact catB pins s σ H x y v u Q I rx ry h
  · exact op_cat pins s σ H x y v u Q I rx ry h
  · exact op_add_str pins s σ H x y v u Q I rx ry h
theorem sr_plus : SimR rPlus fAdd := fun W H x y dx dy Q q k hx hy h hk => by
  cases hx with
  | int i =>
    cases hy with
    | int j => exact .inl ⟨i, j, rfl, rfl, hk W _ _ H (.refl k) (.int _) h⟩
    | _ => exact h.elim
  | str i =>
    cases hy with
    | str j => exact .inr (.inr (.inr ⟨i, j, rfl, rfl, h.1, hk W _ _ H (.refl k) (.str _) h.2⟩))
    | _ => exact h.elim
  | tup a1 t1 =>
    cases hy with
    | tup a2 t2 =>
      refine .inr (.inl ⟨_, _, _, _, rfl, rfl, k.f _ _ a1, k.f _ _ a2, by rw [t1.length, t2.length]; exact h.1, fun p H' hp s => ?_⟩)
      have g := Go.putS k s hp (.inr ⟨_, rfl⟩)
      exact hk _ _ _ H' g (.tup (upd_same (H := W.F)) ((t1.append t2).mono g.le)) h.2
    | _ => exact h.elim
  | lst a1 t1 =>
    cases hy with
    | lst a2 t2 =>
      refine .inr (.inr (.inl ⟨_, _, _, _, rfl, rfl, k.f _ _ a1, k.f _ _ a2, by rw [t1.length, t2.length]; exact h.1, fun p hp => ?_⟩))
      exact hk _ _ _ _ (Go.put k hp) (.lst (upd_same (H := W.F)) ((t1.append t2).mono (Go.put k hp).le)) h.2
    | _ => exact h.elim
  | _ => exact h.elim
def fI (c : Int → Int → Prop) (g : Int → Int → D) : D → D → KD → Prop := fun x y q => match x, y with
  | .int i, .int j => c i j ∧ q (g i j)
  | _, _ => False
theorem sr_I0 {g : Int → Int → Int} : SimR (rI0 fun i j => .int (g i j)) (fI (fun _ _ => True) fun i j => .int (g i j)) := fun W H x y dx dy Q q k hx hy h hk => by
  cases hx with
  | int i =>
    cases hy with
    | int j => exact ⟨i, j, rfl, rfl, hk W _ _ H (.refl k) (.int _) h.2⟩
    | _ => exact h.elim
  | _ => exact h.elim
theorem sr_B0 {g : Int → Int → Bool} : SimR (rI0 fun i j => .bl (g i j)) (fI (fun _ _ => True) fun i j => .bl (g i j)) := fun W H x y dx dy Q q k hx hy h hk => by
  cases hx with
  | int i =>
    cases hy with
    | int j => exact ⟨i, j, rfl, rfl, hk W _ _ H (.refl k) (.bl _) h.2⟩
    | _ => exact h.elim
  | _ => exact h.elim
def fEq (neg : Bool) (x y : D) (q : KD) : Prop := ∃ p r, toPy x = some p ∧ toPy y = some r ∧ SeqAt.shaped p = true ∧ SeqAt.shaped r = true ∧ q (.bl (if neg then !PyData.eqv p r else PyData.eqv p r))
theorem sr_eq {K : PySem.W.Frag} : SimR (rEqD K) (fEq false) := fun W H x y dx dy Q q k hx hy h hk => by
  obtain ⟨p, r, e1, e2, s1, s2, h⟩ := h
  exact ⟨p, r, dp_of k hx e1, dp_of k hy e2, s1, s2, hk W _ _ H (.refl k) (.bl _) h⟩
theorem sr_ne {K : PySem.W.Frag} : SimR (rNeD K) (fEq true) := fun W H x y dx dy Q q k hx hy h hk => by
  obtain ⟨p, r, e1, e2, s1, s2, h⟩ := h
  exact ⟨p, r, dp_of k hx e1, dp_of k hy e2, s1, s2, hk W _ _ H (.refl k) (.bl _) h⟩
def isNon : D → Bool
  | .non => true
  | .vry _ d => isNon d
  | _ => false
theorem isNon_eq {W : Wd} {v : V} : ∀ {d : D}, Vd W v d → decide (v = .non) = isNon d
  | D.vry _ d, h => by cases h with | vry h => exact isNon_eq (d := d) h
  | .non, h => by cases h; rfl
  | .bl _, h => by cases h; exact decide_eq_false (fun z => nomatch z)
  | .int _, h => by cases h; exact decide_eq_false (fun z => nomatch z)
  | .str _, h => by cases h; exact decide_eq_false (fun z => nomatch z)
  | .tup _, h => by cases h; exact decide_eq_false (fun z => nomatch z)
  | .lst _, h => by cases h; exact decide_eq_false (fun z => nomatch z)
  | .obj _ _ _, h => by cases h; exact decide_eq_false (fun z => nomatch z)
  | .flow _, h => by cases h; exact decide_eq_false (fun z => nomatch z)
  | .scr _ _, h => by cases h; exact decide_eq_false (fun z => nomatch z)
  | .dict0, h => by cases h; exact decide_eq_false (fun z => nomatch z)
  | .dct _ _ _ _, h => by cases h <;> exact decide_eq_false (fun z => nomatch z)
def fIsN (neg : Bool) (x y : D) (q : KD) : Prop := y = .non ∧ q (.bl (if neg then !isNon x else isNon x))
theorem sr_isN : SimR (fun x y H Q => y = .non ∧ Q (.bl (decide (x = .non))) H) (fIsN false) := fun W H x y dx dy Q q k hx hy h hk => by
  obtain ⟨rfl, h⟩ := h
  cases hy
  refine ⟨rfl, ?_⟩
  rw [isNon_eq hx]
  exact hk W _ _ H (.refl k) (.bl _) h
theorem sr_notN : SimR (fun x y H Q => y = .non ∧ Q (.bl (!decide (x = .non))) H) (fIsN true) := fun W H x y dx dy Q q k hx hy h hk => by
  obtain ⟨rfl, h⟩ := h
  cases hy
  refine ⟨rfl, ?_⟩
  rw [isNon_eq hx]
  exact hk W _ _ H (.refl k) (.bl _) h
def rNotInU (K : PySem.W.Frag) : R2 := fun x y H Q => Gn.rNotInT K x y H Q ∨ rNotInD K x y H Q
theorem op_notInU {X : Cx} (K : PySem.W.Frag) (hu : X.A.units + 65 < cLine) (hK : X.K = K := by rfl) : OpR X (compareOp .NotIn) (rNotInU K) := by
  intro pins s σ H x y v u Q I rx ry h
  rcases h with h | h
  · exact Gn.notInT K hu hK pins s σ H x y v u Q I rx ry h
  · subst hK; exact op_notInD hu pins s σ H x y v u Q I rx ry h
def fIn (neg : Bool) (x y : D) (q : KD) : Prop := ∃ p ds ps, toPy x = some p ∧ (y = .tup ds ∨ y = .lst ds) ∧ toPyA ds = some ps ∧ SeqAt.shaped p = true ∧ SeqAt.shaped (.list ps) = true ∧ q (.bl (if neg then !ps.any (fun z => PyData.eqv z p) else ps.any fun z => PyData.eqv z p))
def rIxU (K : PySem.W.Frag) : R2 := fun x y H Q => rIxL K x y H Q ∨ rIxT K x y H Q
theorem ixU {X : Cx} (K : PySem.W.Frag) (hK : X.K = K := by rfl) : IxR X (rIxU K) := by
  intro value slice pins s σ H x y v u Q I rx ry h he
  rcases h with h | h
  · exact ixL K hK value slice pins s σ H x y v u Q I rx ry h he
  · exact ixT K hK value slice pins s σ H x y v u Q I rx ry h he
def fIx (x y : D) (q : KD) : Prop := ∃ ds i d, (x = .tup ds ∨ x = .lst ds) ∧ y = .int i ∧ atI ds i = some d ∧ q d
theorem atI_vd {W : Wd} {vs : List V} {ds : List D} {i : Int} {d : D} (t : VdA W vs ds) (h : atI ds i = some d) : ∃ v, atI vs i = some v ∧ Vd W v d := by
  unfold atI at h ⊢
  rw [t.length]
  cases e : ixN ds.length i with
  | none =>
    rw [e] at h
    cases h
  | some j =>
    rw [e] at h
    exact t.get' h
theorem sr_ix {K : PySem.W.Frag} : SimR (rIxU K) fIx := fun W H x y dx dy Q q k hx hy h hk => by
  obtain ⟨ds, i, d, e1, rfl, e3, h⟩ := h
  cases hy
  rcases e1 with rfl | rfl
  · obtain ⟨a, vs, rfl, f, hh, t⟩ := tup_of k hx rfl
    obtain ⟨v, e4, hv⟩ := atI_vd t e3
    exact .inr ⟨a, vs, i, v, rfl, rfl, SqT.of hh, e4, hk W v d H (.refl k) hv h⟩
  · obtain ⟨a, vs, rfl, f, hh, t⟩ := lst_of k hx rfl
    obtain ⟨v, e4, hv⟩ := atI_vd t e3
    exact .inl ⟨a, vs, i, v, rfl, rfl, SqL.of hh, e4, hk W v d H (.refl k) hv h⟩
def cutD (xs : List D) (lo hi : Option Int) : List D := (xs.drop (HT.sIx xs.length 0 lo)).take (HT.sIx xs.length xs.length hi - HT.sIx xs.length 0 lo)
theorem VdA.cut {W : Wd} {vs : List V} {ds : List D} (t : VdA W vs ds) (lo hi : Option Int) : VdA W (cutV vs lo hi) (cutD ds lo hi) := by
  unfold cutV cutD
  rw [t.length]
  exact (t.drop _).take _
def rSlU (K : PySem.W.Frag) : V → Option Int → Option Int → Hp → VK → Prop := fun x lo hi H Q => rCutT x lo hi H Q ∨ rSlL K x lo hi H Q
theorem slU {X : Cx} (K : PySem.W.Frag) (hK : X.K = K := by rfl) : SlR X (rSlU K) := by
  intro pins s σ H x v vl vu lo hi sl Q I rx hs pl pu h
  rcases h with h | h
  · exact slT pins s σ H x v vl vu lo hi sl Q I rx hs pl pu h
  · exact slL K hK pins s σ H x v vl vu lo hi sl Q I rx hs pl pu h
def fSl (x : D) (lo hi : Option Int) (q : KD) : Prop := match x with
  | .tup ds => q (.tup (cutD ds lo hi))
  | .lst ds => q (.lst (cutD ds lo hi))
  | _ => False
theorem sl_U {K : PySem.W.Frag} : SimSl (rSlU K) fSl := fun W H x dx lo hi Q q k hx h hk => by
  cases hx with
  | tup a t =>
    refine .inl ⟨_, _, rfl, k.f _ _ a, fun p H' hp s => ?_⟩
    have g := Go.putS k s hp (.inr ⟨_, rfl⟩)
    exact hk _ _ _ H' g (.tup (upd_same (H := W.F)) ((t.cut lo hi).mono g.le)) h
  | lst a t =>
    refine .inr ⟨_, _, rfl, SqL.of (k.f _ _ a), fun p hp => ?_⟩
    exact hk _ _ _ _ (Go.put k hp) (.lst (upd_same (H := W.F)) ((t.cut lo hi).mono (Go.put k hp).le)) h
  | _ => exact h.elim
def fRep (x y : D) (q : KD) : Prop := match x, y with
  | .tup ds, .int k => ds ≠ [] ∧ 1 ≤ k ∧ k ≤ 1000 ∧ ds.length ≤ 1000 ∧ q (.tup (List.replicate k.toNat ds).flatten)
  | _, _ => False
theorem VdA.rep {W : Wd} {vs : List V} {ds : List D} (t : VdA W vs ds) : ∀ n, VdA W (List.replicate n vs).flatten (List.replicate n ds).flatten
  | 0 => .nil
  | n + 1 => by
    rw [List.replicate_succ, List.replicate_succ, List.flatten_cons, List.flatten_cons]
    exact t.append (VdA.rep t n)
theorem sr_rep {K : PySem.W.Frag} : SimR (rRepA K) fRep := fun W H x y dx dy Q q k hx hy h hk => by
  cases hx with
  | tup a t =>
    cases hy with
    | int i =>
      obtain ⟨h1, h2, h3, h4, h⟩ := h
      refine ⟨_, i, _, rfl, rfl, k.f _ _ a, fun z => h1 ?_, h2, h3, by rw [t.length]; exact h4, fun p H' hp s => ?_⟩
      · subst z
        cases t
        rfl
      · have g := Go.putS k s hp (.inr ⟨_, rfl⟩)
        exact hk _ _ _ H' g (.tup (upd_same (H := W.F)) ((t.rep _).mono g.le)) h
    | _ => exact h.elim
  | _ => exact h.elim
theorem su_neg : SimU (rU fun i => .int (-i)) (fun x q => match x with | .int i => q (.int (-i)) | _ => False) := fun W H x dx Q q k hx h hk => by
  cases hx with
  | int i => exact ⟨i, rfl, hk W _ _ H (.refl k) (.int _) h⟩
  | _ => exact h.elim
def fLen (K : PySem.W.Frag) (xs : List D) (q : KD) : Prop := (∃ ds, (xs = [.tup ds] ∨ xs = [.lst ds]) ∧ q (.int (ds.length : Nat))) ∨ ∃ ns, xs = [.scr K ns] ∧ q (.int (ns.length : Nat))
theorem one_of {W : Wd} {vs : List V} {d : D} (h : VdA W vs [d]) : ∃ v, vs = [v] ∧ Vd W v d := by
  cases h with
  | cons h t =>
    cases t
    exact ⟨_, rfl, h⟩
theorem two_of {W : Wd} {vs : List V} {d e : D} (h : VdA W vs [d, e]) : ∃ v u, vs = [v, u] ∧ Vd W v d ∧ Vd W u e := by
  cases h with
  | cons h t =>
    obtain ⟨u, rfl, hu⟩ := one_of t
    exact ⟨_, _, rfl, h, hu⟩
theorem sc_len {K : PySem.W.Frag} : SimC (Com.rLen K) (fLen K) := fun W H xs ds Q q k hx h hk => by
  rcases h with ⟨es, e1, h⟩ | ⟨ns, rfl, h⟩
  rcases e1 with rfl | rfl
  · obtain ⟨v, rfl, hv⟩ := one_of hx
    obtain ⟨a, vs, rfl, f, hh, t⟩ := tup_of k hv rfl
    exact ⟨a, vs, rfl, .inr (SqT.of hh), by rw [t.length]; exact hk W _ _ H (.refl k) (.int _) h⟩
  · obtain ⟨v, rfl, hv⟩ := one_of hx
    obtain ⟨a, vs, rfl, f, hh, t⟩ := lst_of k hv rfl
    exact ⟨a, vs, rfl, .inl (SqL.of hh), by rw [t.length]; exact hk W _ _ H (.refl k) (.int _) h⟩
  · obtain ⟨v, rfl, hv⟩ := one_of hx
    cases hv with
    | scr g => exact ⟨_, _, rfl, .inl (g H k.f), by rw [List.length_map]; exact hk W _ _ H (.refl k) (.int _) h⟩
def fTuple (xs : List D) (q : KD) : Prop := ∃ ds, (xs = [.tup ds] ∨ xs = [.lst ds]) ∧ q (.tup ds)
def fList (xs : List D) (q : List D → Prop) : Prop := ∃ ds, (xs = [.tup ds] ∨ xs = [.lst ds]) ∧ q ds
theorem sc_tuple {K : PySem.W.Frag} : SimC (rTupleOf K) fTuple := fun W H xs ds Q q k hx h hk => by
  obtain ⟨es, e1, h⟩ := h
  rcases e1 with rfl | rfl
  · obtain ⟨v, rfl, hv⟩ := one_of hx
    obtain ⟨a, vs, rfl, f, hh, t⟩ := tup_of k hv rfl
    exact ⟨a, vs, rfl, .inr ⟨SqT.of hh, hk W _ _ H (.refl k) (.tup f t) h⟩⟩
  · obtain ⟨v, rfl, hv⟩ := one_of hx
    obtain ⟨a, vs, rfl, f, hh, t⟩ := lst_of k hv rfl
    refine ⟨a, vs, rfl, .inl ⟨SqL.of hh, fun p hp => ?_⟩⟩
    have g := Go.put (o := .tup vs) k hp
    exact hk _ _ _ _ g (.tup (upd_same (H := W.F)) (t.mono g.le)) h
/-- a built-in that makes a new list -/
def SimCN (r : List V → Hp → VK → Prop) (f : List D → (List D → Prop) → Prop) : Prop := ∀ W H xs ds Q q, Ok W H → VdA W xs ds → f ds q → Kn W H Q q → r xs H Q
theorem scn_list {K : PySem.W.Frag} : SimCN (rListOf K) fList := fun W H xs ds Q q k hx h hk => by
  obtain ⟨es, e1, h⟩ := h
  rcases e1 with rfl | rfl
  · obtain ⟨v, rfl, hv⟩ := one_of hx
    obtain ⟨a, vs, rfl, f, hh, t⟩ := tup_of k hv rfl
    exact ⟨a, vs, rfl, .inr (SqT.of hh), fun p hp => hk W _ p vs es (.own k hp) hp upd_same (k.no hp).1 (k.no hp).2 t h⟩
  · obtain ⟨v, rfl, hv⟩ := one_of hx
    obtain ⟨a, vs, rfl, f, hh, t⟩ := lst_of k hv rfl
    exact ⟨a, vs, rfl, .inl (SqL.of hh), fun p hp => hk W _ p vs es (.own k hp) hp upd_same (k.no hp).1 (k.no hp).2 t h⟩
theorem sn_cb {E : XK} {n : Nat} {ta : TA} {ma : MA} {r : List V → Hp → VK → Prop} {f : List D → (List D → Prop) → Prop} (ha : SimA E n ta ma) (hr : SimCN r f) : SimN E (tCB r ta) (fun ρ q e => ma ρ (fun ds => f ds q) e) := fun W H0 H σ ρ Q q e R h k kx =>
  ha W H0 H σ ρ _ _ e R h (fun W1 xs ds H1 g1 hx _ h1 => hr W1 H1 xs ds Q q g1.ok hx h1 fun W' H' p vs es g hp e1 f1 n1 t1 h2 => k W' H' p vs es (g1.trans R.ok g) (g1.gone R.ok hp) e1 f1 n1 t1 h2) kx
theorem sc_list {K : PySem.W.Frag} : SimC (rListOf K) (fun xs q => fList xs fun ds => q (.lst ds)) := fun W H xs ds Q q k hx h hk => scn_list W H xs ds Q _ k hx h (kn_of k hk)
theorem sn_lst {E : XK} {n : Nat} {ta : TA} {ma : MA} (ha : SimA E n ta ma) : SimN E (tLst ta) (fun ρ q e => ma ρ (fun ds => ds.length ≤ sizeLine ∧ q ds) e) := fun W H0 H σ ρ Q q e R h k kx =>
  ha W H0 H σ ρ _ _ e R h (fun W1 xs ds H1 g1 hx _ h1 => ⟨by rw [hx.length]; exact h1.1, fun p hp => k W1 _ p xs ds (g1.trans R.ok (.own g1.ok hp)) (g1.gone R.ok hp) upd_same (g1.ok.no hp).1 (g1.ok.no hp).2 hx h1.2⟩) kx
def fAll (xs : List D) (q : KD) : Prop := ∃ bs : List Bool, xs = [.lst (bs.map .bl)] ∧ q (.bl (bs.all id))
theorem sc_all {K : PySem.W.Frag} : SimC (rAll K) fAll := fun W H xs ds Q q k hx h hk => by
  obtain ⟨bs, rfl, h⟩ := h
  obtain ⟨v, rfl, hv⟩ := one_of hx
  obtain ⟨a, vs, rfl, f, hh, t⟩ := lst_of k hv rfl
  exact ⟨a, bs, rfl, SqL.of (by rw [hh, t.of_bls]), hk W _ _ H (.refl k) (.bl _) h⟩
def fMin (xs : List D) (q : KD) : Prop := ∃ ns : List Int, xs = [.lst (ns.map .int)] ∧ 0 < ns.length ∧ ∀ m, m ∈ ns → (∀ y, y ∈ ns → m ≤ y) → q (.int m)
theorem sc_min {K : PySem.W.Frag} : SimC (rMin K) fMin := fun W H xs ds Q q k hx h hk => by
  obtain ⟨bs, rfl, l, h⟩ := h
  obtain ⟨v, rfl, hv⟩ := one_of hx
  obtain ⟨a, vs, rfl, f, hh, t⟩ := lst_of k hv rfl
  exact ⟨a, bs, rfl, SqL.of (by rw [hh, t.of_ints]), l, fun m h1 h2 => hk W _ _ H (.refl k) (.int _) (h m h1 h2)⟩
def tyD : D → Value
  | .non => .type "NoneType"
  | .bl _ => .type "bool"
  | .int _ => .type "int"
  | .str _ => .type "str"
  | .tup _ => .type "tuple"
  | .lst _ => .type "list"
  | .obj C _ _ => .ref C
  | .flow _ => .type "list"
  | .scr _ _ => .type "list"
  | .dict0 => .type "dict"
  | .dct _ _ _ _ => .type "dict"
  | .vry _ d => tyD d
/-- what is asked of an object's class -/
structure ClsT (K : PySem.W.Frag) (C : Addr) : Prop where
  cl : Cls K C
  ca : PySem.W.findIn K (.ref C) "__class__" = some (some (.builtin "object.__class__"))
  cn : PySem.W.specialIn K (.builtin "object.__class__") "__get__" = some (some (.builtin "getset_descriptor.__get__"))
  ct : PySem.W.takesIn K (.builtin "object.__class__") = some true
  cm : PySem.W.mroIn K C (.type "object") = some true
  kN : ∀ n ∈ (["int", "bool", "tuple", "list", "str", "dict"] : List String), PySem.W.kitOne K (.ref C) (.type n) = some false
def clsOk (K : PySem.W.Frag) : D → Prop
  | .obj C _ _ => ClsT K C
  | .scr _ _ => False
  | .dct _ _ _ _ => False
  | .vry _ _ => False
  | _ => True
theorem tyx_of {K : PySem.W.Frag} {W : Wd} {H : Hp} {v : V} (k : Ok W H) : ∀ {d : D}, Vd W v d → clsOk K d → TyX K H v (tyD d)
  | .vry _ _, h, c => False.elim c
  | .non, h, c => by cases h; exact .base .non
  | .bl b, h, c => by cases h; exact .base (.bl b)
  | .int i, h, c => by cases h; exact .base (.int i)
  | .str s, h, c => by cases h; exact .base (.str s)
  | .tup _, h, c => by cases h with | tup a t => exact .base (.tup (k.f _ _ a))
  | .lst _, h, c => by cases h with | lst a t => exact .base (.lst (k.f _ _ a))
  | .obj _ _ _, h, c => by cases h with | obj a l t => exact .base (.ins (k.f _ _ a) c.cl c.ca c.cn c.ct c.cm)
  | .flow _, h, c => by
    cases h with
    | flow g nt =>
      obtain ⟨n, x, r, e⟩ := (k.g _ g).2.flow nt
      exact .base (.lst e)
  | .scr _ _, h, c => c.elim
  | .dct _ _ _ _, h, c => c.elim
  | .dict0, h, c => by cases h with | dict0 h => exact .base (.dK (k.f _ _ h))
def fIsi (K : PySem.W.Frag) (u : Value) (x : D) (q : KD) : Prop := clsOk K x ∧ ∃ b, PySem.W.kitOne K (tyD x) u = some b ∧ q (.bl b)
/-- isinstance(e, T), T a built-in class or one of one's own -/
abbrev mIsi (K : PySem.W.Frag) (u : Value) (a : ME) : ME := fun ρ q e => a ρ (fun x => fIsi K u x q) e
theorem si_isi {E : XK} {K : PySem.W.Frag} {te : TE} {me : ME} {c : V} {u : Value} (hc : ClsV c u) (ha : SimE E te me) : SimE E (tCB (rIsi K) (tCons te (tCons (tC c) tNil))) (mIsi K u me) := fun W H0 H σ ρ Q q e R h k kx =>
  ha W H0 H σ ρ _ _ e R h (fun W1 v d H1 g1 hv h1 => by
    obtain ⟨c1, b, e1, h1⟩ := h1
    exact ⟨v, c, tyD d, u, b, rfl, hc, tyx_of g1.ok hv c1, e1, k W1 _ _ H1 g1 (.bl b) h1⟩) kx
end Dt
set_option Elab.async false
set_option linter.all false
set_option maxRecDepth 100000
set_option maxHeartbeats 4000000
namespace Dt
open PySem PySem.Spec PyProof.Rows L2 Com
variable [Dt.Tb]
theorem passE {X : Cx} {E : XK} : Passes CX0 X E := fun _ _ _ _ _ _ _ h => h.elim
def startD (N : List Str) (ds : List D) : Ev := ds.map (fun d => some (.d d)) ++ List.replicate (N.length - ds.length) none
theorem VdA.getD {W : Wd} {vs : List V} {ds : List D} (t : VdA W vs ds) {i : Nat} {d : D} (h : ds[i]? = some d) : ∃ v, vs[i]? = some v ∧ Vd W v d := t.get' h
theorem start_get {N : List Str} {ds : List D} {i : Nat} {e : En} (h : (startD N ds)[i]? = some (some e)) : ∃ d, e = .d d ∧ ds[i]? = some d := by
  unfold startD at h
  by_cases lt : i < (ds.map (fun d => some (En.d d))).length
  · rw [List.getElem?_append_left lt, List.getElem?_map] at h
    cases q : ds[i]? with
    | none => rw [q] at h; cases h
    | some d =>
      rw [q] at h
      cases h
      exact ⟨d, rfl, rfl⟩
  · rw [List.getElem?_append_right (by omega)] at h
    have := List.mem_of_getElem? h
    have := (List.mem_replicate.mp this).2
    cases this
theorem rep_start {W : Wd} {H : Hp} {N : List Str} {vs : List V} {ds : List D} (k : Ok W H) (t : VdA W vs ds) : Rep W H H (L2.start N vs) (startD N ds) where
  ok := k
  len := by
    unfold L2.start startD
    simp [t.length]
  at_ := fun i e h => by
    obtain ⟨d, rfl, h1⟩ := start_get h
    obtain ⟨v, h2, hv⟩ := t.get' h1
    refine ⟨v, ?_, hv⟩
    unfold L2.start
    have := (List.getElem?_eq_some_iff.mp h2).1
    rw [List.getElem?_append_left (by simpa using this), List.getElem?_map, h2]
    rfl
  sep := fun i j ds' es v h _ _ _ => by
    obtain ⟨d, e, _⟩ := start_get h
    cases e
/-- what follows a def's body -/
def endD (q : KD) : EndsD := ⟨fun _ => q .non, q, fun _ => False, fun _ => False⟩
theorem ct_end {W : Wd} {H : Hp} {Q : VK} {q : KD} {E : XK} {e : XD} (k : Kv W H Q q) (D : Ends) (h1 : D.nx = fun _ H' => Q .non H') (h2 : D.rt = Q) : Ct W H W D (endD q) where
  nx := fun W' H' σ' ρ' _ g R h => by rw [h1]; exact k W' _ _ H' g .non h
  rt := fun W' H' v x _ g hv h => by rw [h2]; exact k W' v x H' g hv h
  bk := fun W' H' σ' ρ' _ g R h => h.elim
  ct := fun W' H' σ' ρ' _ g R h => h.elim
section
variable {P : Program} {w : World} {K : PySem.W.Frag} {mg : Str → Option Value} {base : Heap} {x qual : Str} {C : Addr} {st : Stmt} {ps N : List Str} {k : Nat} {sp : SpD}
theorem DefAtD.ok (D : DefAt K mg x st ps) (S : FnScope N ps (defScope st)) (len : ∀ ds q e, sp ds q e → ds.length = ps.length)
    (hbody : ∀ (f : Addr) (cdv : Value) (A : Around) (outer : List Env) (s : Shared) (H : Hp) (E : XK), Room k (A.deeper (envOfC x (defScope st) s.heap.objs.size f cdv)) →
      ∃ t m, PSs (cxOf CX0 P w K mg base N x (defScope st) f cdv A outer s H E).nox (defBody st) t ∧ SimS E t m ∧ ∀ ds q e, sp ds q e → m (endD q) (startD N ds) e) : DefOk P w K mg base CX0 (k + 1) x (spOf sp) := by
  refine D.ok S (fun vs H Q E h => ?_) (fun f cdv A outer s H vs Q E hr h => ?_)
  · obtain ⟨W, ds, q, e, k0, t, h, _⟩ := h
    rw [t.length, len ds q e h]
  obtain ⟨W, ds, q, e, k0, t, h, kq, kx⟩ := h
  obtain ⟨t', m, p, sm, hm⟩ := hbody f cdv A outer s H E hr
  exact ⟨t', p, sm W H W H _ _ _ (endD q) e k0 (.refl k0) (rep_start k0 t) (hm ds q e h) (ct_end (E := E) (e := e) kq _ rfl rfl) kx⟩
theorem MethAtD.ok (D : MethAt K C x qual st ps) (S : FnScope N ps (defScope st)) (len : ∀ ds q e, sp ds q e → ds.length = ps.length)
    (hbody : ∀ (f : Addr) (cdv : Value) (A : Around) (outer : List Env) (s : Shared) (H : Hp) (E : XK), Room k (A.deeper (envOfC qual (defScope st) s.heap.objs.size f cdv)) →
      ∃ t m, PSs (cxOf CX0 P w K mg base N qual (defScope st) f cdv A outer s H E).nox (defBody st) t ∧ SimS E t m ∧ ∀ ds q e, sp ds q e → m (endD q) (startD N ds) e) : MethOk P w K mg base CX0 (k + 1) C x (spOf sp) := by
  refine D.fn S (fun vs H Q E h => ?_) (fun f cdv A outer s H vs Q E hr h => ?_)
  · obtain ⟨W, ds, q, e, k0, t, h, _⟩ := h
    rw [t.length, len ds q e h]
  obtain ⟨W, ds, q, e, k0, t, h, kq, kx⟩ := h
  obtain ⟨t', m, p, sm, hm⟩ := hbody f cdv A outer s H E hr
  exact ⟨t', p, sm W H W H _ _ _ (endD q) e k0 (.refl k0) (rep_start k0 t) (hm ds q e h) (ct_end (E := E) (e := e) kq _ rfl rfl) kx⟩
/-- the function itself (for calls by names) -/
theorem FunD.ok {f : Addr} {fd : FuncData} (F : Fun K x qual st f fd) (S : FnScope N ps (defScope st)) (len : ∀ ds q e, sp ds q e → ds.length = ps.length)
    (hbody : ∀ (cdv : Value) (A : Around) (outer : List Env) (s : Shared) (H : Hp) (E : XK), Room k (A.deeper (envOfC qual (defScope st) s.heap.objs.size f cdv)) →
      ∃ t m, PSs (cxOf CX0 P w K mg base N qual (defScope st) f cdv A outer s H E).nox (defBody st) t ∧ SimS E t m ∧ ∀ ds q e, sp ds q e → m (endD q) (startD N ds) e) : FnOk P w K mg base CX0 (k + 1) f fd ps (spOf sp) := by
  refine F.ok S (fun vs H Q E h => ?_) (fun cdv A outer s H vs Q E hr h => ?_)
  · obtain ⟨W, ds, q, e, k0, t, h, _⟩ := h
    rw [t.length, len ds q e h]
  obtain ⟨W, ds, q, e, k0, t, h, kq, kx⟩ := h
  obtain ⟨t', m, p, sm, hm⟩ := hbody cdv A outer s H E hr
  exact ⟨t', p, sm W H W H _ _ _ (endD q) e k0 (.refl k0) (rep_start k0 t) (hm ds q e h) (ct_end (E := E) (e := e) kq _ rfl rfl) kx⟩
theorem defok_imp {sp' : Sp} {sp'' : Sp} {CX : CXT} (D : DefOk P w K mg base CX k x sp') (h : ∀ vs H Q E, sp'' vs H Q E → sp' vs H Q E) : DefOk P w K mg base CX k x sp'' := let ⟨f, F, m, kp⟩ := D.ex; ⟨f, F.imp h, m, kp⟩
end
section
variable {E : XK} {K : PySem.W.Frag} {te ta ti : TE} {me mi : ME} {na : MA}
theorem Rep.newOwn {W W' : Wd} {H H0 H' : Hp} {σ : L2.St} {ρ : Ev} {i : Nat} {p : Addr} {vs : List V} {ds : List D} (R : Rep W H0 H σ ρ) (g : Go W H W' H') (hp : H p = none) (z : H0 p = none) (e : H' p = some (.lst vs)) (f : W'.F p = none) (n : ¬ W'.G p) (t : VdA W' vs ds) :
    Rep W' H0 H' (σ.set i (some (.ref p))) (ρ.set i (some (.own ds))) := by
  have R1 := R.go g
  have noa : ∀ (j : Nat) (xs : List D) (u : V), ρ[j]? = some (some (.own xs)) → σ[j]? = some (some u) → u ≠ .ref p := fun j xs u q q2 e => by
    obtain ⟨w, e1, b, ws, e2, e3, _⟩ := R.at_ j _ q
    rw [q2] at e1
    cases e1
    subst e
    cases e2
    rw [hp] at e3
    cases e3
  refine ⟨R1.ok, by rw [List.length_set, List.length_set, R.len], fun j e' q => ?_, fun j k xs ys u q1 q2 q3 q4 => ?_⟩
  · rcases getset q with ⟨rfl, e1, l⟩ | ⟨n', q⟩
    · cases e1
      exact ⟨_, List.getElem?_set_self (by rw [R.len]; exact l), p, vs, rfl, e, t, f, n, z⟩
    · obtain ⟨u, e1, s⟩ := R1.at_ j e' q
      exact ⟨u, by rw [List.getElem?_set_ne (fun z => n' z.symm)]; exact e1, s⟩
  · rcases getset q1 with ⟨e1, _, l1⟩ | ⟨n1, q1'⟩
    · rcases getset q2 with ⟨e2, _, _⟩ | ⟨n2, q2'⟩
      · rw [e1, e2]
      · rw [e1, List.getElem?_set_self (by rw [R.len]; exact l1)] at q3
        rw [List.getElem?_set_ne (fun z => n2 z.symm)] at q4
        cases q3
        exact absurd rfl (noa k _ _ q2' q4)
    · rw [List.getElem?_set_ne (fun z => n1 z.symm)] at q3
      rcases getset q2 with ⟨e2, _, l2⟩ | ⟨n2, q2'⟩
      · rw [e2, List.getElem?_set_self (by rw [R.len]; exact l2)] at q4
        cases q4
        exact absurd rfl (noa j _ _ q1' q3)
      · rw [List.getElem?_set_ne (fun z => n2 z.symm)] at q4
        exact R.sep j k xs ys u q1' q2' q3 q4
/-- x = (a new list), to be changed -/
abbrev msOwn (i : Nat) (a : MA) : MS := fun d ρ e => a ρ (fun ds => d.nx (ρ.set i (some (.own ds)))) e
theorem ss_own {i : Nat} (h : SimN E te na) : SimS E (tAsg te (gName i)) (msOwn i na) := fun W0 H0 W H σ ρ D d e k0 g R hm c kx =>
  h W H0 H σ ρ _ _ e R hm (fun W' H' p vs ds g1 hp e1 f1 n1 t1 h1 => c.nx W' H' _ _ g1.le (g.trans k0 g1) (R.newOwn g1 hp (g.gone k0 hp) e1 f1 n1 t1) h1) (kx.go k0 g)
theorem Rep.own {W : Wd} {H H0 : Hp} {σ : L2.St} {ρ : Ev} {i : Nat} {ds : List D} (R : Rep W H0 H σ ρ) (h : ρ[i]? = some (some (.own ds))) : ∃ a vs, σ[i]? = some (some (.ref a)) ∧ H a = some (.lst vs) ∧ VdA W vs ds ∧ W.F a = none ∧ ¬ W.G a ∧ H0 a = none := by
  obtain ⟨v, e, a, vs, e2, r⟩ := R.at_ i _ h
  subst e2
  exact ⟨a, vs, e, r⟩
/-- from here on it stays as it is -/
abbrev msFrz (i : Nat) (m : MS) : MS := fun d ρ e => ∃ ds, ρ[i]? = some (some (.own ds)) ∧ m d (ρ.set i (some (.d (.lst ds)))) e
theorem Rep.frz {W : Wd} {H H0 : Hp} {σ : L2.St} {ρ : Ev} {i : Nat} {a : Addr} {vs : List V} {ds : List D} (R : Rep W H0 H σ ρ) (h : ρ[i]? = some (some (.own ds))) (hs : σ[i]? = some (some (.ref a))) (k : Ok (W.put a (.lst vs)) H) (l : Le W (W.put a (.lst vs))) (t : VdA W vs ds) (f : W.F a = none) : Rep (W.put a (.lst vs)) H0 H σ (ρ.set i (some (.d (.lst ds)))) where
  ok := k
  len := by rw [List.length_set, R.len]
  at_ := fun j e q => by
    rcases getset q with ⟨rfl, e1, _⟩ | ⟨n, q⟩
    · cases e1
      exact ⟨_, hs, .lst (upd_same (H := W.F)) (t.mono l)⟩
    · obtain ⟨u, e1, s⟩ := R.at_ j e q
      refine ⟨u, e1, ?_⟩
      cases e with
      | d x => exact Vd.mono l s
      | own xs =>
        obtain ⟨b, ws, e2, e3, r1, r2, r3, r4⟩ := s
        refine ⟨b, ws, e2, e3, r1.mono l, ?_, r3, r4⟩
        show upd W.F a _ b = none
        rw [upd_ne (fun z => n (R.sep j i xs ds u q h e1 (by rw [e2, z]; exact hs)))]
        exact r2
  sep := fun j k xs ys u q1 q2 q3 q4 => by
    rcases getset q1 with ⟨_, e1, _⟩ | ⟨_, q1⟩
    · cases e1
    rcases getset q2 with ⟨_, e1, _⟩ | ⟨_, q2⟩
    · cases e1
    exact R.sep j k xs ys u q1 q2 q3 q4
theorem ss_frz {i : Nat} {ts : TS} {ms : MS} (h : SimS E ts ms) : SimS E ts (msFrz i ms) := fun W0 H0 W H σ ρ D d e k0 g R hm c kx => by
  obtain ⟨ds, h1, hm⟩ := hm
  obtain ⟨a, vs, e1, ha, t, f, n, z⟩ := R.own h1
  obtain ⟨g2, l2⟩ := g.freeze z f n ha
  exact h W0 H0 (W.put a (.lst vs)) H σ _ D d e k0 g2 (R.frz h1 e1 g2.ok l2 t f) hm (c.up l2) kx
/-- x.append(e) -/
abbrev msApp (i : Nat) (a : ME) : MS := fun d ρ e => ∃ ds, ρ[i]? = some (some (.own ds)) ∧ a ρ (fun y => ds.length < sizeLine ∧ d.nx (ρ.set i (some (.own (ds ++ [y]))))) e
theorem own_stay {W W' : Wd} {H H' : Hp} {a : Addr} {vs : List V} {ds : List D} (k : Ok W H) (g : Go W H W' H') (e : H a = some (.lst vs)) (t : VdA W vs ds) (n : ¬ W.G a) : H' a = some (.lst vs) ∧ VdA W' vs ds := ⟨g.p _ _ e n, t.mono g.le⟩
theorem ss_app {i : Nat} (ha : SimE E te me) : SimS E (tDrop (tBM K "list" rAppend (tVar i) (tCons te tNil))) (msApp i me) := fun W0 H0 W H σ ρ D d e k0 g R hm c kx => by
  obtain ⟨ds, h1, hm⟩ := hm
  obtain ⟨a, vs, e1, hh, t, f, n, z⟩ := R.own h1
  refine ⟨.ref a, e1, .inl ⟨rfl, vs, SqL.of hh⟩, ?_⟩
  refine ha W H0 H σ ρ _ _ e R hm (fun W1 v y H1 g1 hv h2 => ?_) (kx.go k0 g)
  obtain ⟨e2, t2⟩ := own_stay R.ok g1 hh t n
  obtain ⟨R2, f2, n2, z2⟩ := (R.go g1).mutOwn h1 e1 (t2.append (.one hv))
  refine ⟨a, vs, v, rfl, rfl, e2, by rw [t2.length]; exact h2.1, ?_⟩
  exact c.nx W1 _ σ _ g1.le ((g.trans k0 g1).mut z f2 n2) R2 h2.2
/-- x[k] op= e -/
abbrev msAugS (i : Nat) (b a : ME) (f : D → D → KD → Prop) : MS := fun d ρ e => ∃ ds, ρ[i]? = some (some (.own ds)) ∧ b ρ (fun kd => ∃ k j x, kd = .int k ∧ ixN ds.length k = some j ∧ ds[j]? = some x ∧ a ρ (fun y => f x y fun z => d.nx (ρ.set i (some (.own (ds.set j z))))) e) e
theorem ss_augS {i : Nat} {t : TIp} {f : D → D → KD → Prop} (ha : SimE E te me) (hi : SimE E ti mi) (hp : SimIp t f) : SimS E (tAugS (tVar i) ti te (rIxL K) t rSetL) (msAugS i mi me f) := fun W0 H0 W H σ ρ D d e k0 g R hm c kx => by
  obtain ⟨ds, h1, hm⟩ := hm
  obtain ⟨a, vs, e1, hh, tt, f0, n, z⟩ := R.own h1
  refine ⟨.ref a, e1, ?_⟩
  refine hi W H0 H σ ρ _ _ e R hm (fun W1 u yd H1 g1 hu h3 => ?_) (kx.go k0 g)
  obtain ⟨kk, j, x, rfl, hj, hx, h3⟩ := h3
  cases hu
  obtain ⟨e2, t2⟩ := own_stay R.ok g1 hh tt n
  obtain ⟨v, hv, rv⟩ := t2.get' hx
  refine ⟨a, vs, kk, v, rfl, rfl, SqL.of e2, by unfold atI; rw [t2.length, hj]; exact hv, ?_⟩
  have n1 : ¬ W1.G a := fun q => by
    rcases g1.gn a q with q | q
    · exact n q
    · rw [hh] at q; cases q
  refine ha W1 H0 H1 σ ρ _ _ e (R.go g1) h3 (fun W2 y yd H2 g2 hy h4 => ?_) (kx.go k0 (g.trans k0 g1))
  refine hp W2 H2 v y x yd _ _ g2.ok (rv.mono g2.le) hy h4 fun W3 zv zd H3 g3 hz h5 => ?_
  have g23 := g2.trans g1.ok g3
  obtain ⟨e3, t3⟩ := own_stay g1.ok g23 e2 t2 n1
  obtain ⟨R2, f2, n2, z2⟩ := ((R.go g1).go g23).mutOwn h1 e1 (t3.set j hz)
  refine ⟨a, vs, kk, j, rfl, rfl, e3, by rw [t3.length]; exact hj, ?_⟩
  exact c.nx W3 _ σ _ (g1.trans R.ok g23).le ((g.trans k0 (g1.trans R.ok g23)).mut z f2 n2) R2 h5
theorem ip_I {g : Int → Int → Int} : SimIp (ipI g) (fI (fun _ _ => True) fun i j => .int (g i j)) := fun W H x y dx dy Q q k hx hy h hk => by
  cases hx with
  | int i =>
    cases hy with
    | int j => exact ⟨i, j, rfl, rfl, hk W _ _ H (.refl k) (.int _) h.2⟩
    | _ => exact h.elim
  | _ => exact h.elim
end
def mLc2O (g : MG) (t : MT) (i1 : MI) (g1 : MG) (t1 : MT) (x : ME) (vs vs1 : List Nat) (ρ : Ev) (e : XD) : List D → List D → (List D → Prop) → Prop
  | [], acc, q => q acc
  | d :: ds, acc, q => g d (wipeD ρ vs) fun ρ2 => t ρ2 (fun b => if b = true then i1 ρ2 (fun xs => mLcL g1 t1 x vs1 ρ2 e xs acc (fun acc' => mLc2O g t i1 g1 t1 x vs vs1 ρ e ds acc' q)) e else mLc2O g t i1 g1 t1 x vs vs1 ρ e ds acc q) e
abbrev mLc2N (i : MI) (g : MG) (t : MT) (i1 : MI) (g1 : MG) (t1 : MT) (x : ME) (vs vs1 : List Nat) : MA := fun ρ q e => i ρ (fun xs => mLc2O g t i1 g1 t1 x vs vs1 (plain ρ) e xs [] q) e
abbrev mLc2 (i : MI) (g : MG) (t : MT) (i1 : MI) (g1 : MG) (t1 : MT) (x : ME) (vs vs1 : List Nat) : ME := fun ρ q e => mLc2N i g t i1 g1 t1 x vs vs1 ρ (fun ds => q (.lst ds)) e
/-- the list that grows, seen from (W1, H1) -/
structure Grow (W1 : Wd) (H1 : Hp) (p : Addr) (W : Wd) (H : Hp) (us : List V) (acc : List D) : Prop where
  go : Go W1 H1 W H
  at_ : H p = some (.lst us)
  t : VdA W us acc
  f : W.F p = none
  n : ¬ W.G p
theorem Grow.step {W1 W W' : Wd} {H1 H H' : Hp} {p : Addr} {us : List V} {acc : List D} (k1 : Ok W1 H1) (x : Grow W1 H1 p W H us acc) (g : Go W H W' H') : Grow W1 H1 p W' H' us acc := by
  refine ⟨x.go.trans k1 g, g.p _ _ x.at_ x.n, x.t.mono g.le, ?_, fun z => ?_⟩
  · cases z : W'.F p with
    | none => rfl
    | some o =>
      rcases g.fn p o z with z | z | ⟨u, z, hs⟩
      · rw [x.f] at z; cases z
      · rw [x.at_] at z; cases z
      · rw [x.at_] at z; cases z; exact (still_lst hs).elim
  · rcases g.gn p z with z | z
    · exact x.n z
    · rw [x.at_] at z; cases z
theorem Grow.add {W1 W : Wd} {H1 H : Hp} {p : Addr} {us : List V} {acc : List D} {u : V} {y : D} (hp : H1 p = none) (x : Grow W1 H1 p W H us acc) (h : Vd W u y) : Grow W1 H1 p W (upd H p (.lst (us ++ [u]))) (us ++ [u]) (acc ++ [y]) :=
  ⟨x.go.mut hp x.f x.n, upd_same, x.t.append (.one h), x.f, x.n⟩
section
variable {E : XK} {K : PySem.W.Frag} {is js : List Nat} {g g1 : TG} {mg mg1 : MG} {te : TE} {me : ME} {tt tt1 : TT} {mt mt1 : MT} {ti ti1 : TI} {mi mi1 : MI}
theorem sn_lc2 {vs vs1 : List Nat} (hi : SimI E ti mi) (hg : SimG g mg is) (ht : SimT E tt mt) (hi1 : SimI E ti1 mi1) (hg1 : SimG g1 mg1 js) (ht1 : SimT E tt1 mt1) (hx : SimE E te me) (hs : ∀ i ∈ is, i ∈ vs) (hs1 : ∀ i ∈ js, i ∈ vs1) :
    SimN E (tLc2 ti g tt ti1 g1 tt1 te vs vs1) (mLc2N mi mg mt mi1 mg1 mt1 me vs vs1) := fun W H0 H σ ρ Q q e R h k kx =>
  hi W H0 H σ ρ _ _ e R h (fun W1 J xs H1 g1' hJ h1 Da hD => by
    have nD := g1'.ok.no hD
    refine ⟨fun i m H2 => m = xs.length - i ∧ i ≤ xs.length ∧ ∃ W2 us acc, Grow W1 H1 Da W2 H2 us acc ∧ mLc2O mg mt mi1 mg1 mt1 me vs vs1 (plain ρ) e (xs.drop i) acc q, ⟨xs.length, by simp, Nat.zero_le _, W1, [], [], ⟨.own g1'.ok hD, upd_same, .nil, nD.1, nD.2⟩, h1⟩, ?_⟩
    rintro i m H2 ⟨rfl, hi, W2, us, acc, G2, h2⟩
    by_cases hlt : i < xs.length
    · rw [List.drop_eq_getElem_cons hlt] at h2
      obtain ⟨j1, j2⟩ := (hJ i W2 H2 G2.go.le G2.go.ok).1 xs[i] (List.getElem?_eq_getElem hlt)
      refine .inr ⟨j1, fun H3 => ∃ W3 us acc, Grow W1 H1 Da W3 H3 us acc ∧ mLc2O mg mt mi1 mg1 mt1 me vs vs1 (plain ρ) e (xs.drop (i + 1)) acc q, fun H3 ⟨W3, us3, acc3, z⟩ => ⟨xs.length - (i + 1), by omega, rfl, hlt, W3, us3, acc3, z⟩, fun v H3 y => ?_⟩
      obtain ⟨W3, g3, hv⟩ := j2 v H3 y
      have G3 := G2.step g1'.ok g3
      have R3 : Rep W3 H0 H3 σ (plain ρ) := (R.go (g1'.trans R.ok G3.go)).plain
      refine hg W3 H0 H3 v xs[i] _ _ _ _ (R3.wipe vs) hv h2 fun σ4 ρ4 R4 w4 n4 h4 => ⟨by rw [w4 vs hs, wipe_two (fun _ h => h)], ?_⟩
      have N4 := n4 ((plain_no ρ).wipe vs)
      refine ht W3 H0 H3 σ4 ρ4 _ _ e R4 h4 (fun W5 b H5 g5 h5 => ?_) (kx.go R.ok (g1'.trans R.ok G3.go))
      have G5 := G3.step g1'.ok g5
      cases b with
      | false => exact (⟨W5, us, acc, G5, h5⟩ : ∃ W3 us acc, Grow W1 H1 Da W3 H5 us acc ∧ mLc2O mg mt mi1 mg1 mt1 me vs vs1 (plain ρ) e (xs.drop (i + 1)) acc q)
      | true =>
        refine (hi1 W5 H0 H5 σ4 ρ4 _ _ e (R4.go g5) h5 (fun W6 J1 ys H6 g6 hJ1 h6 => ?_) (kx.go R.ok (g1'.trans R.ok G5.go)) : ti1 σ4 H5 _)
        have G6 := G5.step g1'.ok g6
        have R6 := (R4.go g5).go g6
        refine ⟨fun j m H7 => m = ys.length - j ∧ j ≤ ys.length ∧ ∃ W7 us acc, Le W6 W7 ∧ Grow W1 H1 Da W7 H7 us acc ∧ mLcL mg1 mt1 me vs1 ρ4 e (ys.drop j) acc (fun acc' => mLc2O mg mt mi1 mg1 mt1 me vs vs1 (plain ρ) e (xs.drop (i + 1)) acc' q), ⟨ys.length, by simp, Nat.zero_le _, W6, us, acc, .refl W6, G6, h6⟩, ?_⟩
        rintro j m H7 ⟨rfl, hj, W7, us7, acc7, l7, G7, h7⟩
        by_cases hlt2 : j < ys.length
        · rw [List.drop_eq_getElem_cons hlt2] at h7
          obtain ⟨j3, j4⟩ := (hJ1 j W7 H7 l7 G7.go.ok).1 ys[j] (List.getElem?_eq_getElem hlt2)
          refine .inr ⟨j3, fun H8 => ∃ W8 us acc, Le W6 W8 ∧ Grow W1 H1 Da W8 H8 us acc ∧ mLcL mg1 mt1 me vs1 ρ4 e (ys.drop (j + 1)) acc (fun acc' => mLc2O mg mt mi1 mg1 mt1 me vs vs1 (plain ρ) e (xs.drop (i + 1)) acc' q), fun H8 ⟨W8, us8, acc8, z⟩ => ⟨ys.length - (j + 1), by omega, rfl, hlt2, W8, us8, acc8, z⟩, fun v8 H8 y8 => ?_⟩
          obtain ⟨W8, g8, hv8⟩ := j4 v8 H8 y8
          have G8 := G7.step g1'.ok g8
          have R8 : Rep W8 H0 H8 σ4 ρ4 := R6.free N4 (l7.trans g8.le) g8.ok
          refine hg1 W8 H0 H8 v8 ys[j] _ _ _ _ (R8.wipe vs1) hv8 h7 fun σ9 ρ9 R9 w9 n9 h9 => ⟨by rw [w9 vs1 hs1, wipe_two (fun _ h => h)], ?_⟩
          refine ht1 W8 H0 H8 σ9 ρ9 _ _ e R9 h9 (fun Wa b Ha ga ha => ?_) (kx.go R.ok (g1'.trans R.ok G8.go))
          have Ga := G8.step g1'.ok ga
          cases b with
          | false => exact (⟨Wa, us7, acc7, (l7.trans g8.le).trans ga.le, Ga, ha⟩ : ∃ W8 us acc, Le W6 W8 ∧ Grow W1 H1 Da W8 Ha us acc ∧ mLcL mg1 mt1 me vs1 ρ4 e (ys.drop (j + 1)) acc (fun acc' => mLc2O mg mt mi1 mg1 mt1 me vs vs1 (plain ρ) e (xs.drop (i + 1)) acc' q))
          | true =>
            refine (hx Wa H0 Ha σ9 ρ9 _ _ e (R9.go ga) ha (fun Wb u yd Hb gb hu hb => ?_) (kx.go R.ok (g1'.trans R.ok Ga.go)) : te σ9 Ha _)
            have Gb := Ga.step g1'.ok gb
            exact ⟨us7, Gb.at_, by rw [Gb.t.length]; exact hb.1, Wb, us7 ++ [u], acc7 ++ [yd], ((l7.trans g8.le).trans ga.le).trans gb.le, Gb.add hD hu, hb.2⟩
        · have e1 : j = ys.length := by omega
          subst e1
          rw [List.drop_length] at h7
          exact .inl ⟨(hJ1 ys.length W7 H7 l7 G7.go.ok).2 (Nat.le_refl _), W7, us7, acc7, G7, h7⟩
    · have e1 : i = xs.length := by omega
      subst e1
      rw [List.drop_length] at h2
      exact .inl ⟨(hJ xs.length W2 H2 G2.go.le G2.go.ok).2 (Nat.le_refl _), k W2 H2 Da us acc (g1'.trans R.ok G2.go) (g1'.gone R.ok hD) G2.at_ G2.f G2.n G2.t h2⟩) kx
theorem si_lc2 {vs vs1 : List Nat} (hi : SimI E ti mi) (hg : SimG g mg is) (ht : SimT E tt mt) (hi1 : SimI E ti1 mi1) (hg1 : SimG g1 mg1 js) (ht1 : SimT E tt1 mt1) (hx : SimE E te me) (hs : ∀ i ∈ is, i ∈ vs) (hs1 : ∀ i ∈ js, i ∈ vs1) :
    SimE E (tLc2 ti g tt ti1 g1 tt1 te vs vs1) (mLc2 mi mg mt mi1 mg1 mt1 me vs vs1) := si_new (sn_lc2 hi hg ht hi1 hg1 ht1 hx hs hs1)
end
end Dt
set_option Elab.async false
set_option linter.all false
set_option maxRecDepth 100000
set_option maxHeartbeats 4000000
namespace Dt
open PySem PySem.Spec PyProof.Rows L2 Com Gn StV Sd
variable [Dt.Tb]
section
variable {E : XK} {K : PySem.W.Frag} {te ta tb ti : TE} {me ma mb mi : ME} {aa : TA} {na : MA} {n : Nat}
/-- [*x, y] -/
abbrev mStar2 (a b : ME) : ME := fun ρ q e => a ρ (fun x => ∃ xs, (x = .tup xs ∨ x = .lst xs) ∧ b ρ (fun y => xs.length + 1 ≤ sizeLine ∧ q (.lst (xs ++ [y]))) e) e
theorem si_star2 (ha : SimE E ta ma) (hb : SimE E tb mb) : SimE E (tLst (StX.tStar K ta (tCons tb tNil))) (mStar2 ma mb) := fun W H0 H σ ρ Q q e R h k kx =>
  ha W H0 H σ ρ _ _ e R h (fun W1 x dx H1 g1 hx h1 => by
    obtain ⟨xs, e1, h1⟩ := h1
    have : ∃ p vs, x = .ref p ∧ (SqT K H1 p vs ∨ SqL K H1 p vs) ∧ VdA W1 vs xs := by
      rcases e1 with rfl | rfl
      · obtain ⟨a, vs, e2, f, hh, t⟩ := tup_of g1.ok hx rfl
        exact ⟨a, vs, e2, .inl (SqT.of hh), t⟩
      · obtain ⟨a, vs, e2, f, hh, t⟩ := lst_of g1.ok hx rfl
        exact ⟨a, vs, e2, .inr (SqL.of hh), t⟩
    obtain ⟨p, vs, e2, hs, t⟩ := this
    refine ⟨p, vs, e2, hs, hb W1 H0 H1 σ ρ _ _ e (R.go g1) h1 (fun W2 y dy H2 g2 hy h2 => ⟨?_, fun p hp => ?_⟩) (kx.go R.ok g1)⟩
    · rw [List.length_append, t.length]
      exact h2.1
    · exact k _ _ _ _ ((g1.trans R.ok g2).trans R.ok (.put g2.ok hp)) (.lst (upd_same (H := W2.F)) (((t.mono g2.le).append (.one hy)).mono (Go.put g2.ok hp).le)) h2.2) kx
def iEnumU (K : PySem.W.Frag) (ta : TA) : TI := fun σ H R => ta σ H fun vs H1 => ∃ a xs, vs = [.ref a] ∧ ((SqL K H1 a xs ∧ R (Ite K a) H1) ∨ (SqT K H1 a xs ∧ R (Ext.Iet K a) H1))
theorem pi_enumU {X : Cx} (K : PySem.W.Frag) {e : Expr} {ta : TA} {p pos tpos : Pos} {elts : List Expr} {kk : Nat} (hg : Gl X "enumerate") (hm : X.mg "enumerate" = none) (ha : PA X [e] ta) (hs : starEach [e] X.env = [(false, eval e X.env)] := by rfl) (hK : X.K = K := by rfl) :
    PI X (.Tuple elts kk tpos) (.Call (.Name "enumerate" p) [e] [] pos) (iEnumU K ta) := by
  subst hK
  refine ⟨fun pins s σ H R I h => ?_⟩
  refine Call_ (ld_blt I hg hm boot_enumerate (PyProof.Rows.callWith_type1 (thn (ha.run pos pins s σ H _ I h) fun us s1 ⟨vs, H1, I1, r1, q1⟩ => ?_) hs rfl))
  obtain ⟨a, xs, ex, hq⟩ := q1
  subst ex
  cases r1 with
  | cons r rr =>
    cases rr
    cases r
    have fin : ∀ b, b ∈ [s1.heap.objs.size + 1, s1.heap.objs.size] → s1.heap.objs.size ≤ b := fun b hb => by
      have e' : b = s1.heap.objs.size + 1 ∨ b = s1.heap.objs.size := by simpa using hb
      rcases e' with z | z
      · rw [z]; exact Nat.le_add_right _ _
      · rw [z]; exact Nat.le_refl _
    rcases hq with ⟨hq, q⟩ | ⟨hq, q⟩
    · obtain ⟨its, rv, p', hz⟩ := I1.list hq
      refine call_enumerate_list p'.isList fun h' he hit hsz hk => wpAny_pyIter_enum he ?_
      have I2 : Inv X pins σ H1 { s1 with heap := h' } := I1.kept (t' := s1.toks) hk
      exact ⟨s1.heap.objs.size + 1, [s1.heap.objs.size + 1, s1.heap.objs.size], _, _, H1, rfl, I2, turn_enum a (s1.heap.objs.size + 1) s1.heap.objs.size, ⟨⟨.none, he⟩, hit, Nat.succ_ne_self _⟩, fun b hb => I1.fpOk (fin b hb) (I1.hok.fresh (fin b hb)), q⟩
    · obtain ⟨its, rv, p', hz⟩ := I1.tuple hq
      refine Ext.call_enumerate_tuple (show s1.heap.IsTuple a its.toArray from p') fun h' he hit hsz hk => wpAny_pyIter_enum he ?_
      have I2 : Inv X pins σ H1 { s1 with heap := h' } := I1.kept (t' := s1.toks) hk
      exact ⟨s1.heap.objs.size + 1, [s1.heap.objs.size + 1, s1.heap.objs.size], _, _, H1, rfl, I2, Ext.turn_enumT a (s1.heap.objs.size + 1) s1.heap.objs.size, ⟨⟨.none, he⟩, hit, Nat.succ_ne_self _⟩, fun b hb => I1.fpOk (fin b hb) (I1.hok.fresh (fin b hb)), q⟩
def enumD : Nat → List D → List D
  | _, [] => []
  | i, d :: ds => .tup [.int (i : Int), d] :: enumD (i + 1) ds
theorem enumD_get : ∀ {ds : List D} {i j : Nat}, (enumD i ds)[j]? = (ds[j]?).map fun d => .tup [.int ((i + j : Nat) : Int), d]
  | [], i, j => by simp [enumD]
  | d :: ds, i, 0 => by simp [enumD]
  | d :: ds, i, j + 1 => by
    rw [enumD, List.getElem?_cons_succ, List.getElem?_cons_succ, enumD_get, show i + 1 + j = i + (j + 1) by omega]
theorem enumD_len : ∀ {ds : List D} {i : Nat}, (enumD i ds).length = ds.length
  | [], _ => rfl
  | d :: ds, i => by rw [enumD, List.length_cons, List.length_cons, enumD_len]
abbrev mEnum (a : MA) : MI := fun ρ q e => a ρ (fun ds => ∃ xs, (ds = [.tup xs] ∨ ds = [.lst xs]) ∧ q (enumD 0 xs)) e
theorem si_enum (ha : SimA E n aa na) : SimI E (iEnumU K aa) (mEnum na) := fun W H0 H σ ρ R q e Rp h k kx =>
  ha W H0 H σ ρ _ _ e Rp h (fun W1 vs ds H1 g1 hv _ h1 => by
    obtain ⟨xs, e1, h1⟩ := h1
    have step : ∀ {W1 H1 : _} {x : V} {d : D} (i : Nat) (T : Addr), Ok W1 H1 → Vd W1 x d → H1 T = none → ∃ W2, Go W1 H1 W2 (upd H1 T (.tup [.int (i : Nat), x])) ∧ Vd W2 (.ref T) (.tup [.int (i : Int), d]) := fun {W1 H1 x d} i T k1 hx hT =>
      ⟨_, .put k1 hT, .tup (upd_same (H := W1.F)) (.cons (.int _) (.one (hx.mono (Go.put k1 hT).le)))⟩
    rcases e1 with rfl | rfl
    · obtain ⟨v, rfl, hv1⟩ := one_of hv
      obtain ⟨a, us, rfl, f, hh, t⟩ := tup_of g1.ok hv1 rfl
      refine ⟨a, us, rfl, .inr ⟨SqT.of hh, k W1 _ _ H1 g1 (fun i W2 H2 l k2 => ?_) h1⟩⟩
      have h2 : SqT K H2 a us := SqT.of (k2.f _ _ (l.f _ _ f))
      refine ⟨fun d hd => ?_, fun hl => ⟨us, h2, by rw [t.length]; rw [enumD_len] at hl; exact hl⟩⟩
      rw [enumD_get] at hd
      cases e : xs[i]? with
      | none => rw [e] at hd; cases hd
      | some y =>
        rw [e] at hd
        cases hd
        obtain ⟨x, hx, r⟩ := t.get' e
        refine ⟨⟨us, x, h2, hx⟩, fun v H3 y => ?_⟩
        obtain ⟨T, x', rfl, hT, rfl, y⟩ := y
        have := y us h2
        rw [hx] at this
        cases this
        rw [Nat.zero_add]
        exact step i T k2 (r.mono l) hT
    · obtain ⟨v, rfl, hv1⟩ := one_of hv
      obtain ⟨a, us, rfl, f, hh, t⟩ := lst_of g1.ok hv1 rfl
      refine ⟨a, us, rfl, .inl ⟨SqL.of hh, k W1 _ _ H1 g1 (fun i W2 H2 l k2 => ?_) h1⟩⟩
      have h2 : SqL K H2 a us := SqL.of (k2.f _ _ (l.f _ _ f))
      refine ⟨fun d hd => ?_, fun hl => ⟨us, h2, by rw [t.length]; rw [enumD_len] at hl; exact hl⟩⟩
      rw [enumD_get] at hd
      cases e : xs[i]? with
      | none => rw [e] at hd; cases hd
      | some y =>
        rw [e] at hd
        cases hd
        obtain ⟨x, hx, r⟩ := t.get' e
        refine ⟨⟨us, x, h2, hx⟩, fun v H3 y => ?_⟩
        obtain ⟨T, x', rfl, hT, rfl, y⟩ := y
        have := y us h2
        rw [hx] at this
        cases this
        rw [Nat.zero_add]
        exact step i T k2 (r.mono l) hT) kx
end
def pairD (p : PP) : D := .tup [.int p.1, .int p.2]
def ldD (L : List PP) : D := .tup (L.map pairD)
def stD (S : List (List PP)) : D := .tup (S.map ldD)
def intsD (ns : List Int) : D := .tup (ns.map .int)
def exD (C : Addr) (ds es : List Int) (m : Int) : D := .obj C ["ins", "outs", "middles"] [intsD ds, intsD es, .int m]
section
variable {W : Wd} {H : Hp} {v : V}
theorem vd_pair (k : Ok W H) {p : PP} (h : Vd W v (pairD p)) : PairV H v p := by
  obtain ⟨a, vs, rfl, _, hh, t⟩ := tup_of k h rfl
  exact ⟨a, rfl, by rw [hh, t.of_ints (ns := [p.1, p.2])]; rfl⟩
theorem vd_pairs (k : Ok W H) : ∀ {vs : List V} {L : List PP}, VdA W vs (L.map pairD) → PairsV H vs L
  | _, [], h => by cases h; exact .nil
  | _, p :: L, h => by
    cases h with
    | cons h t => exact .cons (vd_pair k h) (vd_pairs k t)
theorem vd_ints (k : Ok W H) {ns : List Int} (h : Vd W v (intsD ns)) : ∃ a, v = .ref a ∧ Tup H a ns := by
  obtain ⟨a, vs, rfl, _, hh, t⟩ := tup_of k h rfl
  exact ⟨a, rfl, by show H a = _; rw [hh, t.of_ints]⟩
/-- all tuples that stand are of the world -/
def Wd.all (W : Wd) (H : Hp) : Wd := ⟨fun b => match W.F b with
  | some o => some o
  | none => match H b with
    | some (.tup xs) => some (.tup xs)
    | _ => none, W.G, W.T⟩
theorem all_tup {b : Addr} {xs : List V} (k : ∀ b o, W.F b = some o → H b = some o) (h : H b = some (.tup xs)) : (W.all H).F b = some (.tup xs) := by
  show (match W.F b with | some o => some o | none => match H b with | some (.tup xs) => some (.tup xs) | _ => none) = _
  cases e : W.F b with
  | some o =>
    have := k b o e
    rw [h] at this
    exact this.symm
  | none =>
    rw [h]
theorem all_inv {b : Addr} {o : HO} (h : (W.all H).F b = some o) : W.F b = some o ∨ ∃ xs, o = .tup xs ∧ H b = some (.tup xs) := by
  have h : (match W.F b with | some o => some o | none => match H b with | some (.tup xs) => some (.tup xs) | _ => none) = some o := h
  cases e : W.F b with
  | some u =>
    rw [e] at h
    exact .inl h
  | none =>
    rw [e] at h
    refine .inr ?_
    cases e2 : H b with
    | none => rw [e2] at h; cases h
    | some u =>
      rw [e2] at h
      cases u with
      | tup xs => cases h; exact ⟨xs, rfl, rfl⟩
      | _ => cases h
/-- what a call leaves that changes flows alone -/
theorem go_all {H' : Hp} (k : Ok W H) (p : ∀ b o, H b = some o → ¬ W.G b → H' b = some o) (fl : ∀ a, W.G a → MutAt W H' a) : Go W H (W.all H') H' := by
  have kf : ∀ b o, W.F b = some o → H' b = some o := fun b o e => p b o (k.f b o e) (k.fg e)
  refine ⟨⟨fun b o e => ?_, fun _ h => h, rfl⟩, fun _ h => .inl h, fun b o e => ?_, p, ⟨fun b o e => ?_, fun a g => ⟨?_, (fl a g).mono (fun b o e => ?_) rfl fun _ e => e⟩, k.t⟩⟩
  · show (match W.F b with | some o => some o | none => match H' b with | some (.tup xs) => some (.tup xs) | _ => none) = some o
    rw [e]
  · rcases all_inv e with h | ⟨xs, rfl, h⟩
    · exact .inl h
    · refine .inr ?_
      cases q : H b with
      | none => exact .inl rfl
      | some u =>
        by_cases g : W.G b
        · exact ((fl b g).st h (.inl ⟨_, rfl⟩)).elim
        · have := p b u q g
          rw [h] at this
          cases this
          exact .inr ⟨_, rfl, .inl ⟨xs, rfl⟩⟩
  · rcases all_inv e with h | ⟨xs, rfl, h⟩
    · exact kf b o h
    · exact h
  · obtain ⟨o, e2, n⟩ := (fl a g).ex
    show (match W.F a with | some o => some o | none => match H' a with | some (.tup xs) => some (.tup xs) | _ => none) = none
    rw [(k.g a g).1, e2]
    cases o with
    | tup xs => exact (n (.inl ⟨_, rfl⟩)).elim
    | _ => rfl
  · show (match W.F b with | some o => some o | none => match H' b with | some (.tup xs) => some (.tup xs) | _ => none) = some o
    rw [e]
theorem go_same {H' : Hp} (k : Ok W H) (s : Same H H') : Go W H (W.all H') H' := go_all k (fun b o e _ => s b o e) fun a g => (k.g a g).2.mono (fun _ _ e => e) rfl fun u e => s _ _ e
theorem go_old {H' : Hp} {a : Addr} (k : Ok W H) (g : W.G a) (s : Old a H H') (f : MutAt W H' a) : Go W H (W.all H') H' := go_all k (fun b o e n => s b o e fun z => n (z ▸ g)) fun b gb => by
  by_cases z : b = a
  · rw [z]
    exact f
  · exact (k.g b gb).2.mono (fun _ _ e => e) rfl fun u e => s _ _ e z
/-- data of tuples and numbers alone -/
theorem all_pair (k : ∀ b o, W.F b = some o → H b = some o) {p : PP} (h : PairV H v p) : Vd (W.all H) v (pairD p) := by
  obtain ⟨a, rfl, e⟩ := h
  exact .tup (all_tup k e) (.cons (.int _) (.one (.int _)))
theorem all_pairs (k : ∀ b o, W.F b = some o → H b = some o) : ∀ {vs : List V} {L : List PP}, PairsV H vs L → VdA (W.all H) vs (L.map pairD)
  | _, _, .nil => .nil
  | _, _, .cons h t => .cons (all_pair k h) (all_pairs k t)
theorem all_load (k : ∀ b o, W.F b = some o → H b = some o) {L : List PP} (h : LoadV H v L) : Vd (W.all H) v (ldD L) := by
  obtain ⟨a, us, rfl, e, t⟩ := h
  exact .tup (all_tup k e) (all_pairs k t)
theorem all_loads (k : ∀ b o, W.F b = some o → H b = some o) : ∀ {vs : List V} {S : List (List PP)}, LoadsV H vs S → VdA (W.all H) vs (S.map ldD)
  | _, _, .nil => .nil
  | _, _, .cons h t => .cons (all_load k h) (all_loads k t)
theorem all_sta (k : ∀ b o, W.F b = some o → H b = some o) {S : List (List PP)} (h : StaV H v S) : Vd (W.all H) v (stD S) := by
  obtain ⟨a, us, rfl, e, t⟩ := h
  exact .tup (all_tup k e) (all_loads k t)
end
def spFlowD (K : PySem.W.Frag) : SpD := fun ds q _ => ∃ (ns : List Int) (k : Nat), ds = [.scr K ns, .int (k : Int)] ∧ ns.length ≤ 63 ∧ k ≤ 1000 ∧ ∀ a, q (.flow a)
def spPickD : SpD := fun ds q _ => ∃ a size, ds = [.flow a, .int size] ∧ 1 ≤ size ∧ size < 2 ^ 200 ∧ ∀ d, 0 ≤ d → d < size → q (.int d)
theorem pick_d {vs : List V} {H : Hp} {Q : VK} {E : XK} (h : spOf spPickD vs H Q E) : spPick vs H Q E := by
  obtain ⟨W, ds, q, e, k, t, ⟨a, size, rfl, s1, s2, h⟩, kq, _⟩ := h
  obtain ⟨v, u, rfl, hv, hu⟩ := two_of t
  cases hv with
  | flow g nt =>
    cases hu
    refine ⟨a, size, rfl, (k.g a g).2.flow nt, s1, s2, fun d H' d0 d1 f b => ?_⟩
    exact kq _ _ _ H' (go_old k g (But.old b) (.inl ⟨f, nt⟩)) (.int d) (h d d0 d1)
theorem flow_d {K : PySem.W.Frag} {vs : List V} {H : Hp} {Q : VK} {E : XK} (h : spOf (spFlowD K) vs H Q E) : spFlow K vs H Q E := by
  obtain ⟨W, ds, q, e, k, t, ⟨ns, n, rfl, s1, s2, h⟩, kq, _⟩ := h
  obtain ⟨v, u, rfl, hv, hu⟩ := two_of t
  cases hv with
  | scr g =>
    cases hu
    refine ⟨_, ns, n, rfl, g H k.f, s1, s2, fun p H' hp f b => ?_⟩
    have s := But.same b hp
    have np : ∀ q, (p, q) ∉ W.T := fun q z => (k.g _ (k.t.2 _ z)).2.no hp
    refine kq ⟨W.F, fun x => W.G x ∨ x = p, W.T⟩ _ _ H' ⟨⟨fun _ _ e => e, fun _ g => .inl g, rfl⟩, fun x g => g.elim .inl fun z => .inr (z ▸ hp), fun _ _ e => .inl e, fun b o e _ => s b o e, ⟨fun b o e => s b o (k.f b o e), fun x gx => ?_, ⟨k.t.1, fun x hx => .inl (k.t.2 x hx)⟩⟩⟩ (.flow (.inr rfl) np) (h p)
    rcases gx with gx | rfl
    · exact ⟨(k.g x gx).1, (k.g x gx).2.mono (W' := ⟨W.F, fun x => W.G x ∨ x = p, W.T⟩) (fun _ _ e => e) rfl fun u e => s _ _ e⟩
    · exact ⟨(k.no hp).1, .inl ⟨f, np⟩⟩
abbrev mNewEx (C : Addr) (a : MA) : ME := fun ρ q e => a ρ (fun xs => ∃ ds es m, xs = [intsD ds, intsD es, .int m] ∧ Good ds ∧ Good es ∧ 1 ≤ m ∧ m ≤ 7 ∧ q (exD C ds es m)) e
theorem si_newEx {E : XK} {C : Addr} {n : Nat} {aa : TA} {na : MA} (ha : SimA E n aa na) : SimE E (tNew C (spInit C) E aa) (mNewEx C na) := fun W H0 H σ ρ Q q e R h k kx =>
  ha W H0 H σ ρ _ _ e R h (fun W1 vs xs H1 g1 hv _ h1 => by
    obtain ⟨ds, es, m, rfl, gi, go, m1, m2, h1⟩ := h1
    cases hv with
    | cons hi t =>
      obtain ⟨u1, u2, rfl, ho, hm⟩ := two_of t
      cases hm
      have hi' := hi
      have ho' := ho
      obtain ⟨i, vi, rfl, fi, hhi, ti⟩ := tup_of g1.ok hi rfl
      obtain ⟨o, vo, rfl, fo, hho, to⟩ := tup_of g1.ok ho rfl
      refine new_ex (by show H1 i = _; rw [hhi, ti.of_ints]) gi (by show H1 o = _; rw [hho, to.of_ints]) go m1 m2 fun x H' hx ex s => ?_
      obtain ⟨dx, ex⟩ := ex
      have g := Go.putS g1.ok s ex (.inl hx)
      exact k _ _ _ H' (g1.trans R.ok g) (.obj (ks := ["ins", "outs", "middles"]) (vs := [.ref i, .ref o, .int m]) (upd_same (H := W1.F)) rfl ((VdA.cons hi' (.cons ho' (.one (.int m)))).mono g.le)) h1) kx
end Dt
set_option Elab.async false
set_option linter.all false
set_option maxRecDepth 100000
set_option maxHeartbeats 4000000
namespace Dt
open PySem PySem.Spec PyProof.Rows L2 Com Gn StV Sd
open Dt (pairD)
variable [Dt.Tb]
def isiD (n : String) : D → Bool
  | .int _ => n == "int"
  | .bl _ => n == "int" || n == "bool"
  | .str _ => n == "str"
  | .tup _ => n == "tuple"
  | .lst _ => n == "list"
  | .flow _ => n == "list"
  | .dict0 => n == "dict"
  | .dct _ _ _ _ => n == "dict"
  | _ => false
theorem isi_of {K : PySem.W.Frag} {d : D} {n : String} (c : clsOk K d) (hn : n ∈ (["int", "bool", "tuple", "list", "str", "dict"] : List String)) : PySem.W.kitOne K (tyD d) (.type n) = some (isiD n d) := by
  have h : n = "int" ∨ n = "bool" ∨ n = "tuple" ∨ n = "list" ∨ n = "str" ∨ n = "dict" := by simpa using hn
  cases d with
  | obj C ks ds => exact c.kN n hn
  | scr K ns => exact c.elim
  | dct w ks ds => exact c.elim
  | vry v d => exact c.elim
  | _ => rcases h with rfl | rfl | rfl | rfl | rfl | rfl <;> first | exact kit_ty (r := true) (by decide +kernel) | exact kit_ty (r := false) (by decide +kernel)
theorem isi_go {K : PySem.W.Frag} {d : D} {n : String} {q : KD} (c : clsOk K d) (h : q (.bl (isiD n d))) (hn : n ∈ (["int", "bool", "tuple", "list", "str", "dict"] : List String) := by decide) : fIsi K (.type n) d q := ⟨c, _, isi_of c hn, h⟩
mutual
def clsA (K : PySem.W.Frag) : D → Prop
  | .obj C _ _ => ClsT K C
  | .tup ds => clsL K ds
  | .lst ds => clsL K ds
  | .scr _ _ => False
  | .dct _ _ _ _ => False
  | .vry _ _ => False
  | _ => True
def clsL (K : PySem.W.Frag) : List D → Prop
  | [] => True
  | d :: ds => clsA K d ∧ clsL K ds
end
theorem clsA.ok {K : PySem.W.Frag} {d : D} (h : clsA K d) : clsOk K d := by
  cases d <;> first | exact trivial | (rw [clsA] at h; exact h)
theorem clsL.mem {K : PySem.W.Frag} : ∀ {ds : List D}, clsL K ds → ∀ d ∈ ds, clsA K d
  | d :: ds, h, x, hx => by
    rw [clsL] at h
    rcases List.mem_cons.mp hx with rfl | hx
    · exact h.1
    · exact clsL.mem h.2 x hx
theorem clsL.of {K : PySem.W.Frag} : ∀ {ds : List D}, (∀ d ∈ ds, clsA K d) → clsL K ds
  | [], _ => by rw [clsL]; trivial
  | d :: ds, h => by rw [clsL]; exact ⟨h d (List.mem_cons_self ..), clsL.of fun x hx => h x (List.mem_cons_of_mem _ hx)⟩
theorem clsA.tup {K : PySem.W.Frag} {ds : List D} : clsA K (.tup ds) ↔ ∀ d ∈ ds, clsA K d := by
  rw [clsA]
  exact ⟨clsL.mem, clsL.of⟩
theorem clsA.lst {K : PySem.W.Frag} {ds : List D} : clsA K (.lst ds) ↔ ∀ d ∈ ds, clsA K d := by
  rw [clsA]
  exact ⟨clsL.mem, clsL.of⟩
theorem cls_int {K : PySem.W.Frag} {i : Int} : clsA K (.int i) := by simp [clsA]
theorem cls_pair {K : PySem.W.Frag} {p : PP} : clsA K (pairD p) := clsA.tup.mpr fun d h => by
  rcases List.mem_cons.mp h with rfl | h
  · exact cls_int
  · rw [List.mem_singleton.mp h]
    exact cls_int
def plainD : D → Bool
  | .int _ => true
  | _ => false
theorem plain_isi (d : D) : (isiD "int" d && !isiD "bool" d) = plainD d := by cases d <;> rfl
def withinD (lo hi : Int) : D → Bool
  | .int i => decide (lo ≤ i) && decide (i ≤ hi)
  | _ => false
/-- a pair of an exchange of n and m switches -/
def pairOf (n m : Nat) : D → Option PP
  | .tup [.int i, .int o] => if 0 ≤ i ∧ i < n ∧ 0 ≤ o ∧ o < m then some (i, o) else none
  | _ => none
def isPairD (n m : Nat) (d : D) : Bool := (pairOf n m d).isSome
theorem pairOf_some {n m : Nat} {d : D} {p : PP} (h : pairOf n m d = some p) : d = pairD p ∧ InP n m p := by
  unfold pairOf at h
  split at h
  · rename_i i o
    split at h
    · cases h
      exact ⟨rfl, by assumption⟩
    · cases h
  · cases h
theorem pairOf_pair {n m : Nat} {p : PP} (h : InP n m p) : pairOf n m (pairD p) = some p := by
  show (if 0 ≤ p.1 ∧ p.1 < n ∧ 0 ≤ p.2 ∧ p.2 < m then some (p.1, p.2) else none) = some p
  rw [if_pos (show 0 ≤ p.1 ∧ p.1 < n ∧ 0 ≤ p.2 ∧ p.2 < m from h)]
def pairsOf (n m : Nat) : List D → Option (List PP)
  | [] => some []
  | d :: ds => match pairOf n m d with
    | some p => match pairsOf n m ds with
      | some ps => some (p :: ps)
      | none => none
    | none => none
theorem pairsOf_some {n m : Nat} : ∀ {ds : List D} {L : List PP}, pairsOf n m ds = some L → ds = L.map pairD ∧ ∀ p ∈ L, InP n m p
  | [], L, h => by
    rw [pairsOf] at h
    cases h
    exact ⟨rfl, fun _ h => nomatch h⟩
  | d :: ds, L, h => by
    rw [pairsOf] at h
    cases e : pairOf n m d with
    | none => rw [e] at h; cases h
    | some p =>
      cases e2 : pairsOf n m ds with
      | none => rw [e, e2] at h; cases h
      | some ps =>
        rw [e, e2] at h
        cases h
        obtain ⟨rfl, h1⟩ := pairOf_some e
        obtain ⟨rfl, h2⟩ := pairsOf_some e2
        refine ⟨rfl, fun q hq => ?_⟩
        rcases List.mem_cons.mp hq with rfl | hq
        · exact h1
        · exact h2 q hq
theorem pairsOf_map {n m : Nat} : ∀ {L : List PP}, (∀ p ∈ L, InP n m p) → pairsOf n m (L.map pairD) = some L
  | [], _ => rfl
  | p :: L, h => by rw [List.map_cons, pairsOf, pairOf_pair (h p (List.mem_cons_self ..)), pairsOf_map fun q hq => h q (List.mem_cons_of_mem _ hq)]
theorem pairsOf_all {n m : Nat} : ∀ ds : List D, (ds.map (isPairD n m)).all id = (pairsOf n m ds).isSome
  | [] => rfl
  | d :: ds => by
    rw [List.map_cons, List.all_cons, pairsOf_all ds, pairsOf]
    unfold isPairD
    cases e : pairOf n m d with
    | none => rfl
    | some p => cases e2 : pairsOf n m ds <;> rfl
def loadOf (n m : Nat) : D → Option (List PP)
  | .tup ds => match pairsOf n m ds with
    | some L => if decide (L.length ≤ n) && ascB L then some L else none
    | none => none
  | _ => none
def isLoadD (n m : Nat) (d : D) : Bool := (loadOf n m d).isSome
theorem loadOf_some {n m : Nat} {d : D} {L : List PP} (h : loadOf n m d = some L) : d = ldD L ∧ LoadOk n m L := by
  unfold loadOf at h
  split at h
  · rename_i ds
    cases e : pairsOf n m ds with
    | none => rw [e] at h; cases h
    | some M =>
      rw [e] at h
      obtain ⟨rfl, h1⟩ := pairsOf_some e
      by_cases c : (decide (M.length ≤ n) && ascB M) = true
      · rw [show (match some M with | some L => if decide (L.length ≤ n) && ascB L then some L else none | none => none) = if decide (M.length ≤ n) && ascB M then some M else none from rfl, if_pos c] at h
        cases h
        rw [Bool.and_eq_true] at c
        obtain ⟨c1, c2⟩ := c
        unfold ascB at c2
        rw [Bool.and_eq_true] at c2
        exact ⟨rfl, h1, of_decide_eq_true c2.1, of_decide_eq_true c2.2⟩
      · rw [show (match some M with | some L => if decide (L.length ≤ n) && ascB L then some L else none | none => none) = if decide (M.length ≤ n) && ascB M then some M else none from rfl, if_neg c] at h
        cases h
  · cases h
theorem loadOf_ld {n m : Nat} {L : List PP} (h : LoadOk n m L) : loadOf n m (ldD L) = some L := by
  show (match pairsOf n m (L.map pairD) with | some L => if decide (L.length ≤ n) && ascB L then some L else none | none => none) = some L
  rw [pairsOf_map h.rng]
  have e : (decide (L.length ≤ n) && ascB L) = true := by
    unfold ascB
    rw [decide_eq_true h.len, decide_eq_true h.asc, decide_eq_true h.nd]
    rfl
  rw [show (match some L with | some L => if decide (L.length ≤ n) && ascB L then some L else none | none => none) = if decide (L.length ≤ n) && ascB L then some L else none from rfl, if_pos e]
def loadsOf (n m : Nat) : List D → Option (List (List PP))
  | [] => some []
  | d :: ds => match loadOf n m d with
    | some p => match loadsOf n m ds with
      | some ps => some (p :: ps)
      | none => none
    | none => none
theorem loadsOf_some {n m : Nat} : ∀ {ds : List D} {S : List (List PP)}, loadsOf n m ds = some S → ds = S.map ldD ∧ ∀ p ∈ S, LoadOk n m p
  | [], L, h => by
    rw [loadsOf] at h
    cases h
    exact ⟨rfl, fun _ h => nomatch h⟩
  | d :: ds, L, h => by
    rw [loadsOf] at h
    cases e : loadOf n m d with
    | none => rw [e] at h; cases h
    | some p =>
      cases e2 : loadsOf n m ds with
      | none => rw [e, e2] at h; cases h
      | some ps =>
        rw [e, e2] at h
        cases h
        obtain ⟨rfl, h1⟩ := loadOf_some e
        obtain ⟨rfl, h2⟩ := loadsOf_some e2
        refine ⟨rfl, fun q hq => ?_⟩
        rcases List.mem_cons.mp hq with rfl | hq
        · exact h1
        · exact h2 q hq
theorem loadsOf_map {n m : Nat} : ∀ {S : List (List PP)}, (∀ p ∈ S, LoadOk n m p) → loadsOf n m (S.map ldD) = some S
  | [], _ => rfl
  | p :: L, h => by rw [List.map_cons, loadsOf, loadOf_ld (h p (List.mem_cons_self ..)), loadsOf_map fun q hq => h q (List.mem_cons_of_mem _ hq)]
theorem loadsOf_all {n m : Nat} : ∀ ds : List D, (ds.map (isLoadD n m)).all id = (loadsOf n m ds).isSome
  | [] => rfl
  | d :: ds => by
    rw [List.map_cons, List.all_cons, loadsOf_all ds, loadsOf]
    unfold isLoadD
    cases e : loadOf n m d with
    | none => rfl
    | some p => cases e2 : loadsOf n m ds <;> rfl
def staOf (ds es : List Int) (m : Int) : D → Option (List (List PP))
  | .tup xs => if ((xs.length : Nat) : Int) = m then match loadsOf ds.length es.length xs with
    | some S => if doorB ds es S then some S else none
    | none => none
    else none
  | _ => none
def isStaD (ds es : List Int) (m : Int) (d : D) : Bool := (staOf ds es m d).isSome
abbrev mSetI (f : List Int → KD → Prop) (a : ME) : ME := fun ρ q e => a ρ (fun x => ∃ ns : List Int, x = .lst (ns.map .int) ∧ ns.length ≤ 60 ∧ f ns q) e
def fSrtS (ns : List Int) (q : KD) : Prop := ∀ ks : List Int, ks.Pairwise (· < ·) → (∀ k, k ∈ ks ↔ k ∈ ns) → q (.lst (ks.map .int))
def fLenS (ns : List Int) (q : KD) : Prop := ∀ ks : List Int, ks.Nodup → (∀ k, k ∈ ks ↔ k ∈ ns) → q (.int (ks.length : Nat))
section
variable {E : XK} {K : PySem.W.Frag} {w : World} {te : TE} {me : ME}
theorem si_setI {r : List V → Hp → VK → Prop} {f : List Int → KD → Prop} (ha : SimE E te me)
    (h : ∀ W H p n (ns ks : List Int) Q q, Ok W H → H p = some (SetO w p (fun k => decide (k ∈ ns)) n) → ks.Nodup → (∀ k, k ∈ ks ↔ k ∈ ns) → ks.length = n → n ≤ 60 → f ns q → Kv W H Q q → r [.ref p] H Q) : SimE E (tCB r (tCons (tCB (Ext.rSetI K w) (tCons te tNil)) tNil)) (mSetI f me) := fun W H0 H σ ρ Q q e R hm k kx =>
  ha W H0 H σ ρ _ _ e R hm (fun W1 v d H1 g1 hv h1 => by
    obtain ⟨ns, rfl, hl, h1⟩ := h1
    obtain ⟨a, vs, rfl, f, hh, t⟩ := lst_of g1.ok hv rfl
    refine ⟨a, ns, rfl, SqL.of (by rw [hh, t.of_ints]), by omega, fun p n ks nd hk hn hln hp => ?_⟩
    have g := Go.own (o := SetO w p (fun k => decide (k ∈ ns)) n) g1.ok hp
    exact h W1 _ p n ns ks Q q g.ok upd_same nd hk hn (by omega) h1 (k.go R.ok (g1.trans R.ok g))) kx
theorem si_lenSet (ha : SimE E te me) : SimE E (tCB (Ext.rLenSet w) (tCons (tCB (Ext.rSetI K w) (tCons te tNil)) tNil)) (mSetI fLenS me) :=
  si_setI ha fun W H p n ns ks Q q k hp nd hk hn h1 h2 hq => ⟨p, _, n, rfl, hp, by omega, hq W _ _ H (.refl k) (.int _) (by have := h2 ks nd hk; rwa [hn] at this)⟩
theorem si_srtSet (ha : SimE E te me) : SimE E (tCB (rSortedSet w) (tCons (tCB (Ext.rSetI K w) (tCons te tNil)) tNil)) (mSetI fSrtS me) :=
  si_setI ha fun W H p n ns ks Q q k hp nd hk hn h1 h2 hq => ⟨p, _, n, rfl, hp, by omega, fun js r a1 a2 a3 hr => by
    have := h2 js a1 (fun x => by rw [a2 x, decide_eq_true_eq])
    exact hq _ _ _ _ (.put k hr) (.lst (upd_same (H := W.F)) VdA.ints) this⟩
end
section
variable {K : PySem.W.Frag} {q : KD}
theorem eqv_int (a b : Int) : PyData.eqv (.int a) (.int b) = decide (a = b) := by
  rw [PyData.eqv]
  by_cases h : a = b <;> simp [h]
theorem szl {n : Nat} (h : n < 100000) : n < sizeLine := Nat.lt_of_lt_of_le h (by decide)
theorem szle {n : Nat} (h : n ≤ 100000) : n ≤ sizeLine := Nat.le_trans h (by decide)
theorem go_eqI {a b : Int} (h : q (.bl (decide (a = b)))) : fEq false (.int a) (.int b) q := ⟨_, _, rfl, rfl, rfl, rfl, by
  show q (.bl (PyData.eqv (.int a) (.int b)))
  rw [eqv_int]; exact h⟩
theorem go_neI {a b : Int} (h : q (.bl (!decide (a = b)))) : fEq true (.int a) (.int b) q := ⟨_, _, rfl, rfl, rfl, rfl, by
  show q (.bl (!PyData.eqv (.int a) (.int b)))
  rw [eqv_int]; exact h⟩
theorem go_lenT {ds : List D} (h : q (.int (ds.length : Nat))) : fLen K [.tup ds] q := .inl ⟨ds, .inl rfl, h⟩
theorem go_lenL {ds : List D} (h : q (.int (ds.length : Nat))) : fLen K [.lst ds] q := .inl ⟨ds, .inr rfl, h⟩
theorem atI_of {α : Type} {xs : List α} {i : Nat} {x : α} (h : xs[i]? = some x) : atI xs (i : Int) = some x := by
  have hl := (List.getElem?_eq_some_iff.mp h).1
  unfold atI
  rw [show ixN xs.length (i : Int) = some i by unfold ixN; rw [if_pos (by omega), if_pos (by omega)]; simp]
  exact h
theorem go_ixT {ds : List D} {i : Nat} {d : D} (e : ds[i]? = some d) (h : q d) : fIx (.tup ds) (.int (i : Int)) q := ⟨ds, _, d, .inl rfl, rfl, atI_of e, h⟩
theorem go_ixL {ds : List D} {i : Nat} {d : D} (e : ds[i]? = some d) (h : q d) : fIx (.lst ds) (.int (i : Int)) q := ⟨ds, _, d, .inr rfl, rfl, atI_of e, h⟩
theorem ifTT {P Q : Prop} (h : P) : if (true = true) then P else Q := by rw [if_pos rfl]; exact h
theorem ifFF {P Q : Prop} (h : Q) : if (false = true) then P else Q := by rw [if_neg (by decide)]; exact h
end
/-- each item gives its own: [f(x) for x in xs] -/
theorem lcL_map {g : MG} {x : ME} {vs : List Nat} {ρ : Ev} {e : XD} {q : List D → Prop} (f : D → D) : ∀ (xs acc : List D), acc.length + xs.length ≤ 100000 →
    (∀ d ∈ xs, ∀ Q : D → Prop, Q (f d) → g d (wipeD ρ vs) fun ρ2 => x ρ2 Q e) → q (acc ++ xs.map f) → mLcL g mYes x vs ρ e xs acc q
  | [], acc, _, _, h => by
    rw [List.map_nil, List.append_nil] at h
    exact h
  | d :: ds, acc, hl, hs, h => by
    rw [List.length_cons] at hl
    refine hs d (List.mem_cons_self ..) _ ⟨szl (by omega), ?_⟩
    refine lcL_map f ds _ (by rw [List.length_append, List.length_singleton]; omega) (fun d' hd => hs d' (List.mem_cons_of_mem _ hd)) ?_
    rw [List.append_assoc]
    exact h
/-- [f(x) for x in xs if p(x)] -/
theorem lcL_filter {g : MG} {t : MT} {x : ME} {vs : List Nat} {ρ : Ev} {e : XD} {q : List D → Prop} (p : D → Bool) (f : D → D) : ∀ (xs acc : List D), acc.length + xs.length ≤ 100000 →
    (∀ d ∈ xs, ∀ Q : Bool → Ev → Prop, (∀ ρ2, (p d = true → ∀ Q' : D → Prop, Q' (f d) → x ρ2 Q' e) → Q (p d) ρ2) → g d (wipeD ρ vs) fun ρ2 => t ρ2 (fun b => Q b ρ2) e) → q (acc ++ (xs.filter p).map f) → mLcL g t x vs ρ e xs acc q
  | [], acc, _, _, h => by
    rw [List.filter_nil, List.map_nil, List.append_nil] at h
    exact h
  | d :: ds, acc, hl, hs, h => by
    rw [List.length_cons] at hl
    refine hs d (List.mem_cons_self ..) (fun b ρ2 => if b = true then x ρ2 (fun y => acc.length < sizeLine ∧ mLcL g t x vs ρ e ds (acc ++ [y]) q) e else mLcL g t x vs ρ e ds acc q) fun ρ2 hx => ?_
    cases c : p d with
    | true =>
      rw [if_pos rfl]
      refine hx c _ ⟨szl (by omega), ?_⟩
      refine lcL_filter p f ds _ (by rw [List.length_append, List.length_singleton]; omega) (fun d' hd => hs d' (List.mem_cons_of_mem _ hd)) ?_
      rw [List.filter_cons_of_pos c, List.map_cons] at h
      rw [List.append_assoc]
      exact h
    | false =>
      rw [if_neg (by decide)]
      refine lcL_filter p f ds _ (by omega) (fun d' hd => hs d' (List.mem_cons_of_mem _ hd)) ?_
      rw [List.filter_cons_of_neg (by rw [c]; decide)] at h
      exact h
/-- a loop by an invariant over the turn and the slots -/
theorem loop_inv {g : MG} {b : MS} {d : EndsD} {e : XD} (Iv : Nat → Ev → Prop) : ∀ (xs : List D) (i : Nat) (ρ : Ev), Iv i ρ →
    (∀ (j : Nat) (x : D) (ρ : Ev) (N : Ev → Prop), xs[j]? = some x → Iv (i + j) ρ → (∀ ρ', Iv (i + j + 1) ρ' → N ρ') → g x ρ fun ρ' => b { nx := N, rt := d.rt, bk := d.nx, ct := N } ρ' e) →
    (∀ ρ, Iv (i + xs.length) ρ → d.nx ρ) → msLoop g b xs d ρ e
  | [], i, ρ, h0, hs, hd => hd ρ h0
  | x :: xs, i, ρ, h0, hs, hd => hs 0 x ρ _ rfl h0 fun ρ' h1 => loop_inv Iv xs (i + 1) ρ' h1 (fun j x' ρ N e1 e2 e3 => by
      rw [show i + 1 + j = i + (j + 1) by omega] at e2 e3
      exact hs (j + 1) x' ρ N (by simpa using e1) e2 e3) fun ρ h => hd ρ (by rw [List.length_cons, show i + (xs.length + 1) = i + 1 + xs.length by omega]; exact h)
theorem toPyA_ints : ∀ ns : List Int, toPyA (ns.map .int) = some (ns.map .int)
  | [] => rfl
  | n :: ns => by rw [List.map_cons, toPyA, toPy, toPyA_ints ns]; rfl
theorem toPy_lI (ns : List Int) : toPy (.lst (ns.map .int)) = some (lI ns) := by rw [toPy, toPyA_ints]; rfl
theorem go_eqLI {a b : List Int} {q : KD} (h : q (.bl (decide (a = b)))) : fEq false (.lst (a.map .int)) (.lst (b.map .int)) q := ⟨_, _, toPy_lI a, toPy_lI b, shaped_lI a, shaped_lI b, by
  show q (.bl (PyData.eqv (lI a) (lI b)))
  rw [eqv_lI]; exact h⟩
theorem isLoadD_tup {n m : Nat} {xs : List D} : isLoadD n m (.tup xs) = (match pairsOf n m xs with | some L => decide (L.length ≤ n) && ascB L | none => false) := by
  show (match pairsOf n m xs with | some L => if (decide (L.length ≤ n) && ascB L) = true then some L else none | none => none).isSome = _
  cases pairsOf n m xs with
  | none => rfl
  | some L =>
    show (if (decide (L.length ≤ n) && ascB L) = true then some L else none).isSome = (decide (L.length ≤ n) && ascB L)
    cases (decide (L.length ≤ n) && ascB L) <;> rfl
theorem isStaD_tup {ds es : List Int} {m : Int} {xs : List D} : isStaD ds es m (.tup xs) = (decide (((xs.length : Nat) : Int) = m) && (match loadsOf ds.length es.length xs with | some S => doorB ds es S | none => false)) := by
  show (if ((xs.length : Nat) : Int) = m then match loadsOf ds.length es.length xs with | some S => if doorB ds es S = true then some S else none | none => none else none).isSome = _
  by_cases c : ((xs.length : Nat) : Int) = m
  · rw [if_pos c, decide_eq_true c, Bool.true_and]
    cases loadsOf ds.length es.length xs with
    | none => rfl
    | some S =>
      show (if doorB ds es S = true then some S else none).isSome = doorB ds es S
      cases doorB ds es S <;> rfl
  · rw [if_neg c, decide_eq_false c, Bool.false_and]
    rfl
/-- a, b = (a new list), (a new list), both to be changed -/
abbrev msOwn2 (i j : Nat) (a b : MA) : MS := fun d ρ e => a ρ (fun ds => b ρ (fun es => d.nx ((ρ.set i (some (.own ds))).set j (some (.own es)))) e) e
theorem ss_own2 {E : XK} {t1 t2 : TE} {m1 m2 : MA} {i j : Nat} (h1 : SimN E t1 m1) (h2 : SimN E t2 m2) : SimS E (tPar i j (tCons t1 (tCons t2 tNil))) (msOwn2 i j m1 m2) := fun W0 H0 W H σ ρ D d e k0 g R hm c kx =>
  h1 W H0 H σ ρ _ _ e R hm (fun W1 H1 p1 vs1 ds g1 hp1 e1 f1 n1 t1 hm1 => h2 W1 H0 H1 σ ρ _ _ e (R.go g1) hm1 (fun W2 H2 p2 vs2 es g2 hp2 e2 f2 n2 t2 hm2 =>
    ⟨.ref p1, .ref p2, rfl, c.nx W2 H2 _ _ (g1.trans R.ok g2).le (g.trans k0 (g1.trans R.ok g2)) ((R.newOwn g1 hp1 (g.gone k0 hp1) e1 f1 n1 t1).newOwn g2 hp2 (g.gone k0 (g1.gone R.ok hp2)) e2 f2 n2 t2) hm2⟩) (kx.go k0 (g.trans k0 g1))) (kx.go k0 g)
/-- [f(x, y) for x in xs for y in F(x)]: each x gives its own row -/
theorem lc2_flat {g : MG} {i1 : MI} {g1 : MG} {t1 : MT} {x : ME} {vs vs1 : List Nat} {ρ : Ev} {e : XD} {q : List D → Prop} (F : D → List D) : ∀ (xs acc : List D), acc.length + (xs.flatMap F).length ≤ 100000 →
    (∀ d ∈ xs, ∀ (acc : List D) (Q : List D → Prop), acc.length + (F d).length ≤ 100000 → Q (acc ++ F d) → g d (wipeD ρ vs) fun ρ2 => i1 ρ2 (fun ys => mLcL g1 t1 x vs1 ρ2 e ys acc Q) e) → q (acc ++ xs.flatMap F) → mLc2O g mYes i1 g1 t1 x vs vs1 ρ e xs acc q
  | [], acc, _, _, h => by
    rw [List.flatMap_nil, List.append_nil] at h
    exact h
  | d :: ds, acc, hl, hs, h => by
    rw [List.flatMap_cons, List.length_append] at hl
    refine hs d (List.mem_cons_self ..) acc _ (by omega) ?_
    refine lc2_flat F ds _ (by rw [List.length_append]; omega) (fun d' hd => hs d' (List.mem_cons_of_mem _ hd)) ?_
    rw [List.flatMap_cons] at h
    rw [List.append_assoc]
    exact h
theorem go_p0 {p : PP} {q : KD} (h : q (.int p.1)) : fIx (pairD p) (.int 0) q := ⟨_, _, _, .inl rfl, rfl, rfl, h⟩
theorem go_p1 {p : PP} {q : KD} (h : q (.int p.2)) : fIx (pairD p) (.int 1) q := ⟨_, _, _, .inl rfl, rfl, rfl, h⟩
theorem isSta_ok {ds es : List Int} {m : Int} {S : List (List PP)} (h : StdOk ds es m S) : isStaD ds es m (stD S) = true := by
  show isStaD ds es m (.tup (S.map ldD)) = true
  rw [isStaD_tup, loadsOf_map h.ld, List.length_map, decide_eq_true h.len]
  show (true && doorB ds es S) = true
  unfold doorB
  rw [decide_eq_true h.ci, decide_eq_true h.co]
  rfl
/-- ints told apart by a list of ints read at a place -/
theorem go_ixI {ns : List Int} {i : Int} {q : KD} (h0 : 0 ≤ i) (h1 : i < ns.length) (h : q (.int (ns.getD i.toNat 0))) : fIx (.lst (ns.map .int)) (.int i) q := by
  obtain ⟨n, rfl⟩ := Int.eq_ofNat_of_zero_le h0
  have e : ns[n]? = some (ns.getD n 0) := by
    rw [List.getD_eq_getElem?_getD, List.getElem?_eq_getElem (by omega)]
    rfl
  exact go_ixL (by rw [List.getElem?_map, e]; rfl) h
theorem go_eqEmpL {ds : List D} {ps : List PyData} {q : KD} (e : toPyA ds = some ps) (s : SeqAt.shaped (.list ps) = true) (h : q (.bl (decide (ds = [])))) : fEq false (.lst ds) (.lst []) q := ⟨.list ps, .list [], by rw [toPy, e], rfl, s, rfl, by
  show q (.bl (PyData.eqv (.list ps) (.list [])))
  have : PyData.eqv (.list ps) (.list []) = decide (ds = []) := by
    cases ds with
    | nil =>
      rw [toPyA] at e
      cases e
      rfl
    | cons d ds =>
      rw [toPyA] at e
      cases e1 : toPy d with
      | none => rw [e1] at e; cases e
      | some p =>
        cases e2 : toPyA ds with
        | none => rw [e1, e2] at e; cases e
        | some ps' =>
          rw [e1, e2] at e
          cases e
          rw [PyData.eqv, PyData.eqvAll]
          simp
  rw [this]
  exact h⟩
theorem go_eqEmpI {ns : List Int} {q : KD} (h : q (.bl (decide (ns = [])))) : fEq false (.lst (ns.map .int)) (.lst []) q := go_eqEmpL (toPyA_ints ns) (shaped_lI ns) (by
  rw [show decide (ns.map D.int = []) = decide (ns = []) from decide_eq_decide.mpr List.map_eq_nil_iff]; exact h)
theorem op_repeat {X : Cx} : OpR X (binaryOp .Mult) rRep := op_rep
def fRepL (x y : D) (q : KD) : Prop := match x, y with
  | .lst ds, .int k => -(2 ^ 63) ≤ k ∧ k < 2 ^ 63 ∧ ds.length * k.toNat ≤ sizeLine ∧ q (.lst (List.replicate k.toNat ds).flatten)
  | _, _ => False
theorem sr_repL : SimR rRep fRepL := fun W H x y dx dy Q q k hx hy h hk => by
  cases hx with
  | lst a t =>
    cases hy with
    | int i =>
      obtain ⟨h1, h2, h3, h⟩ := h
      exact ⟨_, i, _, rfl, rfl, k.f _ _ a, h1, h2, by rw [t.length]; exact h3, fun p hp => hk _ _ _ _ (.put k hp) (.lst (upd_same (H := W.F)) ((t.rep _).mono (Go.put k hp).le)) h⟩
    | _ => exact h.elim
  | _ => exact h.elim
theorem cut_take {xs : List D} {a : Int} (h : 0 ≤ a) : cutD xs none (some a) = xs.take a.toNat := by
  unfold cutD
  rw [HT.sIx_none, List.drop_zero, Nat.sub_zero]
  show xs.take (if a < 0 then (a + (xs.length : Int)).toNat else min a.toNat xs.length) = _
  rw [if_neg (by omega)]
  by_cases c : a.toNat ≤ xs.length
  · rw [Nat.min_eq_left c]
  · rw [Nat.min_eq_right (by omega), List.take_length, List.take_of_length_le (by omega)]
end Dt
set_option Elab.async false
set_option linter.all false
set_option maxRecDepth 100000
set_option maxHeartbeats 4000000
namespace Dt
open PySem PySem.Spec PyProof.Rows L2 Com Gn StV Sd
open Dt (pairD)
variable [Dt.Tb]
/-- a list of pairs sorted -/
def fSrtP (xs : List D) (q : KD) : Prop := ∃ L : List PP, xs = [.lst (L.map pairD)] ∧ q (.lst ((srt L).map pairD))
theorem sc_srtP {K : PySem.W.Frag} : SimC (rSrtP K) fSrtP := fun W H xs ds Q q k hx h hk => by
  obtain ⟨L, rfl, h⟩ := h
  obtain ⟨v, rfl, hv⟩ := one_of hx
  obtain ⟨a, vs, rfl, f, hh, t⟩ := lst_of k hv rfl
  refine ⟨a, vs, L, rfl, SqL.of hh, vd_pairs k t, fun us p hus hp => ?_⟩
  have k0 := go_same k (Same.refl H)
  have g1 : Go W H ((W.all H).put p (.lst us)) (upd H p (.lst us)) := k0.trans k (.put k0.ok hp)
  exact hk _ _ _ _ g1 (.lst (upd_same (H := (W.all H).F)) ((all_pairs k.f hus).mono (Go.put k0.ok hp).le)) h
/-- a comprehension by steps, the rest unknown -/
theorem lcL_step {g : MG} {t : MT} {x : ME} {vs : List Nat} {ρ : Ev} {e : XD} (Iv : Nat → List D → Prop) {q : List D → Prop} : ∀ (xs : List D) (i : Nat) (acc : List D), Iv i acc →
    (∀ (j : Nat) (d : D) (acc : List D) (N : List D → Prop), xs[j]? = some d → Iv (i + j) acc → (∀ acc', Iv (i + j + 1) acc' → N acc') → g d (wipeD ρ vs) fun ρ2 => t ρ2 (fun b => if b = true then x ρ2 (fun y => acc.length < sizeLine ∧ N (acc ++ [y])) e else N acc) e) →
    (∀ acc, Iv (i + xs.length) acc → q acc) → mLcL g t x vs ρ e xs acc q
  | [], i, acc, h0, hs, hd => hd acc h0
  | d :: ds, i, acc, h0, hs, hd => hs 0 d acc (fun a => mLcL g t x vs ρ e ds a q) rfl h0 fun acc' h1 => lcL_step Iv ds (i + 1) acc' h1 (fun j d' acc2 N e1 e2 e3 => by
      rw [show i + 1 + j = i + (j + 1) by omega] at e2 e3
      exact hs (j + 1) d' acc2 N (by simpa using e1) e2 e3) fun acc2 e1 => hd acc2 (by rw [List.length_cons, show i + (ds.length + 1) = i + 1 + ds.length by omega]; exact e1)
theorem cut_drop {xs : List D} {a : Int} (h : 0 ≤ a) (h2 : a ≤ xs.length) : cutD xs (some a) none = xs.drop a.toNat := by
  obtain ⟨n, rfl⟩ := Int.eq_ofNat_of_zero_le h
  unfold cutD
  have e1 : HT.sIx xs.length 0 (some ((n : Nat) : Int)) = n := by
    show (if ((n : Nat) : Int) < 0 then (((n : Nat) : Int) + (xs.length : Int)).toNat else min ((n : Nat) : Int).toNat xs.length) = n
    rw [if_neg (by omega)]
    omega
  have e2 : HT.sIx xs.length xs.length none = xs.length := rfl
  rw [e1, e2, Int.toNat_natCast]
  exact List.take_of_length_le (by rw [List.length_drop]; omega)
end Dt
set_option Elab.async false
set_option linter.all false
set_option maxRecDepth 100000
set_option maxHeartbeats 4000000
namespace Com
open PySem PySem.Spec PyProof.Rows L2
end Com
set_option Elab.async false
set_option linter.all false
set_option maxRecDepth 100000
set_option maxHeartbeats 4000000
namespace Dt
open PySem PySem.Spec PyProof.Rows L2 Com Gn StV Sd
open Dt (pairD)
variable [Dt.Tb]
section
variable {E : XK} {K : PySem.W.Frag} {te tl : TE} {me ml : ME} {aa : TA} {na : MA} {n : Nat}
theorem VdA.reverse {W : Wd} : ∀ {vs : List V} {ds : List D}, VdA W vs ds → VdA W vs.reverse ds.reverse
  | _, _, .nil => .nil
  | _, _, .cons h t => by
    rw [List.reverse_cons, List.reverse_cons]
    exact (VdA.reverse t).append (.one h)
abbrev mD0 : ME := fun _ q _ => q .dict0
theorem si_dict0 : SimE E tDNewK mD0 := fun W H0 H σ ρ Q q e R h k kx p hp => k _ _ _ _ (.put R.ok hp) (.dict0 (upd_same (H := W.F))) h
def spSh1 (C2 : Addr) : Sp := fun vs H Q _ => ∃ (p dx : Addr) (i : Int), vs = [.ref p, .int i] ∧ H p = some (.ins C2 dx []) ∧ ∀ H' dx' n d, H' p = some (.ins C2 dx' [("top", .int n), ("bottom", .int d)]) → Old p H H' → Q .non H'
abbrev mNewSh (C : Addr) (a : MA) : ME := fun ρ q e => a ρ (fun xs => ∃ i, xs = [.int i] ∧ ∀ n d, q (.obj C ["top", "bottom"] [.int n, .int d])) e
theorem si_newSh {C : Addr} (ha : SimA E n aa na) : SimE E (tNew C (spSh1 C) E aa) (mNewSh C na) := fun W H0 H σ ρ Q q e R h k kx =>
  ha W H0 H σ ρ _ _ e R h (fun W1 vs xs H1 g1 hv _ h1 => by
    obtain ⟨i, rfl, h1⟩ := h1
    obtain rfl := hv.of_ints (ns := [i])
    intro x dx hx hdx hne
    refine ⟨x, dx, i, rfl, upd_same, fun H' dx' n d ex old => ?_⟩
    have s : Same H1 H' := Same.made hx hdx old
    have g := Go.putS g1.ok s ex (.inl hx)
    exact ⟨rfl, k _ _ _ H' (g1.trans R.ok g) (.obj (ks := ["top", "bottom"]) (vs := [.int n, .int d]) (upd_same (H := W1.F)) rfl (.cons (.int n) (.one (.int d)))) (h1 n d)⟩) kx
end
def sdLoads : SpD := fun xs q _ => ∃ a ds es m many, xs = [.flow a, intsD ds, intsD es, .int m, .int many] ∧ Good ds ∧ Good es ∧ 1 ≤ m ∧ m ≤ 7 ∧ 0 ≤ many ∧ many ≤ 1000 ∧ ∀ S, StdOk ds es m S → q (stD S)
theorem loads_d {vs : List V} {H : Hp} {Q : VK} {E : XK} (h : spOf sdLoads vs H Q E) : spLoads vs H Q E := by
  obtain ⟨W, dd, q, e, k, t, ⟨a, ds, es, m, many, rfl, gi, go, m1, m2, n1, n2, h⟩, kq, _⟩ := h
  cases t with
  | cons h1 t =>
    cases t with
    | cons h2 t =>
      cases t with
      | cons h3 t =>
        obtain ⟨u1, u2, rfl, h4, h5⟩ := two_of t
        cases h4
        cases h5
        obtain ⟨i, rfl, hi⟩ := vd_ints k h2
        obtain ⟨o, rfl, ho⟩ := vd_ints k h3
        cases h1 with
        | flow g nt =>
          refine ⟨a, i, o, ds, es, m, many, rfl, (k.g a g).2.flow nt, hi, gi, ho, go, m1, m2, n1, n2, fun v S H' hS hOk f old => ?_⟩
          have g1 := go_old k g old (.inl ⟨f, nt⟩)
          exact kq _ _ _ H' g1 (all_sta (fun b o e => g1.ok.f b o (g1.le.f b o e)) hS) (h S hOk)
end Dt
set_option Elab.async false
set_option linter.all false
set_option maxRecDepth 100000
set_option maxHeartbeats 4000000
namespace Dt
open PySem PySem.Spec PyProof.Rows L2 Com Gn
variable [Dt.Tb]
section
variable {P : Program} {w : World} {K : PySem.W.Frag} {mg : Str → Option Value} {base : Heap} {x qual : Str} {C : Addr} {st : Stmt} {ps N : List Str} {k : Nat} {sp : SpD}
theorem DefAtX.ok (D : DefAt K mg x st ps) (S : FnScope N ps (defScope st)) (len : ∀ ds q e, sp ds q e → ds.length = ps.length)
    (hbody : ∀ (f : Addr) (cdv : Value) (A : Around) (outer : List Env) (s : Shared) (H : Hp) (E : XK), Room k (A.deeper (envOfC x (defScope st) s.heap.objs.size f cdv)) →
      ∃ t m, PSs (cxOf (L2.CX P w) P w K mg base N x (defScope st) f cdv A outer s H E) (defBody st) t ∧ SimS E t m ∧ ∀ ds q e, sp ds q e → m (endD q) (startD N ds) e) : DefOk P w K mg base (L2.CX P w) (k + 1) x (spOf sp) := by
  refine D.okX S (fun vs H Q E h => ?_) (fun f cdv A outer s H vs Q E hr h => ?_)
  · obtain ⟨W, ds, q, e, k0, t, h, _⟩ := h
    rw [t.length, len ds q e h]
  obtain ⟨W, ds, q, e, k0, t, h, kq, kx⟩ := h
  obtain ⟨t', m, p, sm, hm⟩ := hbody f cdv A outer s H E hr
  exact ⟨t', p, sm W H W H _ _ _ (endD q) e k0 (.refl k0) (rep_start k0 t) (hm ds q e h) (ct_end (E := E) (e := e) kq _ rfl rfl) kx⟩
theorem MethAtX.ok (D : MethAt K C x qual st ps) (S : FnScope N ps (defScope st)) (len : ∀ ds q e, sp ds q e → ds.length = ps.length)
    (hbody : ∀ (f : Addr) (cdv : Value) (A : Around) (outer : List Env) (s : Shared) (H : Hp) (E : XK), Room k (A.deeper (envOfC qual (defScope st) s.heap.objs.size f cdv)) →
      ∃ t m, PSs (cxOf (L2.CX P w) P w K mg base N qual (defScope st) f cdv A outer s H E) (defBody st) t ∧ SimS E t m ∧ ∀ ds q e, sp ds q e → m (endD q) (startD N ds) e) : MethOk P w K mg base (L2.CX P w) (k + 1) C x (spOf sp) := by
  refine D.fnX S (fun vs H Q E h => ?_) (fun f cdv A outer s H vs Q E hr h => ?_)
  · obtain ⟨W, ds, q, e, k0, t, h, _⟩ := h
    rw [t.length, len ds q e h]
  obtain ⟨W, ds, q, e, k0, t, h, kq, kx⟩ := h
  obtain ⟨t', m, p, sm, hm⟩ := hbody f cdv A outer s H E hr
  exact ⟨t', p, sm W H W H _ _ _ (endD q) e k0 (.refl k0) (rep_start k0 t) (hm ds q e h) (ct_end (E := E) (e := e) kq _ rfl rfl) kx⟩
end
section
variable {te : WX → TE} {me : ME} {aa : TA} {na : MA} {n : Nat} {sp : SpD} {K : PySem.W.Frag}
/-- a clause: its class, the field read, the tag -/
structure ClD where
  C : Addr
  f : Str
  tag : Option Str
def ClD.val (c : ClD) (v : D) : D := match c.tag with
  | some t => .tup [.str t, v]
  | none => v
def ClD.cl (i x : Nat) (c : ClD) : Cl := match c.tag with
  | some t => ⟨.ref c.C, i, fun a cls d => tAsg (tTup (tCons (tC (.str t)) (tCons (tXf a cls d c.C c.f (tVar i)) tNil))) (gName x)⟩
  | none => ⟨.ref c.C, i, fun a cls d => tAsg (tXf a cls d c.C c.f (tVar i)) (gName x)⟩
end
end Dt
set_option Elab.async false
set_option linter.all false
set_option maxRecDepth 100000
set_option maxHeartbeats 4000000
namespace Dt
open PySem PySem.Spec PyProof.Rows L2 Com Gn StV Sd
open Dt (pairD)
end Dt
set_option Elab.async false
set_option linter.all false
set_option maxRecDepth 100000
set_option maxHeartbeats 4000000
namespace Et
open PySem PySem.Spec PyProof.Rows L2 Com Dt Nd
variable [Dt.Tb]
/-- a value: data that stand, or something of one's own that may change -/
inductive U where
  | d (x : D)
  | lst (us : List U)
  | obj (C : Addr) (ks : List Str) (us : List U)
  | dct (w : World) (nk : Bool) (ks : List NestedKey) (us : List U)
abbrev Ev := List (Option U)
mutual
inductive RU (W : Wd) (H : Hp) : V → U → List Addr → Prop
  | d {v : V} {x : D} : Vd W v x → RU W H v (.d x) []
  | lst {a : Addr} {vs : List V} {us : List U} {fp : List Addr} : H a = some (.lst vs) → RUs W H vs us fp → W.F a = none → ¬ W.G a → RU W H (.ref a) (.lst us) (a :: fp)
  | obj {a C dx : Addr} {ks : List Str} {vs : List V} {us : List U} {fp : List Addr} : H a = some (.ins C dx (ks.zip vs)) → ks.length = vs.length → RUs W H vs us fp → W.F a = none → ¬ W.G a → RU W H (.ref a) (.obj C ks us) (a :: fp)
  | dctN {a : Addr} {w : World} {xs : List NX} {ks : List NestedKey} {us : List U} {fp : List Addr} : H a = some (DN w a xs) → xs.map (·.1) = ks → VdA W (xs.map fun x => .ref x.2.1) (dOfA ks) → RUs W H (xs.map (·.2.2)) us fp → W.F a = none → ¬ W.G a → RU W H (.ref a) (.dct w true ks us) (a :: fp)
  | dctK {a : Addr} {w : World} {xs : List (Key × V)} {ks : List NestedKey} {us : List U} {fp : List Addr} : H a = some (.dK xs) → xs.map (fun x => nkK x.1) = ks → RUs W H (xs.map (·.2)) us fp → W.F a = none → ¬ W.G a → RU W H (.ref a) (.dct w false ks us) (a :: fp)
inductive RUs (W : Wd) (H : Hp) : List V → List U → List Addr → Prop
  | nil : RUs W H [] [] []
  | cons {v : V} {vs : List V} {u : U} {us : List U} {fp fq : List Addr} : RU W H v u fp → RUs W H vs us fq → RUs W H (v :: vs) (u :: us) (fp ++ fq)
end
/-- at a stands something that may change -/
def Nod (W : Wd) (H : Hp) (a : Addr) : Prop := (∃ o, H a = some o ∧ ¬ Dt.Still a o) ∧ W.F a = none ∧ ¬ W.G a
mutual
theorem RU.nod {W : Wd} {H : Hp} : ∀ {v : V} {u : U} {fp : List Addr}, RU W H v u fp → ∀ a ∈ fp, Nod W H a
  | _, _, _, .d _, a, h => nomatch h
  | _, _, _, .lst h t f g, a, m => by
    rcases List.mem_cons.mp m with rfl | m
    · exact ⟨⟨_, h, Dt.still_lst⟩, f, g⟩
    · exact RUs.nod t a m
  | _, _, _, .obj h _ t f g, a, m => by
    rcases List.mem_cons.mp m with rfl | m
    · exact ⟨⟨_, h, Dt.still_ins⟩, f, g⟩
    · exact RUs.nod t a m
  | _, _, _, .dctN h _ _ t f g, a, m => by
    rcases List.mem_cons.mp m with rfl | m
    · exact ⟨⟨_, h, Dt.still_dn⟩, f, g⟩
    · exact RUs.nod t a m
  | _, _, _, .dctK h _ t f g, a, m => by
    rcases List.mem_cons.mp m with rfl | m
    · exact ⟨⟨_, h, Dt.still_dK⟩, f, g⟩
    · exact RUs.nod t a m
theorem RUs.nod {W : Wd} {H : Hp} : ∀ {vs : List V} {us : List U} {fp : List Addr}, RUs W H vs us fp → ∀ a ∈ fp, Nod W H a
  | _, _, _, .nil, a, h => nomatch h
  | _, _, _, .cons h t, a, m => (List.mem_append.mp m).elim (RU.nod h a) (RUs.nod t a)
end
/-- what a tree leans on stays -/
def Keep (W : Wd) (H : Hp) (W' : Wd) (H' : Hp) (fp : List Addr) : Prop := Le W W' ∧ ∀ a ∈ fp, (∀ o, H a = some o → H' a = some o) ∧ W'.F a = none ∧ ¬ W'.G a
theorem Keep.l {W W' : Wd} {H H' : Hp} {fp fq : List Addr} (k : Keep W H W' H' (fp ++ fq)) : Keep W H W' H' fp := ⟨k.1, fun a h => k.2 a (List.mem_append_left _ h)⟩
theorem Keep.r {W W' : Wd} {H H' : Hp} {fp fq : List Addr} (k : Keep W H W' H' (fp ++ fq)) : Keep W H W' H' fq := ⟨k.1, fun a h => k.2 a (List.mem_append_right _ h)⟩
theorem Keep.t {W W' : Wd} {H H' : Hp} {a : Addr} {fp : List Addr} (k : Keep W H W' H' (a :: fp)) : Keep W H W' H' fp := ⟨k.1, fun b h => k.2 b (List.mem_cons_of_mem _ h)⟩
mutual
theorem RU.stay {W W' : Wd} {H H' : Hp} : ∀ {v : V} {u : U} {fp : List Addr}, RU W H v u fp → Keep W H W' H' fp → RU W' H' v u fp
  | _, _, _, .d h, k => .d (h.mono k.1)
  | _, _, _, .lst h t f g, k => have z := k.2 _ (List.mem_cons_self ..); .lst (z.1 _ h) (RUs.stay t k.t) z.2.1 z.2.2
  | _, _, _, .obj h e t f g, k => have z := k.2 _ (List.mem_cons_self ..); .obj (z.1 _ h) e (RUs.stay t k.t) z.2.1 z.2.2
  | _, _, _, .dctN h e d t f g, k => have z := k.2 _ (List.mem_cons_self ..); .dctN (z.1 _ h) e (d.mono k.1) (RUs.stay t k.t) z.2.1 z.2.2
  | _, _, _, .dctK h e t f g, k => have z := k.2 _ (List.mem_cons_self ..); .dctK (z.1 _ h) e (RUs.stay t k.t) z.2.1 z.2.2
theorem RUs.stay {W W' : Wd} {H H' : Hp} : ∀ {vs : List V} {us : List U} {fp : List Addr}, RUs W H vs us fp → Keep W H W' H' fp → RUs W' H' vs us fp
  | _, _, _, .nil, _ => .nil
  | _, _, _, .cons h t, k => .cons (RU.stay h k.l) (RUs.stay t k.r)
end
section
variable {W : Wd} {H : Hp}
theorem RUs.len : ∀ {vs : List V} {us : List U} {fp : List Addr}, RUs W H vs us fp → vs.length = us.length
  | _, _, _, .nil => rfl
  | _, _, _, .cons _ t => by rw [List.length_cons, List.length_cons, RUs.len t]
theorem RUs.one {v : V} {u : U} {fp : List Addr} (h : RU W H v u fp) : RUs W H [v] [u] fp := by
  have := RUs.cons h (RUs.nil (W := W) (H := H))
  rwa [List.append_nil] at this
theorem RUs.ofVdA : ∀ {vs : List V} {ds : List D}, VdA W vs ds → RUs W H vs (ds.map .d) []
  | _, _, .nil => .nil
  | _, _, .cons h t => .cons (fp := []) (.d h) (RUs.ofVdA t)
/-- one of them, and what replaces it -/
theorem RUs.at : ∀ {vs : List V} {us : List U} {fp : List Addr} {n : Nat} {u : U}, RUs W H vs us fp → us[n]? = some u → ∃ v f1 f2 f3, vs[n]? = some v ∧ RU W H v u f2 ∧ fp = f1 ++ f2 ++ f3 ∧
    ∀ {W' : Wd} {H' : Hp} {v' : V} {u' : U} {g : List Addr}, Keep W H W' H' (f1 ++ f3) → RU W' H' v' u' g → RUs W' H' (vs.set n v') (us.set n u') (f1 ++ g ++ f3)
  | _, _, _, 0, _, .cons (fq := fq) h t, e => by
    rw [List.getElem?_cons_zero] at e
    cases e
    exact ⟨_, [], _, fq, rfl, h, rfl, fun k r => .cons r (t.stay k)⟩
  | _, _, _, n + 1, _, .cons (fp := f0) h t, e => by
    rw [List.getElem?_cons_succ] at e
    obtain ⟨v, f1, f2, f3, a, b, c, r⟩ := RUs.at t e
    refine ⟨v, f0 ++ f1, f2, f3, by rw [List.getElem?_cons_succ]; exact a, b, by rw [c]; simp only [List.append_assoc], fun k q => ?_⟩
    rw [List.append_assoc] at k
    have := r k.r q
    rw [List.set_cons_succ, List.set_cons_succ, show ∀ g : List Addr, f0 ++ f1 ++ g ++ f3 = f0 ++ (f1 ++ g ++ f3) from fun g => by simp only [List.append_assoc]]
    exact .cons (h.stay k.l) this
theorem RUs.d_of {vs : List V} : ∀ {ds : List D} {fp : List Addr}, RUs W H vs (ds.map .d) fp → VdA W vs ds ∧ fp = [] := fun {ds} => by
  induction ds generalizing vs with
  | nil => intro fp h; cases h; exact ⟨.nil, rfl⟩
  | cons d ds ih =>
    intro fp h
    cases h with
    | cons h t =>
      cases h with
      | d h =>
        obtain ⟨a, rfl⟩ := ih t
        exact ⟨.cons h a, rfl⟩
end
structure GoB (B : Addr → Prop) (W : Wd) (H : Hp) (W' : Wd) (H' : Hp) : Prop where
  le : Le W W'
  gn : ∀ a, W'.G a → W.G a ∨ H a = none
  fn : ∀ a o, W'.F a = some o → W.F a = some o ∨ H a = none ∨ (∃ u, H a = some u ∧ Dt.Still a u) ∨ B a
  p : ∀ b o, H b = some o → ¬ W.G b → ¬ B b → H' b = some o
  st : ∀ b, H' b = none → H b = none
  ok : Ok W' H'
section
variable {B B1 : Addr → Prop} {W W1 W2 : Wd} {H H1 H2 : Hp}
theorem GoB.refl (k : Ok W H) : GoB B W H W H := ⟨.refl W, fun _ h => .inl h, fun _ _ h => .inl h, fun _ _ h _ _ => h, fun _ h => h, k⟩
theorem GoB.trans (g : GoB B W H W1 H1) (g2 : GoB B1 W1 H1 W2 H2) (hb : ∀ a, B1 a → B a ∨ H a = none) : GoB B W H W2 H2 where
  le := g.le.trans g2.le
  gn := fun a h => (g2.gn a h).elim (g.gn a) fun e => .inr (g.st a e)
  fn := fun a o h => by
    rcases g2.fn a o h with h | h | ⟨u2, h, hs⟩ | h
    · exact g.fn a o h
    · exact .inr (.inl (g.st a h))
    · cases e : H a with
      | none => exact .inr (.inl rfl)
      | some u =>
        by_cases hg : W.G a
        · exact ((g.ok.g a (g.le.g a hg)).2.st h hs).elim
        · by_cases hB : B a
          · exact .inr (.inr (.inr hB))
          · have := g.p a u e hg hB
            rw [h] at this
            cases this
            exact .inr (.inr (.inl ⟨_, rfl, hs⟩))
    · rcases hb a h with h | h
      · exact .inr (.inr (.inr h))
      · exact .inr (.inl h)
  p := fun b o e n nb => by
    have n1 : ¬ W1.G b := fun h => by
      rcases g.gn b h with h | h
      · exact n h
      · rw [e] at h; cases h
    have n2 : ¬ B1 b := fun h => by
      rcases hb b h with h | h
      · exact nb h
      · rw [e] at h; cases h
    exact g2.p b o (g.p b o e n nb) n1 n2
  st := fun b h => g.st b (g2.st b h)
  ok := g2.ok
theorem GoB.of (k : Ok W H) (g : Go W H W1 H1) : GoB B W H W1 H1 := ⟨g.le, g.gn, fun a o h => (g.fn a o h).imp id fun z => z.imp id .inl, fun b o e n _ => g.p b o e n, fun b h => g.gone k h, g.ok⟩
theorem GoB.mono (g : GoB B W H W1 H1) (hb : ∀ a, B a → B1 a) : GoB B1 W H W1 H1 := ⟨g.le, g.gn, fun a o h => (g.fn a o h).imp id fun z => z.imp id fun z => z.imp id (hb a), fun b o e n nb => g.p b o e n fun h => nb (hb b h), g.st, g.ok⟩
/-- a tree apart from what changes stays -/
theorem GoB.keep (g : GoB B W H W1 H1) {fp : List Addr} (n : ∀ a ∈ fp, Nod W H a) (hb : ∀ a ∈ fp, ¬ B a) : Keep W H W1 H1 fp := ⟨g.le, fun a m => by
  obtain ⟨⟨o, e, ht⟩, f, ng⟩ := n a m
  refine ⟨fun u q => g.p a u q ng (hb a m), ?_, fun h => ?_⟩
  · cases q : W1.F a with
    | none => rfl
    | some u =>
      rcases g.fn a u q with h | h | ⟨u2, h, hs⟩ | h
      · rw [f] at h; cases h
      · rw [e] at h; cases h
      · rw [e] at h; cases h; exact absurd hs ht
      · exact absurd h (hb a m)
  · rcases g.gn a h with h | h
    · exact ng h
    · rw [e] at h; cases h⟩
end
structure Rep (W : Wd) (Z : Addr → Prop) (H : Hp) (σ : L2.St) (ρ : Ev) : Prop where
  ok : Ok W H
  len : σ.length = ρ.length
  ex : ∃ fp : Nat → List Addr, (∀ i u, ρ[i]? = some (some u) → ∃ v, σ[i]? = some (some v) ∧ RU W H v u (fp i)) ∧ (∀ i, (fp i).Nodup ∧ (∀ a ∈ fp i, Z a) ∧ ∀ a ∈ fp i, Nod W H a) ∧ ∀ i j a, i ≠ j → a ∈ fp i → a ∈ fp j → False
structure In0 where
  W : Wd
  H : Hp
  B : Addr → Prop
  s0 : L2.St
  ws : List Nat
def In0.Z (i : In0) : Addr → Prop := fun a => i.B a ∨ i.H a = none
structure At (i : In0) (W : Wd) (H : Hp) (σ : L2.St) (ρ : Ev) : Prop where
  k0 : Ok i.W i.H
  go : GoB i.B i.W i.H W H
  rep : Rep W i.Z H σ ρ
  un : ∀ k : Nat, k ∉ i.ws → σ[k]? = i.s0[k]?
section
variable {i : In0} {W W1 : Wd} {H H1 : Hp} {σ : L2.St} {ρ : Ev} {Z : Addr → Prop} {v : V} {d : D} {u : U} {j : Nat}
theorem Rep.go (R : Rep W Z H σ ρ) {B : Addr → Prop} (g : GoB B W H W1 H1) (hb : ∀ a, B a → H a = none) : Rep W1 Z H1 σ ρ := by
  obtain ⟨fp, h1, h2, h3⟩ := R.ex
  have kp : ∀ i, Keep W H W1 H1 (fp i) := fun i => g.keep (h2 i).2.2 fun a m b => by
    obtain ⟨⟨o, e, _⟩, _⟩ := (h2 i).2.2 a m
    rw [hb a b] at e
    cases e
  refine ⟨g.ok, R.len, fp, fun i u e => ?_, fun i => ⟨(h2 i).1, (h2 i).2.1, fun a m => ?_⟩, h3⟩
  · obtain ⟨v, e1, r⟩ := h1 i u e
    exact ⟨v, e1, r.stay (kp i)⟩
  · obtain ⟨⟨o, e, ht⟩, _, _⟩ := (h2 i).2.2 a m
    have z := (kp i).2 a m
    exact ⟨⟨o, z.1 o e, ht⟩, z.2.1, z.2.2⟩
theorem Rep.pure (R : Rep W Z H σ ρ) (g : Go W H W1 H1) : Rep W1 Z H1 σ ρ := R.go (B := fun _ => False) (.of R.ok g) fun _ h => h.elim
theorem At.pure (A : At i W H σ ρ) (g : Go W H W1 H1) : At i W1 H1 σ ρ := ⟨A.k0, A.go.trans (B1 := fun _ => False) (.of A.rep.ok g) fun _ h => h.elim, A.rep.pure g, A.un⟩
theorem Rep.var (R : Rep W Z H σ ρ) (h : ρ[j]? = some (some (.d d))) : ∃ v, σ[j]? = some (some v) ∧ Vd W v d := by
  obtain ⟨fp, h1, _⟩ := R.ex
  obtain ⟨v, e, r⟩ := h1 j _ h
  generalize hf : fp j = f at r
  cases r with
  | d r => exact ⟨v, e, r⟩
theorem Rep.set (R : Rep W Z H σ ρ) (h : Vd W v d) : Rep W Z H (σ.set j (some v)) (ρ.set j (some (.d d))) := by
  obtain ⟨fp, h1, h2, h3⟩ := R.ex
  refine ⟨R.ok, by rw [List.length_set, List.length_set, R.len], fun k => if k = j then [] else fp k, fun k u e => ?_, fun k => ?_, fun k l a n m1 m2 => ?_⟩
  · rcases getset e with ⟨rfl, e1, l⟩ | ⟨n, e⟩
    · cases e1
      exact ⟨v, List.getElem?_set_self (by rw [R.len]; exact l), by dsimp only; rw [if_pos rfl]; exact .d h⟩
    · obtain ⟨w, e1, r⟩ := h1 k u e
      exact ⟨w, by rw [List.getElem?_set_ne (fun z => n z.symm)]; exact e1, by dsimp only; rw [if_neg n]; exact r⟩
  · dsimp only
    by_cases c : k = j
    · rw [if_pos c]; exact ⟨.nil, (fun _ h => nomatch h), fun _ h => nomatch h⟩
    · rw [if_neg c]; exact h2 k
  · dsimp only at m1 m2
    by_cases c : k = j
    · rw [if_pos c] at m1; cases m1
    · by_cases c2 : l = j
      · rw [if_pos c2] at m2; cases m2
      · rw [if_neg c] at m1; rw [if_neg c2] at m2; exact h3 k l a n m1 m2
theorem Rep.wipe1 (R : Rep W Z H σ ρ) : Rep W Z H (σ.set j none) (ρ.set j none) := by
  obtain ⟨fp, h1, h2, h3⟩ := R.ex
  refine ⟨R.ok, by rw [List.length_set, List.length_set, R.len], fp, fun k u e => ?_, h2, h3⟩
  rcases getset e with ⟨_, e1, _⟩ | ⟨n, e⟩
  · cases e1
  · obtain ⟨w, e1, r⟩ := h1 k u e
    exact ⟨w, by rw [List.getElem?_set_ne (fun z => n z.symm)]; exact e1, r⟩
def wipeU (ρ : Ev) : List Nat → Ev
  | [] => ρ
  | v :: vs => (wipeU ρ vs).set v none
theorem Rep.wipe (R : Rep W Z H σ ρ) : ∀ vs : List Nat, Rep W Z H (L2.wipe σ vs) (wipeU ρ vs)
  | [] => R
  | v :: vs => by
    unfold L2.wipe wipeU
    exact (Rep.wipe R vs).wipe1
theorem un_set {i : In0} {σ : L2.St} {j : Nat} {o : Option V} (h : ∀ k : Nat, k ∉ i.ws → σ[k]? = i.s0[k]?) (hj : j ∈ i.ws) : ∀ k : Nat, k ∉ i.ws → (σ.set j o)[k]? = i.s0[k]? := fun k hk => by
  rw [List.getElem?_set_ne (fun z : j = k => hk (by rw [← z]; exact hj))]
  exact h k hk
theorem At.set (A : At i W H σ ρ) (hj : j ∈ i.ws) (h : Vd W v d) : At i W H (σ.set j (some v)) (ρ.set j (some (.d d))) := ⟨A.k0, A.go, A.rep.set h, un_set A.un hj⟩
/-- something new of one's own -/
structure New (i : In0) (W : Wd) (H : Hp) (σ : L2.St) (ρ : Ev) (v : V) (u : U) : Prop where
  k0 : Ok i.W i.H
  go : GoB i.B i.W i.H W H
  rep : Rep W i.Z H (σ ++ [some v]) (ρ ++ [some u])
  un : ∀ k : Nat, k ∉ i.ws → σ[k]? = i.s0[k]?
theorem Rep.fst {vs : List (Option V)} {us : Ev} (R : Rep W Z H (σ ++ vs) (ρ ++ us)) (hl : σ.length = ρ.length) : Rep W Z H σ ρ := by
  obtain ⟨fp, h1, h2, h3⟩ := R.ex
  refine ⟨R.ok, hl, fp, fun k u e => ?_, h2, h3⟩
  have kl := (List.getElem?_eq_some_iff.mp e).1
  obtain ⟨w, e1, r⟩ := h1 k u (by rw [List.getElem?_append_left kl]; exact e)
  rw [List.getElem?_append_left (by rw [hl]; exact kl)] at e1
  exact ⟨w, e1, r⟩
theorem New.hl (N : New i W H σ ρ v u) : σ.length = ρ.length := by
  have := N.rep.len
  simpa using this
theorem New.at (N : New i W H σ ρ v u) : At i W H σ ρ := ⟨N.k0, N.go, N.rep.fst N.hl, N.un⟩
theorem New.tree (N : New i W H σ ρ v u) : ∃ fp : Nat → List Addr, ∃ f0, RU W H v u f0 ∧ f0.Nodup ∧ (∀ a ∈ f0, i.Z a) ∧ (∀ i u, ρ[i]? = some (some u) → ∃ v, σ[i]? = some (some v) ∧ RU W H v u (fp i)) ∧ (∀ j, (fp j).Nodup ∧ (∀ a ∈ fp j, i.Z a) ∧ ∀ a ∈ fp j, Nod W H a) ∧ (∀ i j a, i ≠ j → a ∈ fp i → a ∈ fp j → False) ∧ ∀ j a, a ∈ f0 → a ∈ fp j → False := by
  obtain ⟨fp, h1, h2, h3⟩ := N.rep.ex
  have hl := N.hl
  obtain ⟨w, e1, r⟩ := h1 ρ.length u (by rw [List.getElem?_append_right (Nat.le_refl _), Nat.sub_self]; rfl)
  rw [← hl, List.getElem?_append_right (Nat.le_refl _), Nat.sub_self] at e1
  cases e1
  refine ⟨fun k => if k = ρ.length then [] else fp k, fp ρ.length, r, (h2 _).1, (h2 _).2.1, fun k u e => ?_, fun k => ?_, fun k l a n m1 m2 => ?_, fun k a m0 m1 => ?_⟩
  · have kl := (List.getElem?_eq_some_iff.mp e).1
    obtain ⟨w, e1, r⟩ := h1 k u (by rw [List.getElem?_append_left kl]; exact e)
    rw [List.getElem?_append_left (by rw [hl]; exact kl)] at e1
    exact ⟨w, e1, by dsimp only; rw [if_neg (by omega)]; exact r⟩
  · dsimp only
    by_cases c : k = ρ.length
    · rw [if_pos c]; exact ⟨.nil, (fun _ h => nomatch h), fun _ h => nomatch h⟩
    · rw [if_neg c]; exact h2 k
  · dsimp only at m1 m2
    by_cases c : k = ρ.length
    · rw [if_pos c] at m1; cases m1
    · by_cases c2 : l = ρ.length
      · rw [if_pos c2] at m2; cases m2
      · rw [if_neg c] at m1; rw [if_neg c2] at m2; exact h3 k l a n m1 m2
  · dsimp only at m1
    by_cases c : k = ρ.length
    · rw [if_pos c] at m1; cases m1
    · rw [if_neg c] at m1; exact h3 _ k a (fun z => c z.symm) m0 m1
/-- it is kept in a slot -/
theorem New.set (N : New i W H σ ρ v u) (hj : j ∈ i.ws) : At i W H (σ.set j (some v)) (ρ.set j (some u)) := by
  obtain ⟨fp, f0, r, nd, hz, h1, h2, h3, h4⟩ := N.tree
  have A := N.at
  refine ⟨A.k0, A.go, ⟨A.rep.ok, by rw [List.length_set, List.length_set, A.rep.len], ?_⟩, un_set A.un hj⟩
  refine ⟨fun k => if k = j then f0 else fp k, fun k u e => ?_, fun k => ?_, fun k l a n m1 m2 => ?_⟩
  · rcases getset e with ⟨rfl, e1, l⟩ | ⟨n, e⟩
    · cases e1
      exact ⟨v, List.getElem?_set_self (by rw [A.rep.len]; exact l), by dsimp only; rw [if_pos rfl]; exact r⟩
    · obtain ⟨w, e1, r⟩ := h1 k u e
      exact ⟨w, by rw [List.getElem?_set_ne (fun z => n z.symm)]; exact e1, by dsimp only; rw [if_neg n]; exact r⟩
  · dsimp only
    by_cases c : k = j
    · rw [if_pos c]; exact ⟨nd, hz, r.nod⟩
    · rw [if_neg c]; exact h2 k
  · dsimp only at m1 m2
    by_cases c : k = j
    · by_cases c2 : l = j
      · exact n (c.trans c2.symm)
      · rw [if_pos c] at m1; rw [if_neg c2] at m2; exact h4 l a m1 m2
    · by_cases c2 : l = j
      · rw [if_neg c] at m1; rw [if_pos c2] at m2; exact h4 k a m2 m1
      · rw [if_neg c] at m1; rw [if_neg c2] at m2; exact h3 k l a n m1 m2
end
def U.kids : U → List U
  | .d _ => []
  | .lst us => us
  | .obj _ _ us => us
  | .dct _ _ _ us => us
def U.withKids : U → List U → U
  | .d x, _ => .d x
  | .lst _, us => .lst us
  | .obj C ks _, us => .obj C ks us
  | .dct w n ks _, us => .dct w n ks us
def U.at : U → List Nat → Option U
  | u, [] => some u
  | u, n :: p => match u.kids[n]? with
    | some t => t.at p
    | none => none
def U.put : U → List Nat → U → U
  | _, [], t => t
  | u, n :: p, t => match u.kids[n]? with
    | some s => u.withKids (u.kids.set n (s.put p t))
    | none => u
/-- what stands at a path of a slot -/
def Foc (i : In0) (W : Wd) (H : Hp) (σ : L2.St) (ρ : Ev) (s : Nat) (p : List Nat) (t : U) (v : V) : Prop :=
  ∃ (fp : Nat → List Addr) (u : U) (v0 : V) (f1 f2 f3 : List Addr), ρ[s]? = some (some u) ∧ σ[s]? = some (some v0) ∧ u.at p = some t ∧ fp s = f1 ++ f2 ++ f3 ∧ RU W H v t f2 ∧
    (∀ i u, ρ[i]? = some (some u) → ∃ v, σ[i]? = some (some v) ∧ RU W H v u (fp i)) ∧ (∀ j, (fp j).Nodup ∧ (∀ a ∈ fp j, i.Z a) ∧ ∀ a ∈ fp j, Nod W H a) ∧ (∀ i j a, i ≠ j → a ∈ fp i → a ∈ fp j → False) ∧
    ∀ {W' : Wd} {H' : Hp} {t' : U} {g : List Addr}, Keep W H W' H' (f1 ++ f3) → RU W' H' v t' g → RU W' H' v0 (u.put p t') (f1 ++ g ++ f3)
section
variable {i : In0} {W W1 : Wd} {H H1 : Hp} {σ : L2.St} {ρ : Ev} {s n : Nat} {p : List Nat} {t t1 : U} {v : V}
theorem At.foc {u : U} (A : At i W H σ ρ) (h : ρ[s]? = some (some u)) : ∃ v, σ[s]? = some (some v) ∧ Foc i W H σ ρ s [] u v := by
  obtain ⟨fp, h1, h2, h3⟩ := A.rep.ex
  obtain ⟨v, e, r⟩ := h1 s u h
  exact ⟨v, e, fp, u, v, [], fp s, [], h, e, rfl, by simp, r, h1, h2, h3, fun _ r => by rw [List.nil_append, List.append_nil]; exact r⟩
/-- other things happen -/
theorem Foc.pure (k0 : Ok W H) (f : Foc i W H σ ρ s p t v) (g : Go W H W1 H1) : Foc i W1 H1 σ ρ s p t v := by
  obtain ⟨fp, u, v0, f1, f2, f3, h1, h2, h3, h4, r, q1, q2, q3, back⟩ := f
  have gb : GoB (fun _ => False) W H W1 H1 := .of k0 g
  have kp : ∀ i, Keep W H W1 H1 (fp i) := fun i => gb.keep (q2 i).2.2 fun _ _ h => h
  have ks := kp s
  rw [h4] at ks
  refine ⟨fp, u, v0, f1, f2, f3, h1, h2, h3, h4, r.stay ks.l.r, fun k u e => ?_, fun k => ⟨(q2 k).1, (q2 k).2.1, fun a m => ?_⟩, q3, fun {W' H' t' g'} k r' => back ⟨gb.le.trans k.1, fun a m => ?_⟩ r'⟩
  · obtain ⟨v, e1, r⟩ := q1 k u e
    exact ⟨v, e1, r.stay (kp k)⟩
  · obtain ⟨⟨o, e, ht⟩, _, _⟩ := (q2 k).2.2 a m
    have z := (kp k).2 a m
    exact ⟨⟨o, z.1 o e, ht⟩, z.2.1, z.2.2⟩
  · have z := k.2 a m
    have y := ks.2 a (by simp at m ⊢; rcases m with m | m <;> simp [m])
    exact ⟨fun o e => z.1 o (y.1 o e), z.2⟩
/-- it changes: the node's own object alone, perhaps with new things below -/
theorem Foc.mutR (hlen : σ.length = ρ.length) (f : Foc i W H σ ρ s p t v) : ∃ f2, RU W H v t f2 ∧ (∀ a ∈ f2, i.Z a) ∧ f2.Nodup ∧
    ∀ {X : Addr → Prop} {t' : U} {W' : Wd} {H' : Hp} {g : List Addr}, (∀ a, X a → ¬ i.Z a) → RU W' H' v t' g → g.Nodup → (∀ a ∈ g, a ∈ f2 ∨ H a = none ∨ X a) → (∀ a ∈ g, i.Z a ∨ X a) → GoB (fun a => a ∈ f2) W H W' H' →
    Rep W' (fun a => i.Z a ∨ X a) H' σ (match ρ[s]? with | some (some u) => ρ.set s (some (u.put p t')) | _ => ρ) := by
  obtain ⟨fp, u, v0, f1, f2, f3, h1, h2, h3, h4, r, q1, q2, q3, back⟩ := f
  rw [h1]
  have nd := (q2 s).1
  have hz := (q2 s).2.1
  rw [h4] at nd hz
  have nd2 : f2.Nodup := (List.nodup_append.mp (List.nodup_append.mp nd).1).2.1
  refine ⟨f2, r, fun a m => hz a (by simp [m]), nd2, fun {X t' W' H' g} hX r' ng gs gz go => ?_⟩
  have dis : ∀ a, a ∈ f2 → a ∈ f1 ++ f3 → False := fun a m m' => by
    rw [List.nodup_append] at nd
    rcases List.mem_append.mp m' with m' | m'
    · have := (List.nodup_append.mp nd.1).2.2 a m' a m
      exact this rfl
    · exact nd.2.2 a (by simp [m]) a m' rfl
  have k13 : Keep W H W' H' (f1 ++ f3) := go.keep (fun a m => (q2 s).2.2 a (by rw [h4]; simp at m ⊢; rcases m with m | m <;> simp [m])) fun a m m' => dis a m' m
  have kp : ∀ k, k ≠ s → Keep W H W' H' (fp k) := fun k n => go.keep (q2 k).2.2 fun a m m' => q3 k s a n m (by rw [h4]; simp [m'])
  have rn := back k13 r'
  have gnot : ∀ a, a ∈ g → ∀ k, k ≠ s → a ∈ fp k → False := fun a m k n m' => by
    rcases gs a m with m | m | m
    · exact q3 k s a n m' (by rw [h4]; simp [m])
    · obtain ⟨⟨o, e, _⟩, _⟩ := (q2 k).2.2 a m'
      rw [m] at e; cases e
    · exact hX a m ((q2 k).2.1 a m')
  have gnot2 : ∀ a, a ∈ g → a ∈ f1 ++ f3 → False := fun a m m' => by
    rcases gs a m with m | m | m
    · exact dis a m m'
    · obtain ⟨⟨o, e, _⟩, _⟩ := (q2 s).2.2 a (by rw [h4]; simp at m' ⊢; rcases m' with m' | m' <;> simp [m'])
      rw [m] at e; cases e
    · exact hX a m (hz a (by simp at m' ⊢; rcases m' with m' | m' <;> simp [m']))
  refine ⟨go.ok, by rw [List.length_set]; exact hlen, ?_⟩
  refine ⟨fun k => if k = s then f1 ++ g ++ f3 else fp k, fun k u' e => ?_, fun k => ?_, fun k l a n m1 m2 => ?_⟩
  · rcases getset e with ⟨rfl, e1, l⟩ | ⟨n, e⟩
    · cases e1
      exact ⟨v0, h2, by dsimp only; rw [if_pos rfl]; exact rn⟩
    · obtain ⟨w, e1, r⟩ := q1 k u' e
      exact ⟨w, e1, by dsimp only; rw [if_neg n]; exact r.stay (kp k n)⟩
  · dsimp only
    by_cases c : k = s
    · rw [if_pos c]
      refine ⟨?_, fun a m => ?_, rn.nod⟩
      · rw [List.nodup_append] at nd ⊢
        obtain ⟨n1, n3, n13⟩ := nd
        rw [List.nodup_append] at n1 ⊢
        refine ⟨⟨n1.1, ng, fun a m b m' z => gnot2 b m' (by subst z; simp [m])⟩, n3, fun a m b m' z => ?_⟩
        subst z
        rcases List.mem_append.mp m with m | m
        · exact n13 a (by simp [m]) a m' rfl
        · exact gnot2 a m (by simp [m'])
      · simp at m
        rcases m with m | m | m
        · exact .inl (hz a (by simp [m]))
        · exact gz a m
        · exact .inl (hz a (by simp [m]))
    · rw [if_neg c]
      refine ⟨(q2 k).1, fun a m => .inl ((q2 k).2.1 a m), fun a m => ?_⟩
      obtain ⟨⟨o, e, ht⟩, _, _⟩ := (q2 k).2.2 a m
      have z := (kp k c).2 a m
      exact ⟨⟨o, z.1 o e, ht⟩, z.2.1, z.2.2⟩
  · dsimp only at m1 m2
    by_cases c : k = s
    · rw [if_pos c] at m1
      have c2 : l ≠ s := fun z => n (c.trans z.symm)
      rw [if_neg c2] at m2
      simp at m1
      rcases m1 with m1 | m1 | m1
      · exact q3 l s a c2 m2 (by rw [h4]; simp [m1])
      · exact gnot a m1 l c2 m2
      · exact q3 l s a c2 m2 (by rw [h4]; simp [m1])
    · rw [if_neg c] at m1
      by_cases c2 : l = s
      · rw [if_pos c2] at m2
        simp at m2
        rcases m2 with m2 | m2 | m2
        · exact q3 k s a c m1 (by rw [h4]; simp [m2])
        · exact gnot a m2 k c m1
        · exact q3 k s a c m1 (by rw [h4]; simp [m2])
      · rw [if_neg c2] at m2
        exact q3 k l a n m1 m2
theorem Foc.mut (A : At i W H σ ρ) (f : Foc i W H σ ρ s p t v) : ∃ f2, RU W H v t f2 ∧ (∀ a ∈ f2, i.Z a) ∧ f2.Nodup ∧
    ∀ {t' : U} {W' : Wd} {H' : Hp} {g : List Addr}, RU W' H' v t' g → g.Nodup → (∀ a ∈ g, a ∈ f2 ∨ H a = none) → (∀ a ∈ g, i.Z a) → GoB (fun a => a ∈ f2) W H W' H' →
    At i W' H' σ (match ρ[s]? with | some (some u) => ρ.set s (some (u.put p t')) | _ => ρ) := by
  obtain ⟨f2, r, hz, nd, back⟩ := f.mutR A.rep.len
  refine ⟨f2, r, hz, nd, fun {t' W' H' g} r' ng gs gz go => ⟨A.k0, A.go.trans go fun a m => hz a m, ?_, A.un⟩⟩
  have R := back (X := fun _ => False) (fun _ h => h.elim) r' ng (fun a m => (gs a m).imp id .inl) (fun a m => .inl (gz a m)) go
  obtain ⟨fp, h1, h2, h3⟩ := R.ex
  exact ⟨R.ok, R.len, fp, h1, fun k => ⟨(h2 k).1, fun a m => ((h2 k).2.1 a m).elim id fun z => z.elim, (h2 k).2.2⟩, h3⟩
/-- a new thing of one's own beside the slots: none of its nodes stood at the start of this step -/
theorem New.of (A : At i W H σ ρ) {W' : Wd} {H' : Hp} {v : V} {u : U} {f0 : List Addr} (g : GoB (fun _ => False) W H W' H') (r : RU W' H' v u f0) (nd : f0.Nodup) (nw : ∀ a ∈ f0, H a = none) : New i W' H' σ ρ v u := by
  have hl := A.rep.len
  have R := A.rep.go g fun _ h => h.elim
  obtain ⟨fp, h1, h2, h3⟩ := A.rep.ex
  have kp : ∀ i, Keep W H W' H' (fp i) := fun i => g.keep (h2 i).2.2 fun _ _ h => h
  have dis : ∀ k a, a ∈ f0 → a ∈ fp k → False := fun k a m m' => by
    obtain ⟨⟨o, e, _⟩, _⟩ := (h2 k).2.2 a m'
    rw [nw a m] at e; cases e
  refine ⟨A.k0, A.go.trans g fun _ h => h.elim, ⟨g.ok, by simp [hl], fun k => if k < ρ.length then fp k else if k = ρ.length then f0 else [], fun k u' e => ?_, fun k => ?_, fun k l a n m1 m2 => ?_⟩, A.un⟩
  · by_cases c : k < ρ.length
    · rw [List.getElem?_append_left c] at e
      obtain ⟨w, e1, r⟩ := h1 k u' e
      exact ⟨w, by rw [List.getElem?_append_left (by rw [hl]; exact c)]; exact e1, by dsimp only; rw [if_pos c]; exact r.stay (kp k)⟩
    · rw [List.getElem?_append_right (by omega)] at e
      have k0 : k - ρ.length = 0 := by
        have := (List.getElem?_eq_some_iff.mp e).1
        simp at this
        omega
      rw [k0] at e
      cases e
      exact ⟨v, by rw [List.getElem?_append_right (by omega), hl, k0]; rfl, by dsimp only; rw [if_neg c, if_pos (by omega)]; exact r⟩
  · dsimp only
    by_cases c : k < ρ.length
    · rw [if_pos c]
      refine ⟨(h2 k).1, (h2 k).2.1, fun a m => ?_⟩
      obtain ⟨⟨o, e, ht⟩, _, _⟩ := (h2 k).2.2 a m
      have z := (kp k).2 a m
      exact ⟨⟨o, z.1 o e, ht⟩, z.2.1, z.2.2⟩
    · rw [if_neg c]
      by_cases c2 : k = ρ.length
      · rw [if_pos c2]
        exact ⟨nd, fun a m => .inr (A.go.st a (nw a m)), r.nod⟩
      · rw [if_neg c2]; exact ⟨.nil, (fun _ h => nomatch h), fun _ h => nomatch h⟩
  · dsimp only at m1 m2
    by_cases c : k < ρ.length
    · rw [if_pos c] at m1
      by_cases c2 : l < ρ.length
      · rw [if_pos c2] at m2; exact h3 k l a n m1 m2
      · rw [if_neg c2] at m2
        by_cases c3 : l = ρ.length
        · rw [if_pos c3] at m2; exact dis k a m2 m1
        · rw [if_neg c3] at m2; cases m2
    · rw [if_neg c] at m1
      by_cases c4 : k = ρ.length
      · rw [if_pos c4] at m1
        by_cases c2 : l < ρ.length
        · rw [if_pos c2] at m2; exact dis l a m1 m2
        · rw [if_neg c2] at m2
          by_cases c3 : l = ρ.length
          · exact n (c4.trans c3.symm)
          · rw [if_neg c3] at m2; cases m2
      · rw [if_neg c4] at m1; cases m1
end
end Et
set_option Elab.async false
set_option linter.all false
set_option maxRecDepth 100000
set_option maxHeartbeats 4000000
namespace Et
open PySem PySem.Spec PyProof.Rows L2 Com Nd
open Dt (D Wd Vd VdA Le Ok Go Kv Ka Kb Kx KD XD SpD spOf SimR SimU SimC SimSl SimE SimT SimA SimO SimI SimN En)
variable [Dt.Tb]
abbrev KU := U → Prop
abbrev CE := Ev → KU → XD → Prop
abbrev CT := Ev → Prop → Prop → XD → Prop
abbrev CA := Ev → (List D → Prop) → XD → Prop
def br (c : Bool) (A B : Prop) : Prop := match c with | true => A | false => B
def Ku (W : Wd) (H : Hp) (Q : VK) (q : KU) : Prop := ∀ W' v u fp H', Go W H W' H' → RU W' H' v u fp → q u → Q v H'
theorem Ku.go {W W1 : Wd} {H H1 : Hp} {Q : VK} {q : KU} (k : Ok W H) (h : Ku W H Q q) (g : Go W H W1 H1) : Ku W1 H1 Q q := fun W' v d fp H' g1 => h W' v d fp H' (g.trans k g1)
theorem Ku.d {W : Wd} {H : Hp} {Q : VK} {q : KU} (h : Ku W H Q q) : Kv W H Q (fun d => q (.d d)) := fun W' v d H' g hv hq => h W' v _ _ H' g (.d hv) hq
theorem RU.pure {W W1 : Wd} {H H1 : Hp} {v : V} {u : U} {fp : List Addr} (k : Ok W H) (r : RU W H v u fp) (g : Go W H W1 H1) : RU W1 H1 v u fp := r.stay ((GoB.of (B := fun _ => False) k g).keep r.nod fun _ _ h => h)
def SE (E : XK) (te : TE) (m : CE) : Prop := ∀ W Z H σ ρ Q q e, Rep W Z H σ ρ → m ρ q e → Ku W H Q q → Kx W H E e → te σ H Q
def ST (E : XK) (tt : TT) (m : CT) : Prop := ∀ W Z H σ ρ (Q : Bool → Hp → Prop) A B e, Rep W Z H σ ρ → m ρ A B e → (∀ W' H', Go W H W' H' → A → Q true H') → (∀ W' H', Go W H W' H' → B → Q false H') → Kx W H E e → tt σ H Q
def SA (E : XK) (n : Nat) (ta : TA) (m : CA) : Prop := ∀ W Z H σ ρ Q q e, Rep W Z H σ ρ → m ρ q e → Ka n W H Q q → Kx W H E e → ta σ H Q
def onD (u : U) (k : D → Prop) : Prop := match u with
  | .d x => k x
  | _ => False
theorem onD_of {W : Wd} {H : Hp} {v : V} {u : U} {fp : List Addr} {k : D → Prop} (r : RU W H v u fp) (h : onD u k) : ∃ d, u = .d d ∧ Vd W v d ∧ k d := by
  cases u with
  | d x => cases r with | d r => exact ⟨x, rfl, r, h⟩
  | _ => exact h.elim
def oe1 : Option U → Option En
  | some (.d x) => some (.d x)
  | _ => none
def oe (ρ : Ev) : Dt.Ev := ρ.map oe1
theorem Rep.old {W : Wd} {Z : Addr → Prop} {H : Hp} {σ : L2.St} {ρ : Ev} (R : Rep W Z H σ ρ) : Dt.Rep W H H σ (oe ρ) where
  ok := R.ok
  len := by unfold oe; rw [List.length_map, R.len]
  at_ := fun i e h => by
    unfold oe at h
    rw [List.getElem?_map] at h
    cases q : ρ[i]? with
    | none => rw [q] at h; cases h
    | some o =>
      rw [q] at h
      cases o with
      | none => cases h
      | some u =>
        cases u with
        | d x =>
          cases h
          exact R.var q
        | _ => cases h
  sep := fun i j ds es v h => by
    unfold oe at h
    rw [List.getElem?_map] at h
    cases q : ρ[i]? with
    | none => rw [q] at h; cases h
    | some o =>
      rw [q] at h
      cases o with
      | none => cases h
      | some u => cases u <;> cases h
theorem lf {E : XK} {te : TE} {m : Dt.ME} (h : SimE E te m) : SE E te (fun ρ q e => m (oe ρ) (fun d => q (.d d)) e) := fun W Z H σ ρ Q q e R hm k kx => h W H H σ (oe ρ) Q _ e R.old hm k.d kx
abbrev cVar (i : Nat) : CE := fun ρ q _ => match ρ[i]? with
  | some (some u) => q u
  | _ => False
abbrev cC (d : D) : CE := fun _ q _ => q (.d d)
abbrev cNil : CA := fun _ q _ => q []
abbrev cCons (a : CE) (r : CA) : CA := fun ρ q e => a ρ (fun x => onD x fun x => r ρ (fun xs => q (x :: xs)) e) e
def onB (d : U) (A B : Prop) : Prop := match d with
  | .d (.bl c) => br c A B
  | _ => False
abbrev cBoo (a : CE) : CT := fun ρ A B e => a ρ (fun x => onB x A B) e
abbrev cDef (sp : SpD) (a : CA) : CE := fun ρ q e => a ρ (fun ds => sp ds (fun z => q (.d z)) e) e
theorem onB_of {W : Wd} {H : Hp} {v : V} {u : U} {fp : List Addr} {A B : Prop} (h : RU W H v u fp) (o : onB u A B) : ∃ c, v = .bl c ∧ br c A B := by
  cases u with
  | d x =>
    cases x with
    | bl c => cases h with | d h => cases h; exact ⟨c, rfl, o⟩
    | _ => exact o.elim
  | _ => exact o.elim
section
variable {E : XK} {ta tb tc te : TE} {ma mb mc me : CE} {tt tu : TT} {mt mu : CT} {aa ab : TA} {na nb : CA} {r r' : R2} {f f' : D → D → KD → Prop} {K : PySem.W.Frag} {n n' : Nat}
theorem e_var {i : Nat} : SE E (tVar i) (cVar i) := fun W Z H σ ρ Q q e R h k _ => by
  have h : (match ρ[i]? with | some (some u) => q u | _ => False) := h
  split at h
  · rename_i u e1
    obtain ⟨fp, h1, _⟩ := R.ex
    obtain ⟨v, e2, hv⟩ := h1 i u e1
    exact ⟨v, e2, k W v u _ H (.refl R.ok) hv h⟩
  · exact h.elim
theorem e_non : SE E (tC .non) (cC .non) := fun W Z H σ ρ Q q e R h k _ => k.d W _ _ H (.refl R.ok) .non h
theorem e_nil : SA E 0 tNil cNil := fun W Z H σ ρ Q q e R h k _ => k W _ _ H (.refl R.ok) .nil rfl h
theorem e_cons (ha : SE E ta ma) (hr : SA E n aa na) : SA E (n + 1) (tCons ta aa) (cCons ma na) := fun W Z H σ ρ Q q e R h k kx =>
  ha W Z H σ ρ _ _ e R h (fun W1 x ux fx H1 g1 rx h1 => by
    obtain ⟨dx, rfl, hx, h1⟩ := onD_of rx h1
    exact hr W1 Z H1 σ ρ _ _ e (R.pure g1) h1 (fun W2 xs ds H2 g2 hy hl h2 => k W2 _ _ H2 (g1.trans R.ok g2) (.cons (hx.mono g2.le) hy) (by rw [List.length_cons, hl]) h2) (kx.go R.ok g1)) kx
theorem e_B (ha : SE E ta ma) : ST E (tB ta) (cBoo ma) := fun W Z H σ ρ Q A B e R h k1 k2 kx =>
  ha W Z H σ ρ _ _ e R h (fun W1 x ux fx H1 g1 hx h1 => by
    obtain ⟨c, e1, h1⟩ := onB_of hx h1
    refine ⟨c, e1, ?_⟩
    cases c
    · exact k2 W1 H1 g1 h1
    · exact k1 W1 H1 g1 h1) kx
theorem e_def {sp : SpD} (ha : SA E n aa na) : SE E (tDef (spOf sp) E aa) (cDef sp na) := fun W Z H σ ρ Q q e R h k kx =>
  ha W Z H σ ρ _ _ e R h (fun W1 xs ds H1 g1 hx hl1 h1 => ⟨W1, ds, _, e, g1.ok, hx, h1, (k.go R.ok g1).d, kx.go R.ok g1⟩) kx
end
end Et
set_option Elab.async false
set_option linter.all false
set_option maxRecDepth 100000
set_option maxHeartbeats 4000000
namespace Et
open PySem PySem.Spec PyProof.Rows L2 Com Nd
open Dt (D Wd Vd VdA Le Ok Go Kv Ka Kb Kx KD XD SpD spOf SimR SimU SimC SimSl SimE SimT SimA SimO SimI SimN En toPy toPyA dOf dOfA nkK fEq fIn rIxU ixU rNotInU op_notInU)
variable [Dt.Tb]
mutual
/-- data as a key -/
def nkOf : D → Option NestedKey
  | .non => some .none
  | .int i => some (.num i)
  | .str s => some (.text s)
  | .tup ds => match nkOfA ds with
    | some ks => some (.tup ks)
    | none => none
  | .vry _ d => nkOf d
  | _ => none
def nkOfA : List D → Option (List NestedKey)
  | [] => some []
  | d :: ds => match nkOf d with
    | some k => match nkOfA ds with
      | some ks => some (k :: ks)
      | none => none
    | none => none
end
mutual
theorem nk_is {W : Wd} {H : Hp} (k0 : Ok W H) : ∀ {v : V} {d : D} {k : NestedKey}, Vd W v d → nkOf d = some k → NIs H k v
  | _, _, _, .non, e => by rw [nkOf] at e; cases e; exact .none
  | _, _, _, .bl _, e => by rw [nkOf] at e; cases e; all_goals (intros; rename_i z; cases z)
  | _, _, _, .int i, e => by rw [nkOf] at e; cases e; exact .num i
  | _, _, _, .str s, e => by rw [nkOf] at e; cases e; exact .text s
  | _, _, _, .tup (ds := ds) h t, e => by
    rw [nkOf] at e
    cases q : nkOfA ds with
    | none => rw [q] at e; cases e
    | some ks => rw [q] at e; cases e; exact .tup (k0.f _ _ h) (nk_isA k0 t q)
  | _, _, _, .lst _ _, e => by rw [nkOf] at e; cases e; all_goals (intros; rename_i z; cases z)
  | _, _, _, .obj _ _ _, e => by rw [nkOf] at e; cases e; all_goals (intros; rename_i z; cases z)
  | _, _, _, .flow _ _, e => by rw [nkOf] at e; cases e; all_goals (intros; rename_i z; cases z)
  | _, _, _, .scr _, e => by rw [nkOf] at e; cases e; all_goals (intros; rename_i z; cases z)
  | _, _, _, .dict0 _, e => by rw [nkOf] at e; cases e; all_goals (intros; rename_i z; cases z)
  | _, _, _, .dctN _ _ _ _, e => by rw [nkOf] at e; cases e; all_goals (intros; rename_i z; cases z)
  | _, _, _, .dctK _ _ _, e => by rw [nkOf] at e; cases e; all_goals (intros; rename_i z; cases z)
  | _, _, _, .vry h, e => by rw [nkOf] at e; exact nk_is k0 h e
theorem nk_isA {W : Wd} {H : Hp} (k0 : Ok W H) : ∀ {vs : List V} {ds : List D} {ks : List NestedKey}, VdA W vs ds → nkOfA ds = some ks → NIsA H ks vs
  | _, _, _, .nil, e => by rw [nkOfA] at e; cases e; exact .nil
  | _, _, _, .cons (d := d) (ds := ds) h t, e => by
    rw [nkOfA] at e
    cases q : nkOf d with
    | none => rw [q] at e; cases e
    | some k =>
      cases q2 : nkOfA ds with
      | none => rw [q, q2] at e; cases e
      | some ks => rw [q, q2] at e; cases e; exact .cons (nk_is k0 h q) (nk_isA k0 t q2)
end
mutual
theorem dof_is {W : Wd} {H : Hp} (k0 : Ok W H) : ∀ {k : NestedKey} {v : V}, Vd W v (dOf k) → NIs H k v
  | .none, _, h => by rw [dOf] at h; cases h; exact .none
  | .num i, _, h => by rw [dOf] at h; cases h; exact .num i
  | .text s, _, h => by rw [dOf] at h; cases h; exact .text s
  | .tup ks, _, h => by
    rw [dOf] at h
    cases h with
    | tup h t => exact .tup (k0.f _ _ h) (dof_isA k0 t)
theorem dof_isA {W : Wd} {H : Hp} (k0 : Ok W H) : ∀ {ks : List NestedKey} {vs : List V}, VdA W vs (dOfA ks) → NIsA H ks vs
  | [], _, h => by rw [dOfA] at h; cases h; exact .nil
  | k :: ks, _, h => by
    rw [dOfA] at h
    cases h with
    | cons h t => exact .cons (dof_is k0 h) (dof_isA k0 t)
end
theorem all_keys {W : Wd} {H : Hp} (k0 : Ok W H) : ∀ {xs : List NX}, VdA W (xs.map fun x => .ref x.2.1) (dOfA (xs.map (·.1))) → AllK H xs
  | [], _ => fun _ h => nomatch h
  | x :: xs, h => by
    rw [List.map_cons, List.map_cons, dOfA] at h
    cases h with
    | cons h t =>
      intro y hy
      rcases List.mem_cons.mp hy with rfl | hy
      · exact dof_is k0 h
      · exact all_keys k0 t y hy
theorem all_keys2 {W : Wd} {H : Hp} (k0 : Ok W H) {xs : List NX} {ks : List NestedKey} (h : VdA W (xs.map fun x => .ref x.2.1) (dOfA ks)) (e : xs.map (·.1) = ks) : AllK H xs := by subst e; exact all_keys k0 h
def lookK {α : Type} : List NestedKey → List α → NestedKey → Option α
  | k :: ks, d :: ds, j => if k = j then some d else lookK ks ds j
  | _, _, _ => none
theorem look_isSome {α : Type} {j : NestedKey} : ∀ {ks : List NestedKey} {ds : List α}, ks.length = ds.length → (lookK ks ds j).isSome = decide (j ∈ ks)
  | [], [], _ => rfl
  | k :: ks, d :: ds, h => by
    unfold lookK
    by_cases c : k = j
    · rw [if_pos c]; subst c; simp
    · rw [if_neg c, look_isSome (by simpa using h)]
      have : ¬ j = k := fun z => c z.symm
      simp [this]
theorem lkN_isSome {j : NestedKey} (xs : List NX) : (lkN xs j).isSome = decide (j ∈ xs.map (·.1)) := by
  have : lkN xs j = lookK (xs.map (·.1)) (xs.map (·.2.2)) j := by
    induction xs with
    | nil => rfl
    | cons x xs ih =>
      unfold lkN
      rw [List.map_cons, List.map_cons, lookK, List.find?_cons]
      by_cases c : x.1 = j
      · rw [decide_eq_true c, if_pos c]; rfl
      · rw [decide_eq_false c, if_neg c, ← ih]; rfl
  rw [this, look_isSome (by simp)]
/-- keys that are ints or texts -/
theorem nkK_of {W : Wd} {v : V} : ∀ {d : D} {k : Key}, Vd W v d → nkOf d = some (nkK k) → v = kV k
  | .non, k, h, e => by rw [nkOf] at e; cases k <;> cases e
  | .int i, k, h, e => by
    rw [nkOf] at e
    cases k with
    | inl j => cases e; cases h; rfl
    | inr j => cases e
  | .str i, k, h, e => by
    rw [nkOf] at e
    cases k with
    | inl j => cases e
    | inr j => cases e; cases h; rfl
  | .tup ds, k, h, e => by
    rw [nkOf] at e
    cases q : nkOfA ds with
    | none => rw [q] at e; cases e
    | some ks => rw [q] at e; cases k <;> cases e
  | .vry _ d, k, h, e => by
    rw [nkOf] at e
    cases h with
    | vry h => exact nkK_of h e
  | .bl _, k, h, e => by rw [nkOf] at e; cases e; all_goals (intros; rename_i z; cases z)
  | .lst _, k, h, e => by rw [nkOf] at e; cases e; all_goals (intros; rename_i z; cases z)
  | .obj _ _ _, k, h, e => by rw [nkOf] at e; cases e; all_goals (intros; rename_i z; cases z)
  | .flow _, k, h, e => by rw [nkOf] at e; cases e; all_goals (intros; rename_i z; cases z)
  | .scr _ _, k, h, e => by rw [nkOf] at e; cases e; all_goals (intros; rename_i z; cases z)
  | .dict0, k, h, e => by rw [nkOf] at e; cases e; all_goals (intros; rename_i z; cases z)
  | .dct _ _ _ _, k, h, e => by rw [nkOf] at e; cases e; all_goals (intros; rename_i z; cases z)
theorem nkK_inj {a b : Key} (e : nkK a = nkK b) : a = b := by
  cases a <;> cases b <;> cases e <;> rfl
theorem valV_isSome {k : Key} : ∀ xs : List (Key × V), (valV xs k).isSome = decide (nkK k ∈ xs.map fun x => nkK x.1)
  | [] => rfl
  | x :: xs => by
    by_cases c : x.1 = k
    · rw [valV_pos c]; simp [c]
    · rw [valV_neg c, valV_isSome xs]
      have : ¬ nkK k = nkK x.1 := fun z => c (nkK_inj z).symm
      simp [this]
/-- how data told by f are compared -/
structure EqE {α : Type} [DecidableEq α] (k : Nat) (f : α → D) : Prop where
  ex : ∃ py : α → PyData, (∀ a, toPy (f a) = some (py a)) ∧ (∀ a, PyData.canLay0 (py a) = true ∧ PyData.depth (py a) ≤ k) ∧ ∀ a b, PyData.eqv (py a) (py b) = decide (a = b)
theorem EqE.int : EqE 0 (fun i : Int => D.int i) := ⟨PyData.int, fun _ => rfl, fun _ => ⟨rfl, Nat.le_refl _⟩, fun a b => Dt.eqv_int a b⟩
theorem toPyA_map {α : Type} {f : α → D} {py : α → PyData} (h : ∀ a, toPy (f a) = some (py a)) : ∀ L : List α, toPyA (L.map f) = some (L.map py)
  | [] => by rw [List.map_nil, toPyA]; rfl
  | a :: L => by rw [List.map_cons, toPyA, h a, toPyA_map h L]; rfl
theorem lay_map {α : Type} {py : α → PyData} {k : Nat} (h : ∀ a, PyData.canLay0 (py a) = true ∧ PyData.depth (py a) ≤ k) : ∀ L : List α, PyData.canLayAll0 (L.map py) = true ∧ PyData.depthAll (L.map py) ≤ k
  | [] => by rw [List.map_nil, PyData.canLayAll0, PyData.depthAll]; exact ⟨rfl, Nat.zero_le _⟩
  | a :: L => by
    obtain ⟨i, j⟩ := lay_map h L
    obtain ⟨p, q⟩ := h a
    rw [List.map_cons, PyData.canLayAll0, PyData.depthAll, i, p]
    exact ⟨rfl, by omega⟩
theorem eqv_map {α : Type} [DecidableEq α] {py : α → PyData} (h : ∀ a b, PyData.eqv (py a) (py b) = decide (a = b)) : ∀ L M : List α, PyData.eqvAll (L.map py) (M.map py) = decide (L = M)
  | [], [] => by rw [List.map_nil, PyData.eqvAll]; simp
  | [], b :: M => by rw [List.map_nil, List.map_cons, PyData.eqvAll]; simp
  | a :: L, [] => by rw [List.map_nil, List.map_cons, PyData.eqvAll]; simp
  | a :: L, b :: M => by
    rw [List.map_cons, List.map_cons, PyData.eqvAll, h a b, eqv_map h L M]
    by_cases c : a = b <;> by_cases c2 : L = M <;> simp [c, c2]
theorem EqE.tup {α : Type} [DecidableEq α] {k : Nat} {f : α → D} (h : EqE k f) : EqE (k + 1) (fun L : List α => D.tup (L.map f)) := by
  obtain ⟨py, h1, h2, h3⟩ := h.ex
  refine ⟨fun L => .tuple (L.map py), fun L => by rw [toPy, toPyA_map h1], fun L => ?_, fun L M => by rw [PyData.eqv, eqv_map h3]⟩
  obtain ⟨i, j⟩ := lay_map h2 L
  rw [PyData.canLay0, PyData.depth]
  exact ⟨i, by omega⟩
theorem EqE.lst {α : Type} [DecidableEq α] {k : Nat} {f : α → D} (h : EqE k f) : EqE (k + 1) (fun L : List α => D.lst (L.map f)) := by
  obtain ⟨py, h1, h2, h3⟩ := h.ex
  refine ⟨fun L => .list (L.map py), fun L => by rw [toPy, toPyA_map h1], fun L => ?_, fun L M => by rw [PyData.eqv, eqv_map h3]⟩
  obtain ⟨i, j⟩ := lay_map h2 L
  rw [PyData.canLay0, PyData.depth]
  exact ⟨i, by omega⟩
theorem EqE.pair : EqE 1 Dt.pairD := by
  refine ⟨fun p => .tuple [.int p.1, .int p.2], fun _ => rfl, fun p => ⟨rfl, Nat.le_refl _⟩, fun p q => ?_⟩
  rw [PyData.eqv, PyData.eqvAll, PyData.eqvAll, PyData.eqvAll, Dt.eqv_int, Dt.eqv_int]
  by_cases c : p.1 = q.1 <;> by_cases c2 : p.2 = q.2 <;> simp [c, c2, Prod.ext_iff]
theorem EqE.ld : EqE 2 Dt.ldD := EqE.pair.tup
theorem EqE.st : EqE 3 Dt.stD := EqE.ld.tup
section
variable {α : Type} [DecidableEq α] {k : Nat} {f : α → D} {a b : α} {q : KD} {L : List α}
theorem shaped_of {p : PyData} (h1 : PyData.canLay0 p = true) (h2 : PyData.depth p ≤ 64) : SeqAt.shaped p = true := by
  show (PyData.canLay0 p && decide (PyData.depth p ≤ 64)) = true
  rw [h1, decide_eq_true h2]
  rfl
theorem EqE.ne (h : EqE k f) (hk : k ≤ 60 := by decide) (hq : q (.bl (!decide (a = b)))) : fEq true (f a) (f b) q := by
  obtain ⟨py, h1, h2, h3⟩ := h.ex
  refine ⟨py a, py b, h1 a, h1 b, shaped_of (h2 a).1 (by have := (h2 a).2; omega), shaped_of (h2 b).1 (by have := (h2 b).2; omega), ?_⟩
  rw [h3]
  exact hq
end
theorem eqv_str (a b : Str) : PyData.eqv (.str a) (.str b) = decide (a = b) := by
  rw [PyData.eqv]
  by_cases h : a = b
  · simp [h]
  · simp [h]
end Et
set_option Elab.async false
set_option linter.all false
set_option maxRecDepth 100000
set_option maxHeartbeats 4000000
namespace Et
open PySem PySem.Spec PyProof.Rows L2 Com Nd
open Dt (D Wd Vd VdA Le Ok Go Kv Ka Kb Kx KD XD SpD spOf SimR SimU SimC SimSl SimE SimT SimA SimO SimI SimN En toPy toPyA dOf dOfA nkK fEq fIn rIxU ixU rNotInU op_notInU)
variable [Dt.Tb]
theorem RUs.get : ∀ {W : Wd} {H : Hp} {vs : List V} {us : List U} {fp : List Addr} {n : Nat} {u : U}, RUs W H vs us fp → us[n]? = some u → ∃ v fq, vs[n]? = some v ∧ RU W H v u fq := fun r e => let ⟨v, _, f2, _, e1, r1, _⟩ := r.at e; ⟨v, f2, e1, r1⟩
/-- x in y -/
def inU (w : World) (neg : Bool) (x y : U) (q : D → Prop) : Prop := match x, y with
  | .d x, .d (.dct w' nb ks _) => w' = w ∧ keyIn neg nb x ks q
  | .d x, .dct w' nb ks _ => w' = w ∧ keyIn neg nb x ks q
  | .d x, .d y => fIn neg x y q
  | .d x, .lst us => ∃ ds : List D, us = ds.map .d ∧ fIn neg x (.lst ds) q
  | _, _ => False
where keyIn (neg nb : Bool) (x : D) (ks : List NestedKey) (q : D → Prop) : Prop := match nb, nkOf x with
  | true, some (.tup t) => (NestedKey.tup t).depth ≤ 8 ∧ q (.bl (if neg then !decide (NestedKey.tup t ∈ ks) else decide (NestedKey.tup t ∈ ks)))
  | false, some (.num i) => q (.bl (if neg then !decide (NestedKey.num i ∈ ks) else decide (NestedKey.num i ∈ ks)))
  | false, some (.text i) => q (.bl (if neg then !decide (NestedKey.text i ∈ ks) else decide (NestedKey.text i ∈ ks)))
  | _, _ => False
def rNotInA (K : PySem.W.Frag) (w : World) : R2 := fun x y H Q => rNotInU K x y H Q ∨ rNIn w true x y H Q ∨ rKIn true x y H Q
theorem op_notInA {X : Cx} (K : PySem.W.Frag) (hu : room X) (hu5 : X.A.units + 65 < cLine) (hK : X.K = K := by rfl) : OpR X (compareOp .NotIn) (rNotInA K X.w) := by
  intro pins s σ H x y v u Q I rx ry h
  rcases h with h | h | h
  · exact op_notInU K hu5 hK pins s σ H x y v u Q I rx ry h
  · exact op_nnotin hu pins s σ H x y v u Q I rx ry h
  · exact op_knotin (by unfold room at hu; omega) pins s σ H x y v u Q I rx ry h
section
variable {E : XK} {ta tb te : TE} {ma mb me : CE} {K : PySem.W.Frag} {w : World}
/-- the look into a dict -/
theorem key_run {W : Wd} {H : Hp} (k0 : Ok W H) {neg nb : Bool} {x y : V} {dx : D} {ks : List NestedKey} {q : D → Prop} (hx : Vd W x dx) (h : inU.keyIn neg nb dx ks q)
    (hy : (∃ a xs, nb = true ∧ y = .ref a ∧ H a = some (DN w a xs) ∧ AllK H xs ∧ xs.map (·.1) = ks) ∨ ∃ a, ∃ xs : List (Key × V), nb = false ∧ y = .ref a ∧ H a = some (.dK xs) ∧ xs.map (fun x => nkK x.1) = ks) {Q : VK} (k : ∀ b, q (.bl b) → Q (.bl b) H) : rNIn w neg x y H Q ∨ rKIn neg x y H Q := by
  unfold inU.keyIn at h
  split at h
  · rename_i t e
    rcases hy with ⟨a, xs, e1, rfl, ha, hk, ek⟩ | ⟨a, xs, e1, _⟩
    · have nj := nk_is k0 hx e
      have : ∃ b, x = .ref b := by cases nj with | tup g1 g2 => exact ⟨_, rfl⟩
      obtain ⟨b, rfl⟩ := this
      refine .inl ⟨a, b, xs, _, rfl, rfl, ha, hk, ⟨nj, h.1⟩, ?_⟩
      rw [lkN_isSome, ek]
      exact k _ h.2
    · cases e1
  · rename_i i e
    rcases hy with ⟨a, xs, e1, _⟩ | ⟨a, xs, e1, rfl, ha, ek⟩
    · cases e1
    · refine .inr ⟨a, xs, .inl i, rfl, nkK_of (k := .inl i) hx e, ha, ?_⟩
      rw [valV_isSome, ek]
      exact k _ h
  · rename_i i e
    rcases hy with ⟨a, xs, e1, _⟩ | ⟨a, xs, e1, rfl, ha, ek⟩
    · cases e1
    · refine .inr ⟨a, xs, .inr i, rfl, nkK_of (k := .inr i) hx e, ha, ?_⟩
      rw [valV_isSome, ek]
      exact k _ h
  · exact h.elim
end
end Et
set_option Elab.async false
set_option linter.all false
set_option maxRecDepth 100000
set_option maxHeartbeats 4000000
namespace Et
open PySem PySem.Spec PyProof.Rows L2 Com Nd
open Dt (D Wd Vd VdA Le Ok Go Kv Ka Kb Kx KD XD SpD spOf SimR SimU SimC SimSl SimE SimT SimA SimO SimI SimN SimIp ItD En toPy toPyA dOf dOfA nkK fEq fIn)
variable [Dt.Tb]
abbrev XU := Addr → Str → D → Ev → Prop
structure EndsU where
  nx : Ev → Prop
  rt : U → Ev → Prop
  bk : Ev → Prop
  ct : Ev → Prop
abbrev CS := EndsU → Ev → XU → Prop
abbrev CG := D → Ev → (Ev → Prop) → Prop
abbrev CGs := List D → Ev → (Ev → Prop) → Prop
abbrev CI := Ev → (List D → Prop) → XD → Prop
def KxS (i : In0) (W : Wd) (E : XK) (e : XU) : Prop := ∀ W' H' σ' ρ' C dx f v d, Le W W' → At i W' H' σ' ρ' → H' dx = some (.xd [(f, v)]) → Vd W' v d → e C f d ρ' → E (.ref C) (some dx) H'
structure CtU (i : In0) (W : Wd) (D : Ends) (d : EndsU) : Prop where
  nx : ∀ W' H' σ' ρ', Le W W' → At i W' H' σ' ρ' → d.nx ρ' → D.nx σ' H'
  rt : ∀ W' H' σ' ρ' v u, Le W W' → New i W' H' σ' ρ' v u → d.rt u ρ' → D.rt v H'
  bk : ∀ W' H' σ' ρ', Le W W' → At i W' H' σ' ρ' → d.bk ρ' → D.bk σ' H'
  ct : ∀ W' H' σ' ρ', Le W W' → At i W' H' σ' ρ' → d.ct ρ' → D.ct σ' H'
def SS (ws : List Nat) (E : XK) (ts : TS) (m : CS) : Prop := ∀ i W H σ ρ D d e, i.ws = ws → At i W H σ ρ → m d ρ e → CtU i W D d → KxS i W E e → ts D σ H
theorem CtU.up {i : In0} {W W1 : Wd} {D : Ends} {d : EndsU} (h : CtU i W D d) (l : Le W W1) : CtU i W1 D d := ⟨fun W' H' σ' ρ' l1 => h.nx W' H' σ' ρ' (l.trans l1), fun W' H' σ' ρ' v u l1 => h.rt W' H' σ' ρ' v u (l.trans l1), fun W' H' σ' ρ' l1 => h.bk W' H' σ' ρ' (l.trans l1), fun W' H' σ' ρ' l1 => h.ct W' H' σ' ρ' (l.trans l1)⟩
theorem KxS.up {i : In0} {W W1 : Wd} {E : XK} {e : XU} (h : KxS i W E e) (l : Le W W1) : KxS i W1 E e := fun W' H' σ' ρ' C dx f v d l1 => h W' H' σ' ρ' C dx f v d (l.trans l1)
theorem KxS.kx {i : In0} {W : Wd} {H : Hp} {σ : L2.St} {ρ : Ev} {E : XK} {e : XU} (h : KxS i W E e) (A : At i W H σ ρ) : Kx W H E (fun C f d => e C f d ρ) := fun W' H' C dx f v d g e1 hv h1 => h W' H' σ ρ C dx f v d g.le (A.pure g) e1 hv h1
section
variable {E : XK} {K : PySem.W.Frag} {is js ws : List Nat} {g : TG} {gs : TGs} {mg : CG} {mgs : CGs} {te : TE} {me : CE} {tt : TT} {mt : CT} {ta : TA} {ma : CA} {ti : TI} {mi : CI} {ts tu : TS} {ms mu : CS} {n : Nat}
abbrev sNever : CS := fun _ _ _ => False
abbrev sSeq (a b : CS) : CS := fun d ρ e => a { d with nx := fun ρ' => b d ρ' e } ρ e
abbrev xat (e : XU) (ρ : Ev) : XD := fun C f d => e C f d ρ
abbrev sIf (t : CT) (a b : CS) : CS := fun d ρ e => t ρ (a d ρ e) (b d ρ e) (xat e ρ)
theorem s_never : SS ws E tNever sNever := fun i W H σ ρ D d e hw A h c _ => h.elim
theorem s_seq (h1 : SS ws E ts ms) (h2 : SS ws E tu mu) : SS ws E (tSeq ts tu) (sSeq ms mu) := fun i W H σ ρ D d e hw A h c kx =>
  h1 i W H σ ρ _ _ e hw A h ⟨fun W' H' σ' ρ' l A' h' => h2 i W' H' σ' ρ' D d e hw A' h' (c.up l) (kx.up l), c.rt, c.bk, c.ct⟩ kx
theorem s_if (ht : ST E tt mt) (h1 : SS ws E ts ms) (h2 : SS ws E tu mu) : SS ws E (tIfS tt ts tu) (sIf mt ms mu) := fun i W H σ ρ D d e hw A h c kx =>
  ht W i.Z H σ ρ _ _ _ _ A.rep h (fun W1 H1 g1 hb => (h1 i W1 H1 σ ρ D d e hw (A.pure g1) hb (c.up g1.le) (kx.up g1.le) : ts D σ H1)) (fun W1 H1 g1 hb => (h2 i W1 H1 σ ρ D d e hw (A.pure g1) hb (c.up g1.le) (kx.up g1.le) : tu D σ H1)) (kx.kx A)
theorem Rep.ne {W : Wd} {Z : Addr → Prop} {H : Hp} {σ : L2.St} {ρ : Ev} {p : Addr} (R : Rep W Z H σ ρ) (hp : H p = none) : Rep W (fun a => Z a ∧ a ≠ p) H σ ρ := by
  obtain ⟨fp, h1, h2, h3⟩ := R.ex
  refine ⟨R.ok, R.len, fp, h1, fun i => ⟨(h2 i).1, fun a m => ⟨(h2 i).2.1 a m, fun z => ?_⟩, (h2 i).2.2⟩, h3⟩
  obtain ⟨⟨o, e, _⟩, _⟩ := (h2 i).2.2 a m
  rw [z, hp] at e
  cases e
end
end Et
set_option Elab.async false
set_option linter.all false
set_option maxRecDepth 100000
set_option maxHeartbeats 4000000
namespace Et
open PySem PySem.Spec PyProof.Rows L2 Com Nd
open Dt (D Wd Vd VdA Le Ok Go Kv Ka Kb Kx KD XD SpD spOf SimR SimU SimC SimSl SimE SimT SimA SimO SimI SimN SimIp ItD En toPy toPyA dOf dOfA nkK fEq fIn)
variable [Dt.Tb]
mutual
/-- the data of a tree -/
def er : U → D
  | .d x => x
  | .lst us => .lst (ers us)
  | .obj C ks us => .obj C ks (ers us)
  | .dct w n ks us => .dct w n ks (ers us)
def ers : List U → List D
  | [] => []
  | u :: us => er u :: ers us
end
/-- a tree is part of what stands -/
def sealW (W : Wd) (H : Hp) (fp : List Addr) : Wd := ⟨fun b => if b ∈ fp then H b else W.F b, W.G, W.T⟩
mutual
theorem RU.er {W W' : Wd} {H : Hp} (l : Le W W') : ∀ {v : V} {u : U} {fp : List Addr}, RU W H v u fp → (∀ a ∈ fp, W'.F a = H a) → Vd W' v (er u)
  | _, _, _, .d h, _ => by rw [Et.er]; exact h.mono l
  | _, _, _, .lst h t f g, k => by rw [Et.er]; exact .lst ((k _ (List.mem_cons_self ..)).trans h) (RUs.er l t fun a m => k a (List.mem_cons_of_mem _ m))
  | _, _, _, .obj h e t f g, k => by rw [Et.er]; exact .obj ((k _ (List.mem_cons_self ..)).trans h) e (RUs.er l t fun a m => k a (List.mem_cons_of_mem _ m))
  | _, _, _, .dctN h e d t f g, k => by rw [Et.er]; exact .dctN ((k _ (List.mem_cons_self ..)).trans h) e (d.mono l) (RUs.er l t fun a m => k a (List.mem_cons_of_mem _ m))
  | _, _, _, .dctK h e t f g, k => by rw [Et.er]; exact .dctK ((k _ (List.mem_cons_self ..)).trans h) e (RUs.er l t fun a m => k a (List.mem_cons_of_mem _ m))
theorem RUs.er {W W' : Wd} {H : Hp} (l : Le W W') : ∀ {vs : List V} {us : List U} {fp : List Addr}, RUs W H vs us fp → (∀ a ∈ fp, W'.F a = H a) → VdA W' vs (ers us)
  | _, _, _, .nil, _ => by rw [ers]; exact .nil
  | _, _, _, .cons h t, k => by rw [ers]; exact .cons (RU.er l h fun a m => k a (List.mem_append_left _ m)) (RUs.er l t fun a m => k a (List.mem_append_right _ m))
end
section
variable {i : In0} {W W1 : Wd} {H H1 : Hp} {σ : L2.St} {ρ : Ev} {s n j : Nat} {p : List Nat} {t t1 u : U} {v : V} {Z : Addr → Prop}
theorem seal_le {fp : List Addr} (h : ∀ a ∈ fp, Nod W H a) : Le W (sealW W H fp) := ⟨fun b o e => by
  show (if b ∈ fp then H b else W.F b) = some o
  by_cases c : b ∈ fp
  · rw [(h b c).2.1] at e; cases e
  · rw [if_neg c]; exact e, fun _ h => h, rfl⟩
theorem seal_ok {fp : List Addr} (k : Ok W H) (h : ∀ a ∈ fp, Nod W H a) : Ok (sealW W H fp) H := ⟨fun b o e => by
  have e : (if b ∈ fp then H b else W.F b) = some o := e
  by_cases c : b ∈ fp
  · rw [if_pos c] at e; exact e
  · rw [if_neg c] at e; exact k.f b o e, fun a g => ⟨by
    show (if a ∈ fp then H a else W.F a) = none
    by_cases c : a ∈ fp
    · exact absurd g (h a c).2.2
    · rw [if_neg c]; exact (k.g a g).1, (k.g a g).2.mono (seal_le h).f rfl fun _ e => e⟩, k.t⟩
theorem Rep.sealW (R : Rep W Z H σ ρ) (h : ρ[j]? = some (some u)) : ∃ fp, (∀ a ∈ fp, Nod W H a ∧ Z a) ∧ Rep (sealW W H fp) Z H σ (ρ.set j (some (.d (er u)))) := by
  obtain ⟨fp, h1, h2, h3⟩ := R.ex
  obtain ⟨v, e1, r⟩ := h1 j u h
  have hn := (h2 j).2.2
  have l := seal_le hn
  refine ⟨fp j, fun a m => ⟨hn a m, (h2 j).2.1 a m⟩, seal_ok R.ok hn, by rw [List.length_set, R.len], fun k => if k = j then [] else fp k, fun k u' e => ?_, fun k => ?_, fun k l' a n m1 m2 => ?_⟩
  · rcases Dt.getset e with ⟨rfl, e2, _⟩ | ⟨n, e⟩
    · cases e2
      refine ⟨v, e1, ?_⟩
      dsimp only
      rw [if_pos rfl]
      exact .d (r.er l fun a m => by show (if a ∈ fp k then H a else W.F a) = H a; rw [if_pos m])
    · obtain ⟨w, e3, r3⟩ := h1 k u' e
      refine ⟨w, e3, ?_⟩
      dsimp only
      rw [if_neg n]
      refine r3.stay ⟨l, fun a m => ⟨fun o e => e, ?_, ((h2 k).2.2 a m).2.2⟩⟩
      show (if a ∈ fp j then H a else W.F a) = none
      rw [if_neg fun z => h3 k j a n m z]
      exact ((h2 k).2.2 a m).2.1
  · dsimp only
    by_cases c : k = j
    · rw [if_pos c]; exact ⟨.nil, (fun _ h => nomatch h), fun _ h => nomatch h⟩
    · rw [if_neg c]
      refine ⟨(h2 k).1, (h2 k).2.1, fun a m => ⟨((h2 k).2.2 a m).1, ?_, ((h2 k).2.2 a m).2.2⟩⟩
      show (if a ∈ fp j then H a else W.F a) = none
      rw [if_neg fun z => h3 k j a c m z]
      exact ((h2 k).2.2 a m).2.1
  · dsimp only at m1 m2
    by_cases c : k = j
    · rw [if_pos c] at m1; cases m1
    · by_cases c2 : l' = j
      · rw [if_pos c2] at m2; cases m2
      · rw [if_neg c] at m1; rw [if_neg c2] at m2; exact h3 k l' a n m1 m2
theorem At.freeze (A : At i W H σ ρ) (h : ρ[j]? = some (some u)) : ∃ W', Le W W' ∧ At i W' H σ (ρ.set j (some (.d (er u)))) := by
  obtain ⟨fp, hn, R⟩ := A.rep.sealW h
  have l : Le W (sealW W H fp) := seal_le fun a m => (hn a m).1
  refine ⟨_, l, A.k0, ⟨A.go.le.trans l, A.go.gn, fun a o e => ?_, A.go.p, A.go.st, R.ok⟩, R, A.un⟩
  have e : (if a ∈ fp then H a else W.F a) = some o := e
  by_cases c : a ∈ fp
  · rcases (hn a c).2 with z | z
    · exact .inr (.inr (.inr z))
    · exact .inr (.inl z)
  · rw [if_neg c] at e
    exact A.go.fn a o e
/-- a slot's thing is taken out -/
theorem At.take (A : At i W H σ ρ) (h : ρ[j]? = some (some u)) : ∃ v, σ[j]? = some (some v) ∧ New i W H σ (ρ.set j none) v u := by
  obtain ⟨fp, h1, h2, h3⟩ := A.rep.ex
  obtain ⟨v, e1, r⟩ := h1 j u h
  have hl := A.rep.len
  refine ⟨v, e1, A.k0, A.go, ⟨A.rep.ok, by simp [hl], fun k => if k = j then [] else if k = ρ.length then fp j else if k < ρ.length then fp k else [], fun k u' e => ?_, fun k => ?_, fun k l a n m1 m2 => ?_⟩, A.un⟩
  · have lj := (List.getElem?_eq_some_iff.mp h).1
    by_cases c : k < ρ.length
    · rw [List.getElem?_append_left (by rw [List.length_set]; exact c)] at e
      rcases Dt.getset e with ⟨_, e2, _⟩ | ⟨n, e⟩
      · cases e2
      · obtain ⟨w, e3, r3⟩ := h1 k u' e
        exact ⟨w, by rw [List.getElem?_append_left (by rw [hl]; exact c)]; exact e3, by dsimp only; rw [if_neg n, if_neg (by omega), if_pos c]; exact r3⟩
    · rw [List.getElem?_append_right (by rw [List.length_set]; omega), List.length_set] at e
      have k0 : k - ρ.length = 0 := by
        have := (List.getElem?_eq_some_iff.mp e).1
        simp at this
        omega
      rw [k0] at e
      cases e
      exact ⟨v, by rw [List.getElem?_append_right (by omega), hl, k0]; rfl, by dsimp only; rw [if_neg (by omega), if_pos (by omega)]; exact r⟩
  · dsimp only
    split
    · exact ⟨.nil, (fun _ h => nomatch h), fun _ h => nomatch h⟩
    · split
      · exact h2 j
      · split
        · exact h2 k
        · exact ⟨.nil, (fun _ h => nomatch h), fun _ h => nomatch h⟩
  · dsimp only at m1 m2
    split at m1
    · cases m1
    · split at m2
      · cases m2
      · split at m1
        · split at m2
          · omega
          · split at m2
            · exact h3 j l a (fun z => by omega) m1 m2
            · cases m2
        · split at m2
          · split at m1
            · exact h3 j k a (fun z => by omega) m2 m1
            · cases m1
          · split at m1
            · split at m2
              · exact h3 k l a n m1 m2
              · cases m2
            · cases m1
/-- a new list of one's own beside the slots -/
theorem New.lst (A : At i W H σ ρ) {W' : Wd} {H' : Hp} {p : Addr} {vs : List V} {ds : List D} (g : Go W H W' H') (hp : H p = none) (e : H' p = some (.lst vs)) (f : W'.F p = none) (n : ¬ W'.G p) (t : VdA W' vs ds) : New i W' H' σ ρ (.ref p) (.lst (ds.map .d)) :=
  .of A (.of A.rep.ok g) (.lst e (RUs.ofVdA t) f n) (by simp) fun a m => by rw [List.mem_singleton.mp m]; exact hp
end
end Et
set_option Elab.async false
set_option linter.all false
set_option maxRecDepth 100000
set_option maxHeartbeats 4000000
namespace Et
open PySem PySem.Spec PyProof.Rows L2 Com Nd
open Dt (D Wd Vd VdA Le Ok Go Kv Ka Kb Kx KD XD SpD spOf SimR SimU SimC SimSl SimE SimT SimA SimO SimI SimN SimIp ItD En toPy toPyA dOf dOfA nkK fEq fIn)
variable [Dt.Tb]
abbrev CP := Ev → (Nat → List Nat → U → Prop) → XD → Prop
def SP (E : XK) (te : TE) (m : CP) : Prop := ∀ i W H σ ρ Q q e, At i W H σ ρ → m ρ q e → (∀ W' H' s p t v, Go W H W' H' → Foc i W' H' σ ρ s p t v → q s p t → Q v H') → Kx W H E e → te σ H Q
abbrev pVar (s : Nat) : CP := fun ρ q _ => match ρ[s]? with
  | some (some u) => q s [] u
  | _ => False
/-- a slot's tree with something changed below -/
def putU (ρ : Ev) (s : Nat) (p : List Nat) (t : U) : Ev := match ρ[s]? with
  | some (some u) => ρ.set s (some (u.put p t))
  | _ => ρ
section
variable {E : XK} {te ta ti to : TE} {me ma mi : CE} {mp : CP} {K : PySem.W.Frag} {w : World} {ws : List Nat}
theorem p_var {s : Nat} : SP E (tVar s) (pVar s) := fun i W H σ ρ Q q e A h k _ => by
  have h : (match ρ[s]? with | some (some u) => q s [] u | _ => False) := h
  split at h
  · rename_i u e1
    obtain ⟨v, e2, f⟩ := A.foc e1
    exact ⟨v, e2, k W H s [] u v (.refl A.rep.ok) f h⟩
  · exact h.elim
end
section
variable {i : In0} {W : Wd} {H : Hp} {σ : L2.St} {ρ : Ev} {s : Nat} {p : List Nat} {v : V} {us : List U}
theorem go_upd {a : Addr} {o : HO} {fq : List Addr} (k : Ok W H) (n : Nod W H a) (m : a ∈ fq) : GoB (fun b => b ∈ fq) W H W (upd H a o) := by
  obtain ⟨⟨u, e, _⟩, f, g⟩ := n
  refine ⟨.refl W, fun _ h => .inl h, fun _ _ h => .inl h, fun b w q _ nb => ?_, fun b q => ?_, ⟨fun b w q => ?_, fun b gb => ?_, k.t⟩⟩
  · rw [upd_ne (fun z => nb (by rw [z]; exact m))]; exact q
  · by_cases c : b = a
    · rw [c, upd_same] at q; cases q
    · rw [upd_ne c] at q; exact q
  · rw [upd_ne (ne_of_none q f)]; exact k.f b w q
  · have nb : b ≠ a := fun z => g (z ▸ gb)
    exact ⟨(k.g b gb).1, (k.g b gb).2.mono (fun _ _ e => e) rfl fun u e1 => by rw [upd_ne nb]; exact e1⟩
theorem keep_upd {a : Addr} {o : HO} {fq : List Addr} (h : ∀ b ∈ fq, Nod W H b) (m : a ∉ fq) : Keep W H W (upd H a o) fq := ⟨.refl W, fun b hb => ⟨fun u e => by rw [upd_ne (fun z => m (by rw [← z]; exact hb))]; exact e, (h b hb).2⟩⟩
/-- a list changes -/
theorem Foc.lst (A : At i W H σ ρ) (f : Foc i W H σ ρ s p (.lst us) v) : ∃ a vs fq, v = .ref a ∧ H a = some (.lst vs) ∧ W.F a = none ∧ ¬ W.G a ∧ RUs W H vs us fq ∧ fq.Nodup ∧ (∀ b ∈ fq, Nod W H b) ∧ a ∉ fq ∧
    ∀ {vs' : List V} {us' : List U} {g : List Addr}, RUs W (upd H a (.lst vs')) vs' us' g → g.Nodup → (∀ b ∈ g, b ∈ fq) → At i W (upd H a (.lst vs')) σ (putU ρ s p (.lst us')) := by
  obtain ⟨f2, r, hz, nd, back⟩ := f.mut A
  cases r with
  | lst hh t ff gg =>
    rename_i a vs fq
    rw [List.nodup_cons] at nd
    refine ⟨a, vs, fq, rfl, hh, ff, gg, t, nd.2, t.nod, nd.1, fun {vs' us' g} rg ng sg => ?_⟩
    exact back (.lst upd_same rg ff gg) (List.nodup_cons.mpr ⟨fun z => nd.1 (sg a z), ng⟩) (fun b m => .inl ((List.mem_cons.mp m).elim (fun z => z ▸ List.mem_cons_self ..) fun z => List.mem_cons_of_mem _ (sg b z)))
      (fun b m => hz b ((List.mem_cons.mp m).elim (fun z => z ▸ List.mem_cons_self ..) fun z => List.mem_cons_of_mem _ (sg b z))) (go_upd A.rep.ok ⟨⟨_, hh, Dt.still_lst⟩, ff, gg⟩ (List.mem_cons_self ..))
/-- the attributes of an object change -/
theorem Foc.obj {C : Addr} {ks : List Str} (A : At i W H σ ρ) (f : Foc i W H σ ρ s p (.obj C ks us) v) : ∃ a dx vs fq, v = .ref a ∧ H a = some (.ins C dx (ks.zip vs)) ∧ ks.length = vs.length ∧ W.F a = none ∧ ¬ W.G a ∧ RUs W H vs us fq ∧ fq.Nodup ∧ (∀ b ∈ fq, Nod W H b) ∧ a ∉ fq ∧
    ∀ {dx' : Addr} {ks' : List Str} {vs' : List V} {us' : List U} {g : List Addr}, ks'.length = vs'.length → RUs W (upd H a (.ins C dx' (ks'.zip vs'))) vs' us' g → g.Nodup → (∀ b ∈ g, b ∈ fq) → At i W (upd H a (.ins C dx' (ks'.zip vs'))) σ (putU ρ s p (.obj C ks' us')) := by
  obtain ⟨f2, r, hz, nd, back⟩ := f.mut A
  cases r with
  | obj hh el t ff gg =>
    rename_i a dx vs fq
    rw [List.nodup_cons] at nd
    refine ⟨a, dx, vs, fq, rfl, hh, el, ff, gg, t, nd.2, t.nod, nd.1, fun {dx' ks' vs' us' g} el' rg ng sg => ?_⟩
    exact back (.obj upd_same el' rg ff gg) (List.nodup_cons.mpr ⟨fun z => nd.1 (sg a z), ng⟩) (fun b m => .inl ((List.mem_cons.mp m).elim (fun z => z ▸ List.mem_cons_self ..) fun z => List.mem_cons_of_mem _ (sg b z)))
      (fun b m => hz b ((List.mem_cons.mp m).elim (fun z => z ▸ List.mem_cons_self ..) fun z => List.mem_cons_of_mem _ (sg b z))) (go_upd A.rep.ok ⟨⟨_, hh, Dt.still_ins⟩, ff, gg⟩ (List.mem_cons_self ..))
/-- a dict changes -/
theorem Foc.dct {w : World} {nk : Bool} {ks : List NestedKey} (A : At i W H σ ρ) (f : Foc i W H σ ρ s p (.dct w nk ks us) v) : (∃ a xs fq, nk = true ∧ v = .ref a ∧ H a = some (DN w a xs) ∧ xs.map (·.1) = ks ∧ VdA W (xs.map fun x => .ref x.2.1) (dOfA ks) ∧ W.F a = none ∧ ¬ W.G a ∧ RUs W H (xs.map (·.2.2)) us fq ∧ fq.Nodup ∧ (∀ b ∈ fq, Nod W H b) ∧ a ∉ fq ∧
      ∀ {xs' : List NX} {us' : List U} {g : List Addr}, VdA W (xs'.map fun x => .ref x.2.1) (dOfA (xs'.map (·.1))) → RUs W (upd H a (DN w a xs')) (xs'.map (·.2.2)) us' g → g.Nodup → (∀ b ∈ g, b ∈ fq) → At i W (upd H a (DN w a xs')) σ (putU ρ s p (.dct w true (xs'.map (·.1)) us'))) ∨
    ∃ a, ∃ xs : List (Key × V), ∃ fq, nk = false ∧ v = .ref a ∧ H a = some (.dK xs) ∧ xs.map (fun x => nkK x.1) = ks ∧ W.F a = none ∧ ¬ W.G a ∧ RUs W H (xs.map (·.2)) us fq ∧ fq.Nodup ∧ (∀ b ∈ fq, Nod W H b) ∧ a ∉ fq ∧
      ∀ {xs' : List (Key × V)} {us' : List U} {g : List Addr}, RUs W (upd H a (.dK xs')) (xs'.map (·.2)) us' g → g.Nodup → (∀ b ∈ g, b ∈ fq) → At i W (upd H a (.dK xs')) σ (putU ρ s p (.dct w false (xs'.map fun x => nkK x.1) us')) := by
  obtain ⟨f2, r, hz, nd, back⟩ := f.mut A
  cases r with
  | dctN hh ek d t ff gg =>
    rename_i a xs fq
    rw [List.nodup_cons] at nd
    refine .inl ⟨a, xs, fq, rfl, rfl, hh, ek, d, ff, gg, t, nd.2, t.nod, nd.1, fun {xs' us' g} d' rg ng sg => ?_⟩
    exact back (.dctN upd_same rfl d' rg ff gg) (List.nodup_cons.mpr ⟨fun z => nd.1 (sg a z), ng⟩) (fun b m => .inl ((List.mem_cons.mp m).elim (fun z => z ▸ List.mem_cons_self ..) fun z => List.mem_cons_of_mem _ (sg b z)))
      (fun b m => hz b ((List.mem_cons.mp m).elim (fun z => z ▸ List.mem_cons_self ..) fun z => List.mem_cons_of_mem _ (sg b z))) (go_upd A.rep.ok ⟨⟨_, hh, Dt.still_dn⟩, ff, gg⟩ (List.mem_cons_self ..))
  | dctK hh ek t ff gg =>
    rename_i a xs fq
    rw [List.nodup_cons] at nd
    refine .inr ⟨a, xs, fq, rfl, rfl, hh, ek, ff, gg, t, nd.2, t.nod, nd.1, fun {xs' us' g} rg ng sg => ?_⟩
    exact back (.dctK upd_same rfl rg ff gg) (List.nodup_cons.mpr ⟨fun z => nd.1 (sg a z), ng⟩) (fun b m => .inl ((List.mem_cons.mp m).elim (fun z => z ▸ List.mem_cons_self ..) fun z => List.mem_cons_of_mem _ (sg b z)))
      (fun b m => hz b ((List.mem_cons.mp m).elim (fun z => z ▸ List.mem_cons_self ..) fun z => List.mem_cons_of_mem _ (sg b z))) (go_upd A.rep.ok ⟨⟨_, hh, Dt.still_dK⟩, ff, gg⟩ (List.mem_cons_self ..))
end
end Et
set_option Elab.async false
set_option linter.all false
set_option maxRecDepth 100000
set_option maxHeartbeats 4000000
namespace Et
open PySem PySem.Spec PyProof.Rows L2 Com Nd
open Dt (D Wd Vd VdA Le Ok Go Kv Ka Kb Kx KD XD SpD spOf SimR SimU SimC SimSl SimE SimT SimA SimO SimI SimN SimIp ItD En toPy toPyA dOf dOfA nkK fEq fIn)
variable [Dt.Tb]
section
variable {E : XK} {te ta ti to : TE} {me ma mi : CE} {mp : CP} {K : PySem.W.Frag} {w : World} {ws : List Nat}
mutual
/-- a key that stands, as data -/
theorem vd_key {W : Wd} : ∀ {v : V} {d : D} {k : NestedKey}, Vd W v d → nkOf d = some k → Vd W v (dOf k)
  | _, _, _, .non, e => by rw [nkOf] at e; cases e; rw [dOf]; exact .non
  | _, _, _, .bl _, e => by rw [nkOf] at e; cases e; all_goals (intros; rename_i z; cases z)
  | _, _, _, .int i, e => by rw [nkOf] at e; cases e; rw [dOf]; exact .int i
  | _, _, _, .str s, e => by rw [nkOf] at e; cases e; rw [dOf]; exact .str s
  | _, _, _, .tup (ds := ds) h t, e => by
    rw [nkOf] at e
    cases q : nkOfA ds with
    | none => rw [q] at e; cases e
    | some ks => rw [q] at e; cases e; rw [dOf]; exact .tup h (vd_keyA t q)
  | _, _, _, .lst _ _, e => by rw [nkOf] at e; cases e; all_goals (intros; rename_i z; cases z)
  | _, _, _, .obj _ _ _, e => by rw [nkOf] at e; cases e; all_goals (intros; rename_i z; cases z)
  | _, _, _, .flow _ _, e => by rw [nkOf] at e; cases e; all_goals (intros; rename_i z; cases z)
  | _, _, _, .scr _, e => by rw [nkOf] at e; cases e; all_goals (intros; rename_i z; cases z)
  | _, _, _, .dict0 _, e => by rw [nkOf] at e; cases e; all_goals (intros; rename_i z; cases z)
  | _, _, _, .dctN _ _ _ _, e => by rw [nkOf] at e; cases e; all_goals (intros; rename_i z; cases z)
  | _, _, _, .dctK _ _ _, e => by rw [nkOf] at e; cases e; all_goals (intros; rename_i z; cases z)
  | _, _, _, .vry h, e => by rw [nkOf] at e; exact vd_key h e
theorem vd_keyA {W : Wd} : ∀ {vs : List V} {ds : List D} {ks : List NestedKey}, VdA W vs ds → nkOfA ds = some ks → VdA W vs (dOfA ks)
  | _, _, _, .nil, e => by rw [nkOfA] at e; cases e; rw [dOfA]; exact .nil
  | _, _, _, .cons (d := d) (ds := ds) h t, e => by
    rw [nkOfA] at e
    cases q : nkOf d with
    | none => rw [q] at e; cases e
    | some k =>
      cases q2 : nkOfA ds with
      | none => rw [q, q2] at e; cases e
      | some ks => rw [q, q2] at e; cases e; rw [dOfA]; exact .cons (vd_key h q) (vd_keyA t q2)
end
def putKs (j : NestedKey) (ks : List NestedKey) : List NestedKey := if j ∈ ks then ks else ks ++ [j]
def repl {α : Type} (j : NestedKey) (u : α) : List NestedKey → List α → List α
  | k :: ks, x :: us => (if k = j then u else x) :: repl j u ks us
  | _, _ => []
def putVs {α : Type} (j : NestedKey) (u : α) (ks : List NestedKey) (us : List α) : List α := if j ∈ ks then repl j u ks us else us ++ [u]
def keyOk (nb : Bool) (k : D) (q : NestedKey → Prop) : Prop := match nb, nkOf k with
  | true, some (.tup t) => (NestedKey.tup t).depth ≤ 8 ∧ q (.tup t)
  | false, some (.num i) => q (.num i)
  | false, some (.text i) => q (.text i)
  | _, _ => False
theorem put_keys (xs : List NX) (j : NestedKey) (b : Addr) (v : V) : (putN xs j b v).map (·.1) = putKs j (xs.map (·.1)) ∧ (putN xs j b v).map (·.2.2) = putVs j v (xs.map (·.1)) (xs.map (·.2.2)) ∧ (putN xs j b v).map (fun x => V.ref x.2.1) = if j ∈ xs.map (·.1) then xs.map (fun x => V.ref x.2.1) else xs.map (fun x => V.ref x.2.1) ++ [.ref b] := by
  unfold putN putKs putVs
  rw [lkN_isSome]
  by_cases c : j ∈ xs.map (·.1)
  · rw [decide_eq_true c, if_pos rfl, if_pos c, if_pos c, if_pos c]
    clear c
    induction xs with
    | nil => exact ⟨rfl, rfl, rfl⟩
    | cons x xs ih =>
      obtain ⟨a, b, c⟩ := ih
      simp only [List.map_cons, repl]
      rw [a, b, c]
      by_cases c : x.1 = j <;> simp [c]
  · rw [decide_eq_false c, if_neg (by decide), if_neg c, if_neg c, if_neg c]
    simp
theorem dofA_app : ∀ (a b : List NestedKey), dOfA (a ++ b) = dOfA a ++ dOfA b
  | [], b => by rw [List.nil_append, dOfA, List.nil_append]
  | k :: a, b => by rw [List.cons_append, dOfA, dOfA, dofA_app a b, List.cons_append]
end
section
variable {E : XK} {te ta ti to : TE} {me ma mi : CE} {mp : CP} {K : PySem.W.Frag} {w : World} {ws : List Nat}
def putFs (f : Str) : List Str → List Str
  | [] => [f]
  | k :: ks => if k = f then k :: ks else k :: putFs f ks
def putFv {α : Type} (f : Str) (u : α) : List Str → List α → List α
  | k :: ks, x :: us => if k = f then u :: us else x :: putFv f u ks us
  | _, _ => [u]
theorem putF_zip {f : Str} {v : V} : ∀ {ks : List Str} {vs : List V}, ks.length = vs.length → putF f v (ks.zip vs) = (putFs f ks).zip (putFv f v ks vs) ∧ (putFs f ks).length = (putFv f v ks vs).length ∧ (putFs f ks).length ≤ ks.length + 1
  | [], [], _ => ⟨rfl, rfl, Nat.le_refl _⟩
  | k :: ks, x :: vs, h => by
    obtain ⟨a, b, c⟩ := putF_zip (f := f) (v := v) (ks := ks) (vs := vs) (by simpa using h)
    rw [List.zip_cons_cons, putF, putFs, putFv]
    by_cases e : k = f
    · rw [if_pos e, if_pos e, if_pos e, List.zip_cons_cons]
      exact ⟨rfl, by simpa using h, by rw [List.length_cons]; omega⟩
    · rw [if_neg e, if_neg e, if_neg e, List.zip_cons_cons, a]
      exact ⟨rfl, by rw [List.length_cons, List.length_cons, b], by rw [List.length_cons, List.length_cons]; omega⟩
theorem RUs.putFU {W : Wd} {H : Hp} {f : Str} {v : V} {u : U} {g0 : List Addr} (h : RU W H v u g0) : ∀ {ks : List Str} {vs : List V} {us : List U} {fq : List Addr}, RUs W H vs us fq → ks.length = vs.length → fq.Nodup → g0.Nodup → (∀ a ∈ g0, a ∉ fq) → ∃ g, RUs W H (putFv f v ks vs) (putFv f u ks us) g ∧ g.Nodup ∧ ∀ b ∈ g, b ∈ fq ∨ b ∈ g0
  | [], _, _, _, .nil, _, _, n0, _ => ⟨g0, .one h, n0, fun _ m => .inr m⟩
  | k :: ks, _, _, _, .cons (fp := fp) (fq := fq) r t, l, nd, n0, dis => by
    unfold putFv
    rw [List.nodup_append] at nd
    by_cases c : k = f
    · rw [if_pos c, if_pos c]
      refine ⟨g0 ++ fq, .cons h t, ?_, fun b m => (List.mem_append.mp m).elim .inr fun m => .inl (List.mem_append_right _ m)⟩
      rw [List.nodup_append]
      exact ⟨n0, nd.2.1, fun a ha b hb z => dis a ha (List.mem_append_right _ (z ▸ hb))⟩
    · rw [if_neg c, if_neg c]
      obtain ⟨g, r2, n2, s2⟩ := RUs.putFU h t (by simpa using l) nd.2.1 n0 fun a m z => dis a m (List.mem_append_right _ z)
      refine ⟨fp ++ g, .cons r r2, ?_, fun b m => (List.mem_append.mp m).elim (fun m => .inl (List.mem_append_left _ m)) fun m => (s2 b m).imp (List.mem_append_right _) id⟩
      rw [List.nodup_append]
      refine ⟨nd.1, n2, fun a ha b hb z => ?_⟩
      rcases s2 b hb with m | m
      · exact nd.2.2 a ha b m z
      · exact dis b m (List.mem_append_left _ (z ▸ ha))
def fldQ (C : Addr) (f : Str) (ρ : Ev) (s : Nat) (pth : List Nat) (t : U) (y : U) (q : Ev → Prop) : Prop := match t with
  | .obj C' ks us => C' = C ∧ ks.length < 900 ∧ q (putU ρ s pth (.obj C' (putFs f ks) (putFv f y ks us)))
  | _ => False
theorem fld_run {i : In0} {W : Wd} {H : Hp} {σ : L2.St} {ρ : Ev} {s : Nat} {pth : List Nat} {t : U} {o v : V} {y : D} {C : Addr} {f : Str} {q : Ev → Prop} {D : L2.St → Hp → Prop} (cl : Cls K C) (na : NoAttr K C f) (A : At i W H σ ρ) (fo : Foc i W H σ ρ s pth t o) (hv : Vd W v y) (h : fldQ C f ρ s pth t (.d y) q)
    (n : ∀ H' ρ', At i W H' σ ρ' → q ρ' → D σ H') : ∃ a C dx fs, o = .ref a ∧ H a = some (.ins C dx fs) ∧ Cls K C ∧ NoAttr K C f ∧ fs.length < 1000 ∧ D σ (upd H a (.ins C dx (putF f v fs))) := by
  cases t with
  | obj C' ks us =>
    obtain ⟨rfl, hl, h⟩ := h
    obtain ⟨a, dx, vs, fq, rfl, hh, el, _, _, t', nd, _, na', back⟩ := fo.obj A
    obtain ⟨p1, p2, p3⟩ := putF_zip (f := f) (v := v) el
    refine ⟨a, C', dx, _, rfl, hh, cl, na, by rw [List.length_zip]; omega, ?_⟩
    rw [p1]
    obtain ⟨g, r, ng, sg⟩ := RUs.putFU (f := f) (ks := ks) (RU.d (H := H) hv) t' el nd .nil (fun _ m => nomatch m)
    have sg : ∀ b ∈ g, b ∈ fq := fun b m => (sg b m).elim id fun z => nomatch z
    exact n _ _ (back p2 (r.stay (keep_upd r.nod fun z => na' (sg _ z))) ng sg) h
  | _ => exact h.elim
abbrev sFld (C : Addr) (f : Str) (p : CP) (a : CE) : CS := fun d ρ e => a ρ (fun y => onD y fun y => p ρ (fun s pth t => fldQ C f ρ s pth t (.d y) d.nx) (xat e ρ)) (xat e ρ)
theorem s_fld {C : Addr} {f : Str} (cl : Cls K C) (na : NoAttr K C f) (hp : SP E to mp) (ha : SE E te me) : SS ws E (L2.sFld K to te f) (sFld C f mp me) := fun i W H σ ρ D d e hw A h c kx =>
  ha W i.Z H σ ρ _ _ _ A.rep h (fun W1 v uv fv H1 g1 rv h1 => by
    obtain ⟨y, rfl, hv, h1⟩ := onD_of rv h1
    have A1 := A.pure g1
    refine hp i W1 H1 σ ρ _ _ _ A1 h1 (fun W2 H2 s p t o g2 fo h2 => ?_) ((kx.up g1.le).kx A1)
    exact fld_run cl na (A1.pure g2) fo (hv.mono g2.le) h2 fun H' ρ' A' h' => c.nx W2 H' σ ρ' (g1.le.trans g2.le) A' h') (kx.kx A)
end
end Et
set_option Elab.async false
set_option linter.all false
set_option maxRecDepth 100000
set_option maxHeartbeats 4000000
namespace Et
open PySem PySem.Spec PyProof.Rows L2 Com Nd
open Dt (D Wd Vd VdA Le Ok Go Kv Ka Kb Kx KD XD SpD spOf SimR SimU SimC SimSl SimE SimT SimA SimO SimI SimN SimIp ItD En toPy toPyA dOf dOfA nkK fEq fIn)
variable [Dt.Tb]
abbrev CX := Ev → (D → Ev → Prop) → XU → Prop
def KxX (i : In0) (W : Wd) (σ : L2.St) (E : XK) (e : XU) : Prop := ∀ W' H' ρ' C dx f v d, Le W W' → At i W' H' σ ρ' → H' dx = some (.xd [(f, v)]) → Vd W' v d → e C f d ρ' → E (.ref C) (some dx) H'
theorem KxX.up {i : In0} {W W1 : Wd} {σ : L2.St} {E : XK} {e : XU} (h : KxX i W σ E e) (l : Le W W1) : KxX i W1 σ E e := fun W' H' ρ' C dx f v d l1 => h W' H' ρ' C dx f v d (l.trans l1)
theorem KxX.kx {i : In0} {W : Wd} {H : Hp} {σ : L2.St} {ρ : Ev} {E : XK} {e : XU} (h : KxX i W σ E e) (A : At i W H σ ρ) : Kx W H E (xat e ρ) := fun W' H' C dx f v d g e1 hv h1 => h W' H' ρ C dx f v d g.le (A.pure g) e1 hv h1
theorem KxS.x {i : In0} {W : Wd} {σ : L2.St} {E : XK} {e : XU} (h : KxS i W E e) : KxX i W σ E e := fun W' H' ρ' => h W' H' σ ρ'
abbrev SpU := List U → (U → List U → Prop) → (Addr → Str → D → List U → Prop) → Prop
def spU (sp : SpU) : Sp := fun vs H Q E => ∃ W us fp q e, Ok W H ∧ RUs W H vs us fp ∧ fp.Nodup ∧ sp us q e ∧
  (∀ W' H' v u f0 us' fp', GoB (fun a => a ∈ fp) W H W' H' → RU W' H' v u f0 → RUs W' H' vs us' fp' → (f0 ++ fp').Nodup → (∀ a ∈ f0 ++ fp', a ∈ fp ∨ H a = none) → q u us' → Q v H') ∧
  ∀ W' H' C dx f v d us' fp', GoB (fun a => a ∈ fp) W H W' H' → H' dx = some (.xd [(f, v)]) → Vd W' v d → RUs W' H' vs us' fp' → fp'.Nodup → (∀ a ∈ fp', a ∈ fp ∨ H a = none) → e C f d us' → E (.ref C) (some dx) H'
end Et
set_option Elab.async false
set_option linter.all false
set_option maxRecDepth 100000
set_option maxHeartbeats 4000000
namespace Et
open PySem PySem.Spec PyProof.Rows L2 Com Nd
open Dt (D Wd Vd VdA Le Ok Go Kv Ka Kb Kx KD XD SpD spOf SimR SimU SimC SimSl SimE SimT SimA SimO SimI SimN SimIp ItD En toPy toPyA dOf dOfA nkK fEq fIn)
variable [Dt.Tb]
abbrev CNU := Ev → (U → Prop) → XD → Prop
abbrev CAU := Ev → (List U → Prop) → XD → Prop
section
variable {i : In0} {W W1 W2 W' : Wd} {H H1 H2 H' : Hp} {σ : L2.St} {ρ : Ev} {v : V} {u : U} {f0 : List Addr} {Z Z' : Addr → Prop} {E : XK} {e : XD}
theorem GoB.go (g : GoB (fun _ => False) W H W' H') : Go W H W' H' := ⟨g.le, g.gn, fun a o h => (g.fn a o h).imp id fun z => z.imp id fun z => z.elim id fun z => z.elim, fun b o e n => g.p b o e n fun z => z, g.ok⟩
theorem Rep.sub (R : Rep W Z H σ ρ) (h : ∀ a, Z a → Nod W H a → Z' a) : Rep W Z' H σ ρ := by
  obtain ⟨fp, h1, h2, h3⟩ := R.ex
  exact ⟨R.ok, R.len, fp, h1, fun k => ⟨(h2 k).1, fun a m => h a ((h2 k).2.1 a m) ((h2 k).2.2 a m), (h2 k).2.2⟩, h3⟩
end
section
variable {E : XK} {te ta tb ti to : TE} {aa : TA} {na : CA} {ma : CA} {n : Nat} {me : CE} {mn : CNU} {mu : CAU} {mp : CP} {K : PySem.W.Frag} {w : World} {ws : List Nat} {sp : SpU} {C : Addr}
/-- the start without what is new -/
def In0.cut (i : In0) (W : Wd) (H : Hp) (f0 : List Addr) : In0 := ⟨W, H, fun a => i.Z a ∧ a ∉ f0, i.s0, i.ws⟩
theorem At.cut {i : In0} {W W' : Wd} {H H' : Hp} {σ : L2.St} {ρ : Ev} {f0 : List Addr} (A : At i W H σ ρ) (g : GoB (fun _ => False) W H W' H') (nw : ∀ a ∈ f0, H a = none) : At (i.cut W' H' f0) W' H' σ ρ := by
  have R : Rep W (fun a => i.Z a ∧ a ∉ f0) H σ ρ := A.rep.sub fun a z n => ⟨z, fun m => by
    obtain ⟨⟨o, e, _⟩, _⟩ := n
    rw [nw a m] at e; cases e⟩
  refine ⟨g.ok, .refl g.ok, (R.go g fun _ z => z.elim).sub fun a z _ => .inl z, A.un⟩
end
end Et
set_option Elab.async false
set_option linter.all false
set_option maxRecDepth 100000
set_option maxHeartbeats 4000000
namespace Et
open PySem PySem.Spec PyProof.Rows L2 Com Nd
open Dt (D Wd Vd VdA Le Ok Go Kv Ka Kb Kx KD XD SpD spOf SimR SimU SimC SimSl SimE SimT SimA SimO SimI SimN SimIp ItD En toPy toPyA dOf dOfA nkK fEq fIn)
variable [Dt.Tb]
def startU (N : List Str) (us : List U) : Ev := us.map some ++ List.replicate (N.length - us.length) none
theorem start_getU {N : List Str} {us : List U} {k : Nat} {u : U} (h : (startU N us)[k]? = some (some u)) : us[k]? = some u := by
  unfold startU at h
  by_cases lt : k < (us.map some).length
  · rw [List.getElem?_append_left lt, List.getElem?_map] at h
    cases q : us[k]? with
    | none => rw [q] at h; cases h
    | some d => rw [q] at h; cases h; rfl
  · rw [List.getElem?_append_right (by omega)] at h
    have := List.mem_of_getElem? h
    cases (List.mem_replicate.mp this).2
theorem start_getV {N : List Str} {vs : List V} {k : Nat} {v : V} (h : vs[k]? = some v) : (L2.start N vs)[k]? = some (some v) := by
  unfold L2.start
  have := (List.getElem?_eq_some_iff.mp h).1
  rw [List.getElem?_append_left (by simpa using this), List.getElem?_map, h]
  rfl
theorem RUs.fps {W : Wd} {H : Hp} : ∀ {vs : List V} {us : List U} {fp : List Addr}, RUs W H vs us fp → fp.Nodup → ∃ f : Nat → List Addr, (∀ n u, us[n]? = some u → ∃ v, vs[n]? = some v ∧ RU W H v u (f n)) ∧ (∀ n, (f n).Nodup ∧ ∀ a ∈ f n, a ∈ fp) ∧ ∀ i j a, i ≠ j → a ∈ f i → a ∈ f j → False
  | _, _, _, .nil, _ => ⟨fun _ => [], fun n u h => by simp at h, fun _ => ⟨.nil, fun _ m => nomatch m⟩, fun _ _ _ _ m => nomatch m⟩
  | _, _, _, .cons (fp := fp) (fq := fq) r t, nd => by
    rw [List.nodup_append] at nd
    obtain ⟨f, h1, h2, h3⟩ := RUs.fps t nd.2.1
    refine ⟨fun n => match n with | 0 => fp | n + 1 => f n, fun n u h => ?_, fun n => ?_, fun i j a n m1 m2 => ?_⟩
    · cases n with
      | zero => cases h; exact ⟨_, rfl, r⟩
      | succ n => exact h1 n u (by simpa using h)
    · cases n with
      | zero => exact ⟨nd.1, fun a m => List.mem_append_left _ m⟩
      | succ n => exact ⟨(h2 n).1, fun a m => List.mem_append_right _ ((h2 n).2 a m)⟩
    · cases i with
      | zero =>
        cases j with
        | zero => exact n rfl
        | succ j => exact nd.2.2 a m1 a ((h2 j).2 a m2) rfl
      | succ i =>
        cases j with
        | zero => exact nd.2.2 a m2 a ((h2 i).2 a m1) rfl
        | succ j => exact h3 i j a (fun z => n (by rw [z])) m1 m2
theorem rep_startU {W : Wd} {H : Hp} {N : List Str} {vs : List V} {us : List U} {fp : List Addr} (k : Ok W H) (r : RUs W H vs us fp) (nd : fp.Nodup) : Rep W (fun a => a ∈ fp ∨ H a = none) H (L2.start N vs) (startU N us) := by
  obtain ⟨f, h1, h2, h3⟩ := r.fps nd
  refine ⟨k, by unfold L2.start startU; simp [r.len], f, fun n u h => ?_, fun n => ⟨(h2 n).1, fun a m => .inl ((h2 n).2 a m), fun a m => r.nod a ((h2 n).2 a m)⟩, h3⟩
  obtain ⟨v, e, ru⟩ := h1 n u (start_getU h)
  exact ⟨v, start_getV e, ru⟩
/-- the arguments as they are at the end -/
def back (ws : List Nat) : List U → Nat → Ev → Option (List U)
  | [], _, _ => some []
  | .d x :: us, k, ρ => match back ws us (k + 1) ρ with
    | some r => some (.d x :: r)
    | none => none
  | _ :: us, k, ρ => match ws.contains k, ρ[k]? with
    | false, some (some u) => (match back ws us (k + 1) ρ with
      | some r => some (u :: r)
      | none => none)
    | _, _ => none
theorem back_rus {W W' : Wd} {H H' : Hp} {ws : List Nat} {s0 σ : L2.St} {ρ : Ev} {f : Nat → List Addr} (l : Le W W') (h1 : ∀ j u, ρ[j]? = some (some u) → ∃ v, σ[j]? = some (some v) ∧ RU W' H' v u (f j)) (h2 : ∀ j, (f j).Nodup) (h3 : ∀ i j a, i ≠ j → a ∈ f i → a ∈ f j → False) (un : ∀ k : Nat, k ∉ ws → σ[k]? = s0[k]?) :
    ∀ {vs : List V} {us : List U} {fp : List Addr} (k : Nat) (us' : List U), RUs W H vs us fp → (∀ n v, vs[n]? = some v → s0[k + n]? = some (some v)) → back ws us k ρ = some us' → ∃ fp', RUs W' H' vs us' fp' ∧ fp'.Nodup ∧ ∀ a ∈ fp', ∃ j, k ≤ j ∧ a ∈ f j
  | _, _, _, k, us', .nil, _, e => by
    rw [back] at e
    cases e
    exact ⟨[], .nil, .nil, fun _ m => nomatch m⟩
  | v :: vs, u :: us, _, k, us', .cons (fp := fp1) r t, hs, e => by
    have hs' : ∀ n v, vs[n]? = some v → s0[k + 1 + n]? = some (some v) := fun n v q => by
      have := hs (n + 1) v (by simpa using q)
      rwa [show k + 1 + n = k + (n + 1) by omega]
    have own : (match ws.contains k, ρ[k]? with
        | false, some (some u) => (match back ws us (k + 1) ρ with
          | some r => some (u :: r)
          | none => none)
        | _, _ => none) = some us' → ∃ fp', RUs W' H' (v :: vs) us' fp' ∧ fp'.Nodup ∧ ∀ a ∈ fp', ∃ j, k ≤ j ∧ a ∈ f j := fun e => by
      split at e
      · rename_i u' c1 c2
        cases q : back ws us (k + 1) ρ with
        | none => rw [q] at e; cases e
        | some rr =>
          rw [q] at e
          cases e
          obtain ⟨fq, r2, n2, s2⟩ := back_rus l h1 h2 h3 un (k + 1) rr t hs' q
          obtain ⟨v', e1, ru⟩ := h1 k u' c2
          have nk : k ∉ ws := fun z => by rw [List.contains_iff_mem.mpr z] at c1; cases c1
          rw [un k nk] at e1
          have := hs 0 v rfl
          rw [Nat.add_zero] at this
          rw [this] at e1
          cases e1
          refine ⟨f k ++ fq, .cons ru r2, ?_, fun a m => ?_⟩
          · rw [List.nodup_append]
            refine ⟨h2 k, n2, fun a ha b hb z => ?_⟩
            obtain ⟨j, hj, mj⟩ := s2 b hb
            exact h3 k j a (by omega) ha (z ▸ mj)
          · rcases List.mem_append.mp m with m | m
            · exact ⟨k, Nat.le_refl _, m⟩
            · obtain ⟨j, hj, mj⟩ := s2 a m
              exact ⟨j, by omega, mj⟩
      · cases e
    cases u with
    | d x =>
      rw [back] at e
      cases q : back ws us (k + 1) ρ with
      | none => rw [q] at e; cases e
      | some rr =>
        rw [q] at e
        cases e
        obtain ⟨fq, r2, n2, s2⟩ := back_rus l h1 h2 h3 un (k + 1) rr t hs' q
        cases r with
        | d hv =>
          refine ⟨fq, ?_, n2, fun a m => ?_⟩
          · have := RUs.cons (RU.d (H := H') (hv.mono l)) r2
            simpa using this
          · obtain ⟨j, hj, mj⟩ := s2 a m
            exact ⟨j, by omega, mj⟩
    | lst _ => rw [back] at e; exact own e; all_goals (intros; rename_i z; cases z)
    | obj _ _ _ => rw [back] at e; exact own e; all_goals (intros; rename_i z; cases z)
    | dct _ _ _ _ => rw [back] at e; exact own e; all_goals (intros; rename_i z; cases z)
abbrev onBack (ws : List Nat) (us : List U) (ρ : Ev) (k : List U → Prop) : Prop := match back ws us 0 ρ with
  | some us' => k us'
  | none => False
def endU (ws : List Nat) (us : List U) (q : U → List U → Prop) : EndsU := ⟨fun ρ => onBack ws us ρ (q (.d .non)), fun u ρ => onBack ws us ρ (q u), fun _ => False, fun _ => False⟩
abbrev xendU (ws : List Nat) (us : List U) (e : Addr → Str → D → List U → Prop) : XU := fun C f d ρ => onBack ws us ρ (e C f d)
theorem body_runU {W : Wd} {H : Hp} {vs : List V} {us : List U} {fp : List Addr} {N : List Str} {ws : List Nat} {E : XK} {t : TS} {m : CS} {q : U → List U → Prop} {e : Addr → Str → D → List U → Prop} {Q : VK} (sm : SS ws E t m) (k0 : Ok W H) (r : RUs W H vs us fp) (nd : fp.Nodup) (hm : m (endU ws us q) (startU N us) (xendU ws us e))
    (kq : ∀ W' H' v u f0 us' fp', GoB (fun a => a ∈ fp) W H W' H' → RU W' H' v u f0 → RUs W' H' vs us' fp' → (f0 ++ fp').Nodup → (∀ a ∈ f0 ++ fp', a ∈ fp ∨ H a = none) → q u us' → Q v H')
    (kx : ∀ W' H' C dx f v d us' fp', GoB (fun a => a ∈ fp) W H W' H' → H' dx = some (.xd [(f, v)]) → Vd W' v d → RUs W' H' vs us' fp' → fp'.Nodup → (∀ a ∈ fp', a ∈ fp ∨ H a = none) → e C f d us' → E (.ref C) (some dx) H')
    (D : Ends) (h1 : D.nx = fun _ H' => Q .non H') (h2 : D.rt = Q) : t D (L2.start N vs) H := by
  refine sm ⟨W, H, fun a => a ∈ fp, L2.start N vs, ws⟩ W H _ _ D (endU ws us q) (xendU ws us e) rfl ⟨k0, .refl k0, rep_startU k0 r nd, fun _ _ => rfl⟩ hm ⟨fun W' H' σ' ρ' l A hn => ?_, fun W' H' σ' ρ' v u l N' hr => ?_, fun _ _ _ _ _ _ h => h.elim, fun _ _ _ _ _ _ h => h.elim⟩ fun W' H' σ' ρ' C dx f v d l A e1 hv he => ?_
  · rw [h1]
    have hn : onBack ws us ρ' (q (.d .non)) := hn
    unfold onBack at hn
    split at hn
    · rename_i us' e1
      obtain ⟨f, g1, g2, g3⟩ := A.rep.ex
      obtain ⟨fp', r', n', s'⟩ := back_rus l g1 (fun j => (g2 j).1) g3 A.un 0 us' r (fun n v e => by rw [Nat.zero_add]; exact start_getV e) e1
      exact kq W' H' .non (.d .non) [] us' fp' A.go (.d .non) r' n' (fun a m => by obtain ⟨j, _, mj⟩ := s' a m; exact (g2 j).2.1 a mj) hn
    · exact hn.elim
  · rw [h2]
    have hr : onBack ws us ρ' (q u) := hr
    unfold onBack at hr
    split at hr
    · rename_i us' e1
      obtain ⟨f, f0, t1, t2, t3, g1, g2, g3, g4⟩ := N'.tree
      obtain ⟨fp', r', n', s'⟩ := back_rus l g1 (fun j => (g2 j).1) g3 N'.un 0 us' r (fun n v e => by rw [Nat.zero_add]; exact start_getV e) e1
      refine kq W' H' v u f0 us' fp' N'.go t1 r' ?_ (fun a m => ?_) hr
      · rw [List.nodup_append]
        refine ⟨t2, n', fun a ha b hb z => ?_⟩
        obtain ⟨j, _, mj⟩ := s' b hb
        exact g4 j a ha (z ▸ mj)
      · rcases List.mem_append.mp m with m | m
        · exact t3 a m
        · obtain ⟨j, _, mj⟩ := s' a m
          exact (g2 j).2.1 a mj
    · exact hr.elim
  · have he : onBack ws us ρ' (e C f d) := he
    unfold onBack at he
    split at he
    · rename_i us' e2
      obtain ⟨f', g1, g2, g3⟩ := A.rep.ex
      obtain ⟨fp', r', n', s'⟩ := back_rus l g1 (fun j => (g2 j).1) g3 A.un 0 us' r (fun n v e => by rw [Nat.zero_add]; exact start_getV e) e2
      exact kx W' H' C dx f v d us' fp' A.go e1 hv r' n' (fun a m => by obtain ⟨j, _, mj⟩ := s' a m; exact (g2 j).2.1 a mj) he
    · exact he.elim
/-- a body over states, for a promise over data alone -/
def endE (q : KD) : EndsU := ⟨fun _ => q .non, fun u _ => onD u q, fun _ => False, fun _ => False⟩
abbrev xendE (e : XD) : XU := fun C f d _ => e C f d
theorem body_runE {W : Wd} {H : Hp} {vs : List V} {ds : List D} {N : List Str} {ws : List Nat} {E : XK} {t : TS} {m : CS} {q : KD} {e : XD} {Q : VK} (sm : SS ws E t m) (k0 : Ok W H) (r : VdA W vs ds) (hm : m (endE q) (startU N (ds.map .d)) (xendE e)) (kq : Kv W H Q q) (kx : Kx W H E e)
    (D : Ends) (h1 : D.nx = fun _ H' => Q .non H') (h2 : D.rt = Q) : t D (L2.start N vs) H := by
  refine sm ⟨W, H, fun _ => False, L2.start N vs, ws⟩ W H _ _ D (endE q) (xendE e) rfl ⟨k0, .refl k0, (rep_startU k0 (RUs.ofVdA (H := H) r) .nil).sub fun a z _ => z.elim (fun z => nomatch z) .inr, fun _ _ => rfl⟩ hm ⟨fun W' H' σ' ρ' l A hn => ?_, fun W' H' σ' ρ' v u l N' hr => ?_, fun _ _ _ _ _ _ h => h.elim, fun _ _ _ _ _ _ h => h.elim⟩ fun W' H' σ' ρ' C dx f v d l A e1 hv he => ?_
  · rw [h1]
    exact kq W' _ _ H' (GoB.go A.go) .non hn
  · rw [h2]
    obtain ⟨f, f0, t1, _⟩ := N'.tree
    obtain ⟨x, rfl, hv, hq⟩ := onD_of t1 hr
    exact kq W' v x H' (GoB.go N'.go) hv hq
  · exact kx W' H' C dx f v d (GoB.go A.go) e1 hv he
section
variable {P : Program} {w : World} {K : PySem.W.Frag} {mg : Str → Option Value} {base : Heap} {x qual : Str} {C : Addr} {st : Stmt} {ps N : List Str} {k : Nat} {sp : SpU} {sd : SpD} {ws : List Nat}
theorem DefAtU.ok (ws : List Nat) (D : DefAt K mg x st ps) (S : FnScope N ps (defScope st)) (len : ∀ us q e, sp us q e → us.length = ps.length)
    (hbody : ∀ (f : Addr) (cdv : Value) (A : Around) (outer : List Env) (s : Shared) (H : Hp) (E : XK), Room k (A.deeper (envOfC x (defScope st) s.heap.objs.size f cdv)) →
      ∃ t m, PSs (cxOf CX0 P w K mg base N x (defScope st) f cdv A outer s H E).nox (defBody st) t ∧ SS ws E t m ∧ ∀ us q e, sp us q e → m (endU ws us q) (startU N us) (xendU ws us e)) : DefOk P w K mg base CX0 (k + 1) x (spU sp) := by
  refine D.ok S (fun vs H Q E h => ?_) (fun f cdv A outer s H vs Q E hr h => ?_)
  · obtain ⟨W, us, fp, q, e, k0, r, nd, h, _⟩ := h
    rw [r.len, len us q e h]
  obtain ⟨W, us, fp, q, e, k0, r, nd, h, kq, kx⟩ := h
  obtain ⟨t', m, p, sm, hm⟩ := hbody f cdv A outer s H E hr
  exact ⟨t', p, body_runU sm k0 r nd (hm us q e h) kq kx _ rfl rfl⟩
theorem MethAtU.ok (ws : List Nat) (D : MethAt K C x qual st ps) (S : FnScope N ps (defScope st)) (len : ∀ us q e, sp us q e → us.length = ps.length)
    (hbody : ∀ (f : Addr) (cdv : Value) (A : Around) (outer : List Env) (s : Shared) (H : Hp) (E : XK), Room k (A.deeper (envOfC qual (defScope st) s.heap.objs.size f cdv)) →
      ∃ t m, PSs (cxOf CX0 P w K mg base N qual (defScope st) f cdv A outer s H E).nox (defBody st) t ∧ SS ws E t m ∧ ∀ us q e, sp us q e → m (endU ws us q) (startU N us) (xendU ws us e)) : MethOk P w K mg base CX0 (k + 1) C x (spU sp) := by
  refine D.fn S (fun vs H Q E h => ?_) (fun f cdv A outer s H vs Q E hr h => ?_)
  · obtain ⟨W, us, fp, q, e, k0, r, nd, h, _⟩ := h
    rw [r.len, len us q e h]
  obtain ⟨W, us, fp, q, e, k0, r, nd, h, kq, kx⟩ := h
  obtain ⟨t', m, p, sm, hm⟩ := hbody f cdv A outer s H E hr
  exact ⟨t', p, body_runU sm k0 r nd (hm us q e h) kq kx _ rfl rfl⟩
theorem DefAtE.ok (ws : List Nat) (D : DefAt K mg x st ps) (S : FnScope N ps (defScope st)) (len : ∀ ds q e, sd ds q e → ds.length = ps.length)
    (hbody : ∀ (f : Addr) (cdv : Value) (A : Around) (outer : List Env) (s : Shared) (H : Hp) (E : XK), Room k (A.deeper (envOfC x (defScope st) s.heap.objs.size f cdv)) →
      ∃ t m, PSs (cxOf CX0 P w K mg base N x (defScope st) f cdv A outer s H E).nox (defBody st) t ∧ SS ws E t m ∧ ∀ ds q e, sd ds q e → m (endE q) (startU N (ds.map .d)) (xendE e)) : DefOk P w K mg base CX0 (k + 1) x (spOf sd) := by
  refine D.ok S (fun vs H Q E h => ?_) (fun f cdv A outer s H vs Q E hr h => ?_)
  · obtain ⟨W, ds, q, e, k0, t, h, _⟩ := h
    rw [t.length, len ds q e h]
  obtain ⟨W, ds, q, e, k0, t, h, kq, kx⟩ := h
  obtain ⟨t', m, p, sm, hm⟩ := hbody f cdv A outer s H E hr
  exact ⟨t', p, body_runE sm k0 t (hm ds q e h) kq kx _ rfl rfl⟩
theorem MethAtE.ok (ws : List Nat) (D : MethAt K C x qual st ps) (S : FnScope N ps (defScope st)) (len : ∀ ds q e, sd ds q e → ds.length = ps.length)
    (hbody : ∀ (f : Addr) (cdv : Value) (A : Around) (outer : List Env) (s : Shared) (H : Hp) (E : XK), Room k (A.deeper (envOfC qual (defScope st) s.heap.objs.size f cdv)) →
      ∃ t m, PSs (cxOf CX0 P w K mg base N qual (defScope st) f cdv A outer s H E).nox (defBody st) t ∧ SS ws E t m ∧ ∀ ds q e, sd ds q e → m (endE q) (startU N (ds.map .d)) (xendE e)) : MethOk P w K mg base CX0 (k + 1) C x (spOf sd) := by
  refine D.fn S (fun vs H Q E h => ?_) (fun f cdv A outer s H vs Q E hr h => ?_)
  · obtain ⟨W, ds, q, e, k0, t, h, _⟩ := h
    rw [t.length, len ds q e h]
  obtain ⟨W, ds, q, e, k0, t, h, kq, kx⟩ := h
  obtain ⟨t', m, p, sm, hm⟩ := hbody f cdv A outer s H E hr
  exact ⟨t', p, body_runE sm k0 t (hm ds q e h) kq kx _ rfl rfl⟩
theorem FunE.ok (ws : List Nat) {f : Addr} {fd : FuncData} (F : Fun K x qual st f fd) (S : FnScope N ps (defScope st)) (len : ∀ ds q e, sd ds q e → ds.length = ps.length)
    (hbody : ∀ (cdv : Value) (A : Around) (outer : List Env) (s : Shared) (H : Hp) (E : XK), Room k (A.deeper (envOfC qual (defScope st) s.heap.objs.size f cdv)) →
      ∃ t m, PSs (cxOf CX0 P w K mg base N qual (defScope st) f cdv A outer s H E).nox (defBody st) t ∧ SS ws E t m ∧ ∀ ds q e, sd ds q e → m (endE q) (startU N (ds.map .d)) (xendE e)) : FnOk P w K mg base CX0 (k + 1) f fd ps (spOf sd) := by
  refine F.ok S (fun vs H Q E h => ?_) (fun cdv A outer s H vs Q E hr h => ?_)
  · obtain ⟨W, ds, q, e, k0, t, h, _⟩ := h
    rw [t.length, len ds q e h]
  obtain ⟨W, ds, q, e, k0, t, h, kq, kx⟩ := h
  obtain ⟨t', m, p, sm, hm⟩ := hbody cdv A outer s H E hr
  exact ⟨t', p, body_runE sm k0 t (hm ds q e h) kq kx _ rfl rfl⟩
theorem FunU.ok (ws : List Nat) {f : Addr} {fd : FuncData} (F : Fun K x qual st f fd) (S : FnScope N ps (defScope st)) (len : ∀ us q e, sp us q e → us.length = ps.length)
    (hbody : ∀ (cdv : Value) (A : Around) (outer : List Env) (s : Shared) (H : Hp) (E : XK), Room k (A.deeper (envOfC qual (defScope st) s.heap.objs.size f cdv)) →
      ∃ t m, PSs (cxOf CX0 P w K mg base N qual (defScope st) f cdv A outer s H E).nox (defBody st) t ∧ SS ws E t m ∧ ∀ us q e, sp us q e → m (endU ws us q) (startU N us) (xendU ws us e)) : FnOk P w K mg base CX0 (k + 1) f fd ps (spU sp) := by
  refine F.ok S (fun vs H Q E h => ?_) (fun cdv A outer s H vs Q E hr h => ?_)
  · obtain ⟨W, us, fp, q, e, k0, r, nd, h, _⟩ := h
    rw [r.len, len us q e h]
  obtain ⟨W, us, fp, q, e, k0, r, nd, h, kq, kx⟩ := h
  obtain ⟨t', m, p, sm, hm⟩ := hbody cdv A outer s H E hr
  exact ⟨t', p, body_runU sm k0 r nd (hm us q e h) kq kx _ rfl rfl⟩
theorem DefAtUX.ok (ws : List Nat) (D : DefAt K mg x st ps) (S : FnScope N ps (defScope st)) (len : ∀ us q e, sp us q e → us.length = ps.length)
    (hbody : ∀ (f : Addr) (cdv : Value) (A : Around) (outer : List Env) (s : Shared) (H : Hp) (E : XK), Room k (A.deeper (envOfC x (defScope st) s.heap.objs.size f cdv)) →
      ∃ t m, PSs (cxOf (L2.CX P w) P w K mg base N x (defScope st) f cdv A outer s H E) (defBody st) t ∧ SS ws E t m ∧ ∀ us q e, sp us q e → m (endU ws us q) (startU N us) (xendU ws us e)) : DefOk P w K mg base (L2.CX P w) (k + 1) x (spU sp) := by
  refine D.okX S (fun vs H Q E h => ?_) (fun f cdv A outer s H vs Q E hr h => ?_)
  · obtain ⟨W, us, fp, q, e, k0, r, nd, h, _⟩ := h
    rw [r.len, len us q e h]
  obtain ⟨W, us, fp, q, e, k0, r, nd, h, kq, kx⟩ := h
  obtain ⟨t', m, p, sm, hm⟩ := hbody f cdv A outer s H E hr
  exact ⟨t', p, body_runU sm k0 r nd (hm us q e h) kq kx _ rfl rfl⟩
theorem MethAtUX.ok (ws : List Nat) (D : MethAt K C x qual st ps) (S : FnScope N ps (defScope st)) (len : ∀ us q e, sp us q e → us.length = ps.length)
    (hbody : ∀ (f : Addr) (cdv : Value) (A : Around) (outer : List Env) (s : Shared) (H : Hp) (E : XK), Room k (A.deeper (envOfC qual (defScope st) s.heap.objs.size f cdv)) →
      ∃ t m, PSs (cxOf (L2.CX P w) P w K mg base N qual (defScope st) f cdv A outer s H E) (defBody st) t ∧ SS ws E t m ∧ ∀ us q e, sp us q e → m (endU ws us q) (startU N us) (xendU ws us e)) : MethOk P w K mg base (L2.CX P w) (k + 1) C x (spU sp) := by
  refine D.fnX S (fun vs H Q E h => ?_) (fun f cdv A outer s H vs Q E hr h => ?_)
  · obtain ⟨W, us, fp, q, e, k0, r, nd, h, _⟩ := h
    rw [r.len, len us q e h]
  obtain ⟨W, us, fp, q, e, k0, r, nd, h, kq, kx⟩ := h
  obtain ⟨t', m, p, sm, hm⟩ := hbody f cdv A outer s H E hr
  exact ⟨t', p, body_runU sm k0 r nd (hm us q e h) kq kx _ rfl rfl⟩
theorem DefAtEX.ok (ws : List Nat) (D : DefAt K mg x st ps) (S : FnScope N ps (defScope st)) (len : ∀ ds q e, sd ds q e → ds.length = ps.length)
    (hbody : ∀ (f : Addr) (cdv : Value) (A : Around) (outer : List Env) (s : Shared) (H : Hp) (E : XK), Room k (A.deeper (envOfC x (defScope st) s.heap.objs.size f cdv)) →
      ∃ t m, PSs (cxOf (L2.CX P w) P w K mg base N x (defScope st) f cdv A outer s H E) (defBody st) t ∧ SS ws E t m ∧ ∀ ds q e, sd ds q e → m (endE q) (startU N (ds.map .d)) (xendE e)) : DefOk P w K mg base (L2.CX P w) (k + 1) x (spOf sd) := by
  refine D.okX S (fun vs H Q E h => ?_) (fun f cdv A outer s H vs Q E hr h => ?_)
  · obtain ⟨W, ds, q, e, k0, t, h, _⟩ := h
    rw [t.length, len ds q e h]
  obtain ⟨W, ds, q, e, k0, t, h, kq, kx⟩ := h
  obtain ⟨t', m, p, sm, hm⟩ := hbody f cdv A outer s H E hr
  exact ⟨t', p, body_runE sm k0 t (hm ds q e h) kq kx _ rfl rfl⟩
end
end Et
set_option Elab.async false
set_option linter.all false
set_option maxRecDepth 100000
set_option maxHeartbeats 4000000
namespace Et
open PySem PySem.Spec PyProof.Rows L2 Com Nd
open Dt (D Wd Vd VdA Le Ok Go Kv Ka Kb Kx KD XD SpD spOf SimR SimU SimC SimSl SimE SimT SimA SimO SimI SimN SimIp ItD En toPy toPyA dOf dOfA nkK fEq fIn)
variable [Dt.Tb]
theorem RUs.erase {W : Wd} {H : Hp} : ∀ {vs : List V} {us : List U} {fq : List Addr} (n : Nat), RUs W H vs us fq → fq.Nodup → ∃ g, RUs W H (vs.eraseIdx n) (us.eraseIdx n) g ∧ g.Nodup ∧ ∀ b ∈ g, b ∈ fq
  | _, _, _, n, .nil, nd => ⟨[], by simpa using RUs.nil, .nil, fun _ m => nomatch m⟩
  | v :: vs, u :: us, _, 0, .cons (fp := fp) (fq := fq) r t, nd => by
    rw [List.nodup_append] at nd
    exact ⟨fq, by simpa using t, nd.2.1, fun b m => List.mem_append_right _ m⟩
  | v :: vs, u :: us, _, n + 1, .cons (fp := fp) (fq := fq) r t, nd => by
    rw [List.nodup_append] at nd
    obtain ⟨g, r2, n2, s2⟩ := RUs.erase n t nd.2.1
    refine ⟨fp ++ g, by simpa using RUs.cons r r2, ?_, fun b m => (List.mem_append.mp m).elim (List.mem_append_left _) fun m => List.mem_append_right _ (s2 b m)⟩
    rw [List.nodup_append]
    exact ⟨nd.1, n2, fun a ha b hb => nd.2.2 a ha b (s2 b hb)⟩
/-- x.remove(k), x of whole numbers -/
abbrev intsU (ns : List Int) : List U := ns.map fun n => .d (.int n)
end Et
set_option Elab.async false
set_option linter.all false
set_option maxRecDepth 100000
set_option maxHeartbeats 4000000
namespace Dt
open PySem PySem.Spec PyProof.Rows L2 Com Gn StV Sd Ext
variable [Dt.Tb]
/-- the data of an object told as itself -/
def er1 : D → D
  | .vry _ d => d
  | d => d
theorem vd_er {W : Wd} {v : V} {d : D} (h : Vd W v d) : Vd W v (er1 d) := by
  cases d with
  | vry u d => cases h with | vry h => exact h
  | _ => exact h
theorem vda_er {W : Wd} : ∀ {vs : List V} {ds : List D}, VdA W vs ds → VdA W vs (ds.map er1)
  | _, _, .nil => .nil
  | _, _, .cons h t => .cons (vd_er h) (vda_er t)
theorem same_vd {W : Wd} : ∀ {v : V} {d : D}, Vd W v d → sameOk v = true
  | _, _, .non => rfl
  | _, _, .bl _ => rfl
  | _, _, .int _ => rfl
  | _, _, .str _ => rfl
  | _, _, .tup _ _ => rfl
  | _, _, .lst _ _ => rfl
  | _, _, .obj _ _ _ => rfl
  | _, _, .flow _ _ => rfl
  | _, _, .scr _ => rfl
  | _, _, .dict0 _ => rfl
  | _, _, .dctN _ _ _ _ => rfl
  | _, _, .dctK _ _ _ => rfl
  | _, _, .vry h => same_vd h
section
variable {E : XK} {K : PySem.W.Frag} {te : TE} {me : ME} {ta : TA} {ma : MA} {ts : TS} {ms : MS} {n : Nat} {sp : SpD}
theorem si_defE (ha : SimA E n ta ma) : SimE E (tDef (spOf sp) E ta) (fun ρ q e => ma ρ (fun ds => sp (ds.map er1) q e) e) := fun W H0 H σ ρ Q q e R h k kx =>
  ha W H0 H σ ρ _ _ e R h (fun W1 xs ds H1 g1 hx hl1 h1 => ⟨W1, ds.map er1, q, e, g1.ok, vda_er hx, h1, k.go R.ok g1, kx.go R.ok g1⟩) kx
end
end Dt
set_option Elab.async false
set_option linter.all false
set_option maxRecDepth 100000
set_option maxHeartbeats 4000000
namespace Et
open PySem PySem.Spec PyProof.Rows L2 Com Nd Gn
open Dt (D Wd Vd VdA Le Ok Go Kv Ka Kb Kx KD XD SpD spOf SimR SimU SimC SimSl SimE SimT SimA SimO SimI SimN SimIp ItD En toPy toPyA dOf dOfA nkK fEq fIn)
variable [Dt.Tb]
section
variable {E : XK} {te ta ti to : TE} {me ma mi : CE} {aa : TA} {na : CA} {n : Nat} {K : PySem.W.Frag} {w : World} {ws : List Nat} {sp : SpD}
abbrev cIsi (K : PySem.W.Frag) (u : Value) (a : CE) : CE := fun ρ q e => a ρ (fun x => onD x fun x => Dt.fIsi K u x fun z => q (.d z)) e
theorem e_isi {c : V} {u : Value} (hc : ClsV c u) (ha : SE E te me) : SE E (tCB (rIsi K) (tCons te (tCons (tC c) tNil))) (cIsi K u me) := fun W Z H σ ρ Q q e R h k kx =>
  ha W Z H σ ρ _ _ e R h (fun W1 v ux fx H1 g1 rx h1 => by
    obtain ⟨x, rfl, hv, c1, b, e1, h1⟩ := onD_of rx h1
    exact ⟨v, c, Dt.tyD x, u, b, rfl, hc, Dt.tyx_of g1.ok hv c1, e1, (k.go R.ok g1).d W1 _ _ H1 (.refl g1.ok) (.bl b) h1⟩) kx
end
section
variable {w : World} {ns : List Int} {i z : Int} {ρ : Ev} {s : Nat} {pth : List Nat}
theorem int_at (h0 : 0 ≤ i) (h1 : i < (ns.length : Nat)) : (intsU ns)[i.toNat]? = some (.d (.int (ns.getD i.toNat 0))) := by
  rw [List.getElem?_map, List.getElem?_eq_getElem (by omega), List.getD_eq_getElem?_getD, List.getElem?_eq_getElem (by omega)]
  rfl
end
end Et
set_option Elab.async false
set_option linter.all false
set_option maxRecDepth 100000
set_option maxHeartbeats 4000000
namespace Dt
open PySem PySem.Spec PyProof.Rows L2 Com Gn StV Sd Ext
end Dt
namespace Et
open PySem PySem.Spec PyProof.Rows L2 Com Nd Gn
open Dt (D Wd Vd VdA Le Ok Go Kv Ka Kb Kx KD XD SpD spOf)
end Et
set_option Elab.async false
set_option linter.all false
set_option maxRecDepth 100000
set_option maxHeartbeats 4000000
namespace Et
open PySem PySem.Spec PyProof.Rows L2 Com Nd Gn
open Dt (D XD KD)
end Et
set_option Elab.async false
set_option linter.all false
set_option maxRecDepth 100000
set_option maxHeartbeats 4000000
namespace K27
open PySem PySem.Spec PyProof.Rows L2 Com Sd StV Gn Ext Dt
variable [Dt.Tb]
def top (i : Nat) : Stmt := PySem.Challenge.pw_callsthrough_k27_safe_lists_are_judged.main.body.getD i (.Pass ⟨0, 0, 0, 0⟩)
structure Blt (mg : Str → Option Value) : Prop where
  z_len : mg "len" = none
  z_abs : mg "abs" = none
  z_int : mg "int" = none
  z_bool : mg "bool" = none
  z_tuple : mg "tuple" = none
  z_list : mg "list" = none
  z_str : mg "str" = none
  z_dict : mg "dict" = none
  z_isinstance : mg "isinstance" = none
  z_all : mg "all" = none
  z_any : mg "any" = none
  z_sum : mg "sum" = none
  z_range : mg "range" = none
  z_set : mg "set" = none
  z_sorted : mg "sorted" = none
  z_min : mg "min" = none
  z_max : mg "max" = none
  z_enumerate : mg "enumerate" = none
  z_reversed : mg "reversed" = none
  c_MOST_SWITCHES : ∃ t, mg "MOST_SWITCHES" = some (.int 4 t)
  c_MOST_DOORS : ∃ t, mg "MOST_DOORS" = some (.int 4 t)
  c_MOST_MIDDLES : ∃ t, mg "MOST_MIDDLES" = some (.int 7 t)
  c_MOST_STANDINGS : ∃ t, mg "MOST_STANDINGS" = some (.int 2000 t)
theorem r65 {k : Nat} {A : Around} (r : Room k A) : A.units + 65 < cLine := by have := r.un; omega
section
variable {P : Program} {w : World} {K : PySem.W.Frag} {mg : Str → Option Value} {base : Heap}
abbrev s_is_plain_int : Stmt := top 3
abbrev N_is_plain_int : List Str := ["value"]
theorem sc_is_plain_int : FnScope N_is_plain_int ["value"] (defScope s_is_plain_int) := ⟨rfl, rfl, rfl, by decide +kernel, rfl, by decide +kernel, by decide +kernel⟩
def sdPlain (K : PySem.W.Frag) : SpD := fun ds q _ => ∃ d, ds = [d] ∧ clsOk K d ∧ q (.bl (plainD d))
theorem ok_is_plain_int (T : Blt mg) (D : DefAt K mg "is_plain_int" s_is_plain_int ["value"]) : DefOk P w K mg base CX0 1 "is_plain_int" (spOf (sdPlain K)) := by
  refine DefAtD.ok D sc_is_plain_int (fun ds q e h => by obtain ⟨d, rfl, _⟩ := h; rfl) (fun f cdv A outer s H E hr => ⟨_, _, (pss_one (ps_ret (pe_and (pe_callB (cl_isi K) (by rfl) T.z_isinstance (by decide +kernel) (pa_cons (pv 0) (pa_cons (pe_bltn (v := .ty "int") (by rfl) T.z_int (by decide +kernel) rfl) pa_nil))) (pe_one (pe_not (pe_callB (cl_isi K) (by rfl) T.z_isinstance (by decide +kernel) (pa_cons (pv 0) (pa_cons (pe_bltn (v := .ty "bool") (by rfl) T.z_bool (by decide +kernel) rfl) pa_nil)))))))), (ss_ret (si_andV (si_isi (.ty "int") si_var) (si_notV (si_isi (.ty "bool") si_var)))), fun ds q e h => ?_⟩)
  obtain ⟨d, rfl, hc, h⟩ := h
  refine ⟨d, rfl, isi_go hc ⟨_, rfl, ?_⟩⟩
  have e1 := plain_isi d
  cases c : isiD "int" d with
  | true =>
    refine ⟨d, rfl, isi_go hc ⟨_, rfl, ?_⟩⟩
    rw [c, Bool.true_and] at e1
    rw [e1]
    exact h
  | false =>
    rw [c, Bool.false_and] at e1
    show q (.bl false)
    rw [e1]
    exact h
abbrev s_is_int_within : Stmt := top 4
abbrev N_is_int_within : List Str := ["value", "low", "high"]
theorem sc_is_int_within : FnScope N_is_int_within ["value", "low", "high"] (defScope s_is_int_within) := ⟨rfl, rfl, rfl, by decide +kernel, rfl, by decide +kernel, by decide +kernel⟩
def sdWithin (K : PySem.W.Frag) : SpD := fun ds q _ => ∃ d lo hi, ds = [d, .int lo, .int hi] ∧ clsOk K d ∧ q (.bl (withinD lo hi d))
theorem ok_is_int_within (T : Blt mg) (D_is_plain_int : DefOk P w K mg base CX0 1 "is_plain_int" (spOf (sdPlain K))) (D : DefAt K mg "is_int_within" s_is_int_within ["value", "low", "high"]) : DefOk P w K mg base CX0 2 "is_int_within" (spOf (sdWithin K)) := by
  refine DefAtD.ok D sc_is_int_within (fun ds q e h => by obtain ⟨d, lo, hi, rfl, _⟩ := h; rfl) (fun f cdv A outer s H E hr => ⟨_, _, (pss_one (ps_ret (pe_and (pe_def D_is_plain_int hr (by decide) passE (pa_cons (pv 0) pa_nil)) (pe_one (pe_chain op_le op_le (pv 1) (pv 0) (pv 2)))))), (ss_ret (si_andV (si_def (si_cons si_var si_nil)) (si_chain si_var si_var si_var sr_B0 sr_B0))), fun ds q e h => ?_⟩)
  obtain ⟨d, lo, hi, rfl, hc, h⟩ := h
  refine ⟨d, rfl, d, rfl, hc, _, rfl, ?_⟩
  cases d with
  | int i =>
    refine ⟨_, rfl, _, rfl, trivial, _, rfl, ?_⟩
    by_cases c : lo ≤ i
    · rw [decide_eq_true c]
      refine ⟨_, rfl, trivial, ?_⟩
      have e1 : withinD lo hi (.int i) = decide (i ≤ hi) := by show (decide (lo ≤ i) && decide (i ≤ hi)) = _; rw [decide_eq_true c, Bool.true_and]
      rw [e1] at h
      exact h
    · rw [decide_eq_false c]
      have e1 : withinD lo hi (.int i) = false := by show (decide (lo ≤ i) && decide (i ≤ hi)) = _; rw [decide_eq_false c, Bool.false_and]
      rw [e1] at h
      exact h
  | _ => exact h
/-- what the top has made of the class Exchange -/
structure ExC (K : PySem.W.Frag) (mg : Str → Option Value) (C : Addr) : Prop where
  t : ClsT K C
  nI : NoAttr K C "ins"
  nO : NoAttr K C "outs"
  nM : NoAttr K C "middles"
abbrev s_is_pair : Stmt := top 6
abbrev N_is_pair : List Str := ["exchange", "thing", "i", "o"]
theorem sc_is_pair : FnScope N_is_pair ["exchange", "thing"] (defScope s_is_pair) := ⟨rfl, rfl, rfl, by decide +kernel, rfl, by decide +kernel, by decide +kernel⟩
def sdIsPair (K : PySem.W.Frag) (C : Addr) : SpD := fun ds q _ => ∃ is os m d, ds = [exD C is os m, d] ∧ clsA K d ∧ q (.bl (isPairD is.length os.length d))
theorem ok_is_pair {C : Addr} (T : Blt mg) (X : ExC K mg C) (D_is_int_within : DefOk P w K mg base CX0 2 "is_int_within" (spOf (sdWithin K))) (D : DefAt K mg "is_pair" s_is_pair ["exchange", "thing"]) : DefOk P w K mg base CX0 3 "is_pair" (spOf (sdIsPair K C)) := by
  refine DefAtD.ok D sc_is_pair (fun ds q e h => by obtain ⟨_, _, _, _, rfl, _⟩ := h; rfl) (fun f cdv A outer s H E hr => ?_)
  have hu := hr.units
  refine ⟨_, _, (pss_cons (ps_if (PW.pt (pw_or (pt_not (pt_val (pe_callB (cl_isi K) (by rfl) T.z_isinstance (by decide +kernel) (pa_cons (pv 1) (pa_cons (pe_bltn (v := .ty "tuple") (by rfl) T.z_tuple (by decide +kernel) rfl) pa_nil))))) (pw_or1 (pt_cmpR (neD K hu) (pe_callB (cl_len K) (by rfl) T.z_len (by decide +kernel) (pa_cons (pv 1) pa_nil)) pe_int (nomark _)))))
      (pss_one (ps_ret pe_bl))
      pss_nil)
    (pss_cons (ps_asg (pv 1) (pgT K (pgs_cons (pg_name (i := 2) sc_is_pair.nd rfl (Or.inl rfl)) (pgs_cons (pg_name (i := 3) sc_is_pair.nd rfl (Or.inl rfl)) pgs_nil))))
    (pss_one (ps_ret (pe_and (pe_def D_is_int_within hr (by decide) passE (pa_cons (pv 2) (pa_cons pe_int (pa_cons (pe_op op_sub (pe_callB (cl_len K) (by rfl) T.z_len (by decide +kernel) (pa_cons (pe_fldK K (pv 0)) pa_nil)) pe_int) pa_nil)))) (pe_one (pe_def D_is_int_within hr (by decide) passE (pa_cons (pv 3) (pa_cons pe_int (pa_cons (pe_op op_sub (pe_callB (cl_len K) (by rfl) T.z_len (by decide +kernel) (pa_cons (pe_fldK K (pv 0)) pa_nil)) pe_int) pa_nil)))))))))), (ss_seq (ss_if (si_or (si_not (si_B (si_isi (.ty "tuple") si_var))) (si_test (si_op (si_cb (si_cons si_var si_nil) sc_len) si_int sr_ne)))
      (ss_ret si_bl)
      ss_nx)
    (ss_seq (ss_asg si_var (sg_tup (sg_cons sg_name (sg_cons sg_name sg_nil))))
    (ss_ret (si_andV (si_def (si_cons si_var (si_cons si_int (si_cons (si_op (si_cb (si_cons (si_fld X.t.cl X.nI si_var) si_nil) sc_len) si_int sr_I0) si_nil)))) (si_def (si_cons si_var (si_cons si_int (si_cons (si_op (si_cb (si_cons (si_fld X.t.cl X.nO si_var) si_nil) sc_len) si_int sr_I0) si_nil)))))))), fun ds q e h => ?_⟩
  obtain ⟨is, os, m, d, rfl, hc, h⟩ := h
  refine ⟨d, rfl, isi_go hc.ok ⟨_, rfl, ?_⟩⟩
  cases d with
  | tup xs =>
    refine ifFF ⟨_, rfl, go_lenT (go_neI ⟨_, rfl, ?_⟩)⟩
    by_cases c : ((xs.length : Nat) : Int) = 2
    · rw [decide_eq_true c]
      obtain ⟨a, b, rfl⟩ : ∃ a b, xs = [a, b] := by
        match xs, c with
        | [a, b], _ => exact ⟨a, b, rfl⟩
        | [], c => simp at c
        | [a], c => simp at c
        | a :: b :: c :: r, h => simp only [List.length_cons] at h; omega
      have ca := clsA.tup.mp hc a (by simp)
      have cb := clsA.tup.mp hc b (by simp)
      refine ifFF ⟨_, rfl, _, rfl, rfl, _, _, rfl, _, _, rfl, rfl, ?_⟩
      refine ⟨_, rfl, _, rfl, _, _, _, rfl, rfl, go_lenT ⟨trivial, _, _, _, rfl, ca.ok, _, rfl, ?_⟩⟩
      have e : isPairD is.length os.length (.tup [a, b]) = (withinD 0 ((is.length : Int) - 1) a && withinD 0 ((os.length : Int) - 1) b) := by
        unfold isPairD
        cases a with
        | int i =>
          cases b with
          | int o =>
            show (if 0 ≤ i ∧ i < (is.length : Int) ∧ 0 ≤ o ∧ o < (os.length : Int) then some (i, o) else none).isSome = ((decide (0 ≤ i) && decide (i ≤ (is.length : Int) - 1)) && (decide (0 ≤ o) && decide (o ≤ (os.length : Int) - 1)))
            by_cases c : 0 ≤ i ∧ i < (is.length : Int) ∧ 0 ≤ o ∧ o < (os.length : Int)
            · rw [if_pos c, decide_eq_true c.1, decide_eq_true (show i ≤ (is.length : Int) - 1 by omega), decide_eq_true c.2.2.1, decide_eq_true (show o ≤ (os.length : Int) - 1 by omega)]
              rfl
            · rw [if_neg c]
              symm
              show _ = false
              rw [Bool.eq_false_iff]
              intro h
              simp only [Bool.and_eq_true, decide_eq_true_eq] at h
              omega
          | _ => simp [pairOf, withinD]
        | _ => simp [pairOf, withinD]
      rw [e] at h
      have l1 : (is.map Dt.D.int).length = is.length := List.length_map ..
      have l2 : (os.map Dt.D.int).length = os.length := List.length_map ..
      rw [l1]
      cases c1 : withinD 0 ((is.length : Int) - 1) a with
      | true =>
        rw [c1, Bool.true_and] at h
        refine ifTT ⟨_, rfl, _, rfl, _, _, _, rfl, rfl, go_lenT ⟨trivial, _, _, _, rfl, cb.ok, ?_⟩⟩
        rw [l2]
        exact h
      | false =>
        rw [c1, Bool.false_and] at h
        exact ifFF h
    · rw [decide_eq_false c]
      have e : isPairD is.length os.length (.tup xs) = false := by
        unfold isPairD pairOf
        split
        · rename_i e
          cases e
          simp at c
        · rfl
      rw [e] at h
      exact ifTT h
  | _ => exact ifTT h
end
section
variable {P : Program} {w : World} {K : PySem.W.Frag} {mg : Str → Option Value} {base : Heap} {C : Addr}
def it0 : Dt.D → Dt.D
  | .tup [a, _] => a
  | _ => .non
def it1 : Dt.D → Dt.D
  | .tup [_, b] => b
  | _ => .non
abbrev s_is_load : Stmt := top 7
abbrev N_is_load : List Str := ["exchange", "thing", "pair", "ins", "i", "o", "outs"]
theorem sc_is_load : FnScope N_is_load ["exchange", "thing"] (defScope s_is_load) := ⟨rfl, rfl, rfl, by decide +kernel, rfl, by decide +kernel, by decide +kernel⟩
def sdIsLoad (K : PySem.W.Frag) (C : Addr) : SpD := fun ds q _ => ∃ is os m d, ds = [exD C is os m, d] ∧ is.length ≤ 60 ∧ clsA K d ∧ q (.bl (isLoadD is.length os.length d))
theorem ok_is_load (T : Blt mg) (X : ExC K mg C) (D_is_pair : DefOk P w K mg base CX0 3 "is_pair" (spOf (sdIsPair K C))) (Df : DefAt K mg "is_load" s_is_load ["exchange", "thing"]) : DefOk P w K mg base CX0 4 "is_load" (spOf (sdIsLoad K C)) := by
  refine DefAtD.ok Df sc_is_load (fun ds q e h => by obtain ⟨_, _, _, _, rfl, _⟩ := h; rfl) (fun f cdv A outer s H E hr => ?_)
  have hu := hr.units
  refine ⟨_, _, (pss_cons (ps_if (PW.pt (pw_or (pt_not (pt_val (pe_callB (cl_isi K) (by rfl) T.z_isinstance (by decide +kernel) (pa_cons (pv 1) (pa_cons (pe_bltn (v := .ty "tuple") (by rfl) T.z_tuple (by decide +kernel) rfl) pa_nil))))) (pw_or1 (pt_cmpR op_gt (pe_callB (cl_len K) (by rfl) T.z_len (by decide +kernel) (pa_cons (pv 1) pa_nil)) (pe_callB (cl_len K) (by rfl) T.z_len (by decide +kernel) (pa_cons (pe_fldK K (pv 0)) pa_nil)) (nomark _)))))
      (pss_one (ps_ret pe_bl))
      pss_nil)
    (pss_cons (ps_if (pt_not (pt_val (pe_callB (cl_all K) (by rfl) T.z_all (by decide +kernel) (pa_cons (pe_lc (own := [("pair", 2)]) (g := gName 2) (tt := tYes) rfl sc_is_load.nd (pi_seq K (pv 1)) (blkOk_by (N := N_is_load) (sc := defScope s_is_load) (by decide +kernel)) (fun _ _ _ _ _ => (pg_name (i := 2) sc_is_load.nd rfl (Or.inl rfl))) (fun _ _ _ _ _ => pts_nil) (fun _ _ _ _ _ => (pe_def D_is_pair hr (by decide) passE (pa_cons (pv 0) (pa_cons (pv 2) pa_nil))))) pa_nil))))
      (pss_one (ps_ret pe_bl))
      pss_nil)
    (pss_cons (ps_setLc (i := 3) (own := [("i", 4), ("o", 5)]) (g := gTup K 2 (gCons (gName 4) (gCons (gName 5) gNil))) (tt := tYes) rfl sc_is_load.nd rfl rfl (sw_true rfl rfl rfl (by decide +kernel)) (pi_seq K (pv 1)) (blkOk_by (N := N_is_load) (sc := defScope s_is_load) (by decide +kernel)) (fun _ _ _ _ _ => (pgT K (pgs_cons (pg_name (i := 4) sc_is_load.nd rfl (Or.inl rfl)) (pgs_cons (pg_name (i := 5) sc_is_load.nd rfl (Or.inl rfl)) pgs_nil)))) (fun _ _ _ _ _ => pts_nil) (fun _ _ _ _ _ => (pv 4)))
    (pss_cons (ps_setLc (i := 6) (own := [("i", 4), ("o", 5)]) (g := gTup K 2 (gCons (gName 4) (gCons (gName 5) gNil))) (tt := tYes) rfl sc_is_load.nd rfl rfl (sw_true rfl rfl rfl (by decide +kernel)) (pi_seq K (pv 1)) (blkOk_by (N := N_is_load) (sc := defScope s_is_load) (by decide +kernel)) (fun _ _ _ _ _ => (pgT K (pgs_cons (pg_name (i := 4) sc_is_load.nd rfl (Or.inl rfl)) (pgs_cons (pg_name (i := 5) sc_is_load.nd rfl (Or.inl rfl)) pgs_nil)))) (fun _ _ _ _ _ => pts_nil) (fun _ _ _ _ _ => (pv 5)))
    (pss_one (ps_ret (pe_and (pe_cmpR (eqD K hu) (pv 3) (pe_callB (cr_sortedSet rfl) (by rfl) T.z_sorted (by decide +kernel) (pa_cons (pe_callTy (cr_setI rfl) (by rfl) T.z_set (by decide +kernel) (pa_cons (pv 3) pa_nil)) pa_nil)) (nomark _)) (pe_one (pe_cmpR (eqD K hu) (pe_callB (cl_len K) (by rfl) T.z_len (by decide +kernel) (pa_cons (pv 6) pa_nil)) (pe_callB cl_lenSet (by rfl) T.z_len (by decide +kernel) (pa_cons (pe_callTy (cr_setI rfl) (by rfl) T.z_set (by decide +kernel) (pa_cons (pv 6) pa_nil)) pa_nil)) (nomark _)))))))))), (ss_seq (ss_if (si_or (si_not (si_B (si_isi (.ty "tuple") si_var))) (si_test (si_op (si_cb (si_cons si_var si_nil) sc_len) (si_cb (si_cons (si_fld X.t.cl X.nI si_var) si_nil) sc_len) sr_B0)))
      (ss_ret si_bl)
      ss_nx)
    (ss_seq (ss_if (si_not (si_B (si_cb (si_cons (si_lc (si_seq si_var) sg_name si_yes (si_def (si_cons si_var (si_cons si_var si_nil))) (by decide)) si_nil) sc_all)))
      (ss_ret si_bl)
      ss_nx)
    (ss_seq (ss_asg (si_lc (si_seq si_var) (sg_tup (sg_cons sg_name (sg_cons sg_name sg_nil))) si_yes si_var (by decide)) sg_name)
    (ss_seq (ss_asg (si_lc (si_seq si_var) (sg_tup (sg_cons sg_name (sg_cons sg_name sg_nil))) si_yes si_var (by decide)) sg_name)
    (ss_ret (si_andV (si_op si_var (si_srtSet si_var) sr_eq) (si_op (si_cb (si_cons si_var si_nil) sc_len) (si_lenSet si_var) sr_eq))))))), fun ds q e h => ?_⟩
  obtain ⟨is, os, m, d, rfl, h60, hc, h⟩ := h
  have l1 : (is.map Dt.D.int).length = is.length := List.length_map ..
  refine ⟨d, rfl, isi_go hc.ok ⟨_, rfl, ?_⟩⟩
  cases d with
  | tup xs =>
    refine ifFF ⟨_, rfl, go_lenT ⟨_, rfl, _, _, _, rfl, rfl, go_lenT ⟨trivial, _, rfl, ?_⟩⟩⟩
    rw [l1]
    by_cases c : ((is.length : Nat) : Int) < ((xs.length : Nat) : Int)
    · rw [decide_eq_true c]
      have e : isLoadD is.length os.length (.tup xs) = false := by
        cases q : loadOf is.length os.length (.tup xs) with
        | none => unfold isLoadD; rw [q]; rfl
        | some L =>
          obtain ⟨e1, e2⟩ := loadOf_some q
          have := e2.len
          injection e1 with e1
          rw [e1, List.length_map] at c
          omega
      rw [e] at h
      exact ifTT h
    rw [decide_eq_false c]
    refine ifFF ⟨_, rfl, xs, .inl rfl, lcL_map (fun d => .bl (isPairD is.length os.length d)) xs [] (by show 0 + _ ≤ _; omega) (fun d hd Q hQ => ⟨_, rfl, d, rfl, _, _, _, _, rfl, clsA.tup.mp hc d hd, hQ⟩) ?_⟩
    refine ⟨xs.map (isPairD is.length os.length), by rw [List.map_map]; rfl, _, rfl, ?_⟩
    rw [pairsOf_all]
    cases e : pairsOf is.length os.length xs with
    | none =>
      rw [isLoadD_tup, e] at h
      exact ifTT h
    | some L =>
      rw [isLoadD_tup, e] at h
      obtain ⟨rfl, hp⟩ := pairsOf_some e
      rw [List.length_map] at c
      refine ifFF ⟨_, rfl, _, .inl rfl, lcL_map it0 _ [] (by rw [List.length_map]; show 0 + _ ≤ _; omega) (fun d hd Q hQ => ?_) ?_⟩
      · obtain ⟨p, _, rfl⟩ := List.mem_map.mp hd
        exact ⟨_, rfl, rfl, _, _, rfl, _, _, rfl, rfl, _, rfl, hQ⟩
      refine ⟨_, rfl, _, .inl rfl, lcL_map it1 _ [] (by rw [List.length_map]; show 0 + _ ≤ _; omega) (fun d hd Q hQ => ?_) ?_⟩
      · obtain ⟨p, _, rfl⟩ := List.mem_map.mp hd
        exact ⟨_, rfl, rfl, _, _, rfl, _, _, rfl, rfl, _, rfl, hQ⟩
      have e0 : (L.map Dt.pairD).map it0 = (L.map (·.1)).map Dt.D.int := by rw [List.map_map, List.map_map]; rfl
      have e1 : (L.map Dt.pairD).map it1 = (L.map (·.2)).map Dt.D.int := by rw [List.map_map, List.map_map]; rfl
      rw [List.nil_append, List.nil_append, e0, e1]
      have lL1 : (L.map (·.1)).length = L.length := List.length_map ..
      have lL2 : (L.map (·.2)).length = L.length := List.length_map ..
      refine ⟨_, rfl, _, rfl, L.map (·.1), rfl, by omega, fun ks as hk => go_eqLI ⟨_, rfl, ?_⟩⟩
      rw [asc_dec as hk]
      have hb : (decide (L.length ≤ is.length) && ascB L) = (decide ((L.map (·.1)).Pairwise (· < ·)) && decide (L.map (·.2)).Nodup) := by
        rw [decide_eq_true (show L.length ≤ is.length by omega), Bool.true_and]
        rfl
      have h : q (.bl (decide (L.length ≤ is.length) && ascB L)) := h
      rw [hb] at h
      cases c2 : decide ((L.map (·.1)).Pairwise (· < ·)) with
      | false =>
        rw [c2, Bool.false_and] at h
        exact ifFF h
      | true =>
        rw [c2, Bool.true_and] at h
        refine ifTT ⟨_, rfl, go_lenL ⟨_, rfl, L.map (·.2), rfl, by omega, fun ks nd hk => go_eqI ?_⟩⟩
        have e3 : decide (((((L.map (·.2)).map Dt.D.int).length : Nat) : Int) = ((ks.length : Nat) : Int)) = decide (L.map (·.2)).Nodup := by
          rw [← nd_dec nd hk]
          refine decide_eq_decide.mpr ?_
          rw [List.length_map]
          omega
        rw [e3]
        exact h
  | _ => exact ifTT h
end
end K27
set_option Elab.async false
set_option linter.all false
set_option maxRecDepth 100000
set_option maxHeartbeats 4000000
namespace Lk
open PySem PySem.Spec PyProof.Rows L2 LamX
/-- the names of the lambda: its own a, the captured y, the built-in len -/
structure LamK (scope : Scope) (y a : Str) : Prop where
  kind : scope.kind = .function
  co : scope.isCoroutine = false
  gen : scope.isGenerator = false
  noc : ∀ x ∈ scope.names, x.2 ≠ .cell
  par : scope.names.lookup a = some .local
  fr : scope.names.lookup y = some .free
  ln : scope.names.lookup ("len" : Str) = some .globalImplicit
  nd : (a == ("__debug__" : Str)) = false ∧ (y == ("__debug__" : Str)) = false ∧ (y == ("__classdict__" : Str)) = false
section
variable {X : Cx} {pins : List (Addr × Obj)} {σ : L2.St} {H : Hp} {s : Shared}
theorem clo_look {scope : Scope} {y : Str} {cc : Addr} (hf : scope.names.lookup y = some .free) (hc : X.env.cells.lookup y = some cc) : (cloFrom X.env.cells scope.names []).lookup y = some cc := by
  have hy : (y, NameKind.free) ∈ scope.names := PySem.mem_of_lookup hf
  obtain ⟨c, e⟩ := mem_lookup (cloFrom_has (cells := X.env.cells) (acc := []) hy)
  rcases cloFrom_mem (PySem.mem_of_lookup e) with hm | ⟨_, h2⟩
  · cases hm
  · have e2 : c = cc := by
      rw [h2, hc] <;> rfl
    rw [← e2]
    exact e
theorem not_loc (I : Inv X pins σ H s) {b : Addr} {o : Obj} (e : s.heap.get? b = some o) (h : ∀ es ep, o.data ≠ .dict es ep) : b ≠ X.env.locals := fun z => by
  obtain ⟨m, ⟨o2, es, ep, h1, h2, _⟩, _⟩ := I.loc
  rw [z, h1] at e
  cases e
  exact h es ep h2
theorem lam_run (I : Inv X pins σ H s) {scope : Scope} {y a : Str} (L : LamK scope y a) {params : Arguments} {p1 p2 p3 p4 p5 : Pos} {pm ctv : Value} {f c' : Addr}
    (hf : s.heap.get? f = some (PySem.W.kla_obj "<lambda>" (X.env.qual ++ "<lambda>") params (.Call (.Name "len" p1) [.Subscript (.Name y p2) (.Name a p3) p4] [] p5) scope (cloFrom X.env.cells scope.names []) pm c' ctv))
    (hcode : ∃ (oc : Obj) (vs : Array Value) (t : Tok), s.heap.get? c' = some oc ∧ oc.data = .fields vs ∧ vs[1]? = some (.str (X.env.qual ++ "<lambda>") t))
    (hbind : ∀ v : Value, bindArgs (PySem.W.kla_fn "<lambda>" (X.env.qual ++ "<lambda>") params (.Call (.Name "len" p1) [.Subscript (.Name y p2) (.Name a p3) p4] [] p5) scope (cloFrom X.env.cells scope.names []) pm (.ref c') ctv) ⟨[v], []⟩ = pure [(a, v)])
    (hlen : X.mg "len" = none) {cc st lj : Addr} {us ws : List Value} {j : Nat} (hc : X.env.cells.lookup y = some cc) (hcell : s.heap.IsCell cc (some (.ref st)))
    (ht : IsTup s.heap st us.toArray) (hj : us[j]? = some (.ref lj)) (hl : IsTup s.heap lj ws.toArray) (hu : us.length < 2 ^ 62) (hw : ws.length < 2 ^ 62) (hroom : X.A.in1.depth < recursionLimit)
    {h : Heap} {tk : Nat} {t0 : Tok} (kp : ∀ b o, b ≠ X.env.locals → s.heap.get? b = some o → h.get? b = some o) :
    wpAny (model X.prog X.w) X.A.in1 (call (.ref f) [.int (j : Int) t0]) (fun v s2 => ∃ h' tk' t', s2 = { s with heap := h', toks := tk' } ∧ v = .int ((ws.length : Nat) : Int) t' ∧ ∀ b o, h.get? b = some o → h'.get? b = some o) (fun _ _ => False) { s with heap := h, toks := tk } := by
  obtain ⟨oc, vs, t, hoc, hdc, hvc⟩ := hcode
  have nf : f ≠ X.env.locals := not_loc I hf fun es ep z => by cases z
  have nc : c' ≠ X.env.locals := not_loc I hoc fun es ep z => by rw [hdc] at z; cases z
  have bb : ∀ b o, X.base.get? b = some o → h.get? b = some o := fun b o e => kp b o (Nat.ne_of_lt (Nat.lt_of_lt_of_le (Heap.lt_size e) (Nat.le_trans I.ok.bsz I.ok.above))) (I.bk b o e)
  refine wpAny_call ?_
  refine PySem.W.kla_callFunE hroom (kp _ _ nf hf) rfl L.co L.gen rfl ⟨c', oc, vs, t, rfl, kp _ _ nc hoc, hdc, hvc⟩ ?_
  rw [hbind]
  refine wpAny_pure (wpAny_newFunctionEnv L.noc (fun x hx => by rw [List.mem_singleton.mp hx]; exact L.par) (fun h₁ hns hsb => ⟨((I.ok.mod.nolimit).keeps bb).fresh _ hsb, ?_⟩) L.kind)
  have k1 : ∀ b o, h.get? b = some o → h₁.get? b = some o := fun b o e => hsb.extBut b o (Nat.ne_of_lt (Heap.lt_size e)) (Heap.get?_push_of_some _ e)
  have k2 : ∀ b o, b ≠ X.env.locals → s.heap.get? b = some o → h₁.get? b = some o := fun b o n e => k1 b o (kp b o n e)
  have b1 : ∀ b o, X.base.get? b = some o → h₁.get? b = some o := fun b o e => k1 b o (bb b o e)
  refine PySem.W.kla_codeExpr ?_
  obtain ⟨mb, g1, g2⟩ := I.mod.blt
  refine wpAny_Call_Name_kw (Calls.Name_function_global (x := "len") L.kind L.ln (Calls.loadGlobal_builtin (I.mod.glob.keeps b1) hlen (g1.keeps b1) (g2 "len" (by decide)) ?_) (by decide))
  have nt : st ≠ X.env.locals := by
    obtain ⟨o, e, _, n, d⟩ := ht
    exact not_loc I e fun es ep z => by rw [d] at z; cases z
  have nl : lj ≠ X.env.locals := by
    obtain ⟨o, e, _, n, d⟩ := hl
    exact not_loc I e fun es ep z => by rw [d] at z; cases z
  have ncc : cc ≠ X.env.locals := I.cne y cc hc
  have ht1 : IsTup h₁ st us.toArray := by
    obtain ⟨o, e, r⟩ := ht
    exact ⟨o, k2 _ _ nt e, r⟩
  have hl1 : IsTup h₁ lj ws.toArray := by
    obtain ⟨o, e, r⟩ := hl
    exact ⟨o, k2 _ _ nl e, r⟩
  have hc1 : h₁.IsCell cc (some (.ref st)) := by
    obtain ⟨o, e, r⟩ := hcell
    exact ⟨o, k2 _ _ ncc e, r⟩
  have hjl : j < us.length := (List.getElem?_eq_some_iff.mp hj).1
  refine PyProof.Rows.callWith_builtin1 (id := "len") ?_ rfl rfl
  refine Calls.spliced_cons ?_
  have hm : ([(a, Value.int (j : Int) t0)] : List (Str × Value)).reverse.lookup a = some (.int (j : Int) t0) := by
    rw [List.reverse_singleton, List.lookup_cons, beq_self_eq_true]
  refine wpAny_Subscript_Name (T := "tuple") RT.get_tuple (wpAny_Name (wpAny_loadName_free (c := cc) L.kind L.fr (clo_look L.fr hc) hc1 ?_ L.nd.2.2) L.nd.2.1) (fun _ _ => rfl)
  refine wpAny_Name (wpAny_loadName_local L.kind L.par hns hm ⟨ht1.typeIs, ?_⟩) L.nd.1
  refine getItem_tuple (j := j) ht1 (by omega) (by omega) ?_ (by simpa using hj) ?_
  · unfold seqIndex?
    have e1 : (if (j : Int) < 0 then (j : Int) + (us.toArray.size : Int) else (j : Int)) = (j : Int) := if_neg (by omega)
    show (if (decide (0 ≤ (if (j : Int) < 0 then (j : Int) + (us.toArray.size : Int) else (j : Int))) && decide ((if (j : Int) < 0 then (j : Int) + (us.toArray.size : Int) else (j : Int)) < (us.toArray.size : Int))) = true then some (if (j : Int) < 0 then (j : Int) + (us.toArray.size : Int) else (j : Int)).toNat else none) = some j
    rw [e1, decide_eq_true (by omega), decide_eq_true (by rw [List.size_toArray]; omega)]
    rfl
  · refine Calls.spliced_nil ?_
    refine len_tuple hl1 (by rw [List.size_toArray]; omega) ?_
    exact ⟨_, _, _, rfl, by rw [List.size_toArray], k1⟩
/-- what stands in the heap beside the base and the frame -/
def rest (h b : Heap) (L : Addr) : List (Addr × Obj) := (List.range h.objs.size).filterMap fun a => if a = L ∨ (b.get? a).isSome then none else (h.get? a).map fun o => (a, o)
theorem mem_rest {h b : Heap} {L a : Addr} {o : Obj} : (a, o) ∈ rest h b L ↔ h.get? a = some o ∧ a ≠ L ∧ b.get? a = none := by
  unfold rest
  rw [List.mem_filterMap]
  constructor
  · rintro ⟨c, _, e⟩
    by_cases q : c = L ∨ (b.get? c).isSome
    · rw [if_pos q] at e
      cases e
    · rw [if_neg q] at e
      cases q2 : h.get? c with
      | none => rw [q2] at e; cases e
      | some o2 =>
        rw [q2] at e
        cases e
        refine ⟨q2, fun z => q (.inl z), ?_⟩
        cases q3 : b.get? a with
        | none => rfl
        | some _ => exact absurd (.inr (by rw [q3]; rfl)) q
  · rintro ⟨e, n, z⟩
    refine ⟨a, List.mem_range.mpr (Heap.lt_size e), ?_⟩
    rw [if_neg (by rw [z]; rintro (q | q); exact n q; cases q), e]
    rfl
theorem ns_one {h : Heap} {L : Addr} {m m' : Str → Option Value} (a : h.Ns L m) (b : h.Ns L m') : m = m' := by
  obtain ⟨o, es, ep, h1, h2, _, h3⟩ := a
  obtain ⟨o', es', ep', g1, g2, _, g3⟩ := b
  rw [h1] at g1
  cases g1
  rw [h2] at g2
  cases g2
  funext x
  rw [← h3, g3]
/-- all but the frame is kept, and the frame holds the same: the same invariant -/
theorem inv_back {t' : Nat} {h' : Heap} {m : Str → Option Value} (I : Inv X pins σ H s) (k : ∀ b o, b ≠ X.env.locals → s.heap.get? b = some o → h'.get? b = some o) (n1 : s.heap.Ns X.env.locals m) (n2 : h'.Ns X.env.locals m) : Inv X pins σ H { s with heap := h', toks := t' } := by
  have nL : ∀ b u, H b = some u → b ≠ X.env.locals := fun b u e z => by rw [z, I.free] at e; cases e
  refine I.step (g' := s.gens) (d' := s.drawn) (ch := []) (fun b hb => absurd hb (by simp)) (fun b o n _ _ e _ => k b o n e) (fun b o n _ _ e _ => ⟨o.slots, k b o n e⟩) (fun b o _ _ e => e) (fun b o _ e => ?_) (fun b xs e => e) (fun b o u e => e) (fun b ps e => ⟨#[], by simpa using e⟩)
    (fun m' hn => by rw [ns_one hn n1]; exact n2) (fun b u e => ?_) I.bare
  · by_cases z : b = X.env.locals
    · obtain ⟨o', _, _, h1, _⟩ := n2
      exact ⟨o', by rw [z]; exact h1⟩
    · exact ⟨o, k b o z e⟩
  · refine (I.hok b u e).stay (fun d v hd q => k d v ?_ q) (fun d q => q) fun d xs q => q
    rcases hd with z | z
    · rw [z]
      exact nL b u e
    · exact nL d _ z
/-- better than all, the first of them -/
def Best (mx : Bool) (kf : Nat → Int) (n i : Nat) : Prop := ∀ j, j < n → (if mx then kf i ≥ kf j else kf i ≤ kf j) ∧ (j < i → if mx then kf i > kf j else kf i < kf j)
theorem key_run (mx : Bool) (I : Inv X pins σ H s) {scope : Scope} {y a : Str} (L : LamK scope y a) {params : Arguments} {p1 p2 p3 p4 p5 : Pos} {pm ctv : Value} {f c' : Addr}
    (hf : s.heap.get? f = some (PySem.W.kla_obj "<lambda>" (X.env.qual ++ "<lambda>") params (.Call (.Name "len" p1) [.Subscript (.Name y p2) (.Name a p3) p4] [] p5) scope (cloFrom X.env.cells scope.names []) pm c' ctv))
    (hcode : ∃ (oc : Obj) (vs : Array Value) (t : Tok), s.heap.get? c' = some oc ∧ oc.data = .fields vs ∧ vs[1]? = some (.str (X.env.qual ++ "<lambda>") t))
    (hbind : ∀ v : Value, bindArgs (PySem.W.kla_fn "<lambda>" (X.env.qual ++ "<lambda>") params (.Call (.Name "len" p1) [.Subscript (.Name y p2) (.Name a p3) p4] [] p5) scope (cloFrom X.env.cells scope.names []) pm (.ref c') ctv) ⟨[v], []⟩ = pure [(a, v)])
    (hlen : X.mg "len" = none) {cc st l : Addr} {us : List Value} (hc : X.env.cells.lookup y = some cc) (hcell : s.heap.IsCell cc (some (.ref st))) (ht : IsTup s.heap st us.toArray) (hu : us.length < 2 ^ 62)
    (hroom : X.A.in1.depth < recursionLimit) (hand : X.A.handled = none) {its : List Value} {js : List Nat} (g : Nat → Nat) (hl : s.heap.IsList l its.toArray) (hn : its.length = js.length) (h0 : 0 < js.length)
    (hi : ∀ (i j : Nat), js[i]? = some j → ∃ t : Tok, its[i]? = some (Value.int ((j : Nat) : Int) t)) (hlo : ∀ j ∈ js, ∃ (lj : Addr) (ws : List Value), us[j]? = some (.ref lj) ∧ IsTup s.heap lj ws.toArray ∧ ws.length = g j ∧ g j < 2 ^ 62)
    {Q : Value → Shared → Prop} {E : Value → Shared → Prop} (hQ : ∀ (i j : Nat) (t : Tok) (s' : Shared), js[i]? = some j → Best mx (fun i => ((g (js.getD i 0) : Nat) : Int)) js.length i → Inv X pins σ H s' → Q (.int ((j : Nat) : Int) t) s') :
    wpAny (model X.prog X.w) X.A (call (.builtin (if mx then "max" else "min")) [.ref l] [(Str.ofString "key", .ref f)]) Q E s := by
  obtain ⟨m, F⟩ := I.fr
  have nll : l ≠ X.env.locals := by
    obtain ⟨o, e, _, n, d⟩ := hl
    exact not_loc I e fun es ep z => by rw [d] at z; cases z
  have N : News X.base X.env.locals s.heap (rest s.heap X.base X.env.locals) := fun p hp => mem_rest.mp hp
  have back : ∀ {h : Heap} {news : List (Addr × Obj)}, Fr X.base X.env.locals h m → News X.base X.env.locals h (rest s.heap X.base X.env.locals ++ news) → ∀ b o, b ≠ X.env.locals → s.heap.get? b = some o → h.get? b = some o := fun {h news} F' N' b o nb e => by
    cases q : X.base.get? b with
    | none => exact (N' (b, o) (List.mem_append_left _ (mem_rest.mpr ⟨e, nb, q⟩))).1
    | some o2 =>
      have h1 := I.bk b o2 q
      rw [e] at h1
      cases h1
      exact F'.keep b o q
  have lst : ∀ h, Fr X.base X.env.locals h m → News X.base X.env.locals h (rest s.heap X.base X.env.locals) → h.IsList l its.toArray := fun h F' N' => by
    obtain ⟨o, e, r⟩ := hl
    exact ⟨o, back (news := []) F' (by rw [List.append_nil]; exact N') l o nll e, r⟩
  have turn : ∀ (i : Nat) (v : Value), its[i]? = some v → ∀ (h : Heap) (tk : Nat) (own : List (Addr × Obj)), Fr X.base X.env.locals h m → News X.base X.env.locals h (rest s.heap X.base X.env.locals ++ own) →
      wpAny (model X.prog X.w) X.A.in1 (call (.ref f) [v]) (KskEnd X.base X.env.locals m (rest s.heap X.base X.env.locals ++ own) ((g (js.getD i 0) : Nat) : Int) { s with heap := h, toks := tk }) (fun _ _ => False) { s with heap := h, toks := tk } := fun i v hv h tk own F' N' => by
    have hil := (List.getElem?_eq_some_iff.mp hv).1
    have hj : js[i]? = some (js.getD i 0) := by rw [List.getD_eq_getElem?_getD, List.getElem?_eq_getElem (by omega)]; rfl
    obtain ⟨t, e⟩ := hi i _ hj
    rw [hv] at e
    cases e
    obtain ⟨lj, ws, e1, e2, e3, e4⟩ := hlo _ (List.mem_of_getElem? hj)
    refine wpAny_mono (lam_run I L hf hcode hbind hlen hc hcell ht e1 e2 hu (by rw [e3]; exact e4) hroom (back F' N')) (fun x s2 hx => ?_) fun _ _ z => z
    obtain ⟨h', tk', t', rfl, rfl, k⟩ := hx
    refine ⟨h', tk', t', rfl, by rw [e3], ⟨?_, fun b o e => k _ _ (F'.keep b o e), F'.above⟩, fun p hp => ⟨k _ _ (N' p hp).1, (N' p hp).2⟩⟩
    obtain ⟨o, es, ep, g1, g2⟩ := F'.ns
    exact ⟨o, es, ep, k _ _ g1, g2⟩
  have fin : ∀ (i : Nat) (v : Value) (h' : Heap) (tk' : Nat), its[i]? = some v → Best mx (fun i => ((g (js.getD i 0) : Nat) : Int)) its.length i → Fr X.base X.env.locals h' m → News X.base X.env.locals h' (rest s.heap X.base X.env.locals) → Q v { s with heap := h', toks := tk' } := fun i v h' tk' hv hb F' N' => by
    have hil := (List.getElem?_eq_some_iff.mp hv).1
    have hj : js[i]? = some (js.getD i 0) := by rw [List.getD_eq_getElem?_getD, List.getElem?_eq_getElem (by omega)]; rfl
    obtain ⟨t, e⟩ := hi i _ hj
    rw [hv] at e
    cases e
    exact hQ i _ t _ hj (by rw [← hn]; exact hb) (inv_back I (back (news := []) F' (by rw [List.append_nil]; exact N')) F.ns F'.ns)
  cases mx with
  | true => exact kmk_max _ hand F N lst (by omega) turn fun i v h' tk' hv hb F' N' => fin i v h' tk' hv (fun j hj => hb j hj) F' N'
  | false => exact kmk_min _ hand F N lst (by omega) turn fun i v h' tk' hv hb F' N' => fin i v h' tk' hv (fun j hj => by have := hb j hj; exact this) F' N'
/-- a lambda made: as before, or one code object more in the table at P -/
def Step (H : Hp) (P : Addr) (q : Str) (H1 : Hp) : Prop := H1 = H ∨ ∃ (ps ps' : Array Value) (c : Addr), H P = some (.tbl ps) ∧ H c = none ∧ H1 = upd (upd H P (.tbl ps')) c (CodeO c q) ∧ TriplesOk ps'.toList ∧
  ∀ (pos : Pos) (cv : Value), codeAmong pos ps'.toList = some cv → codeAmong pos ps.toList = some cv ∨ cv = .ref c
theorem Step.look {H H1 : Hp} {P : Addr} {q : Str} (t : Step H P q H1) {b : Addr} {o : HO} (e : H b = some o) (n : ∀ ps, o ≠ .tbl ps) : H1 b = some o := by
  rcases t with rfl | ⟨ps, ps', c, e1, e2, rfl, _⟩
  · exact e
  · rw [upd_ne (ne_of_none e e2), upd_ne (fun z => ?_)]
    · exact e
    · rw [z, e1] at e
      cases e
      exact n _ rfl
theorem step_rd {H H1 : Hp} {P : Addr} {q : Str} (t : Step H P q H1) {a : Addr} {u : HO} (h : Rd H a u) (n : ∀ ps, u ≠ .tbl ps) : Rd H1 a u := by
  rcases h with h | ⟨o, h⟩
  · exact .inl (t.look h n)
  · exact .inr ⟨o, t.look h fun ps z => by cases z⟩
theorem step_l {K : PySem.W.Frag} {H H1 : Hp} {P : Addr} {q : Str} (t : Step H P q H1) {a : Addr} {xs : List V} (h : SqL K H a xs) : SqL K H1 a xs := h.imp (fun h => step_rd t h fun ps z => by cases z) id
theorem step_t {K : PySem.W.Frag} {H H1 : Hp} {P : Addr} {q : Str} (t : Step H P q H1) {a : Addr} {xs : List V} (h : SqT K H a xs) : SqT K H1 a xs := h.imp (fun h => step_rd t h fun ps z => by cases z) id
/-- a lambda is made: what becomes of the table is told -/
theorem lam_made {c P : Addr} {params : Arguments} {body : Expr} {scope : Scope} {pos : Pos} {E : Value → Shared → Prop} {Q : Value → Shared → Prop} (I : Inv X pins σ H s) (TB : TabB X.base X.mg c P) (hcode : X.env.code = .ref c)
    (hT : TabS H P (X.env.qual ++ "<lambda>")) (hdef : defaultsOf params X.env = ([], [])) (hfree : ∀ y ∈ scope.names, y.2 = .free → ∃ c, X.env.cells.lookup y.1 = some c)
    (h : ∀ (f c' : Addr) (pm ctv : Value) (H1 : Hp) (s' : Shared), Inv X pins σ H1 s' → Step H P (X.env.qual ++ "<lambda>") H1 →
      s'.heap.get? f = some (PySem.W.kla_obj "<lambda>" (X.env.qual ++ "<lambda>") params body scope (cloFrom X.env.cells scope.names []) pm c' ctv) → H1 c' = some (CodeO c' (X.env.qual ++ "<lambda>")) → Q (.ref f) s') :
    wpAny (model X.prog X.w) X.A (eval (.Lambda params body scope pos) X.env) Q E s := by
  obtain ⟨tb, eP, tr, told⟩ := hT
  have gl := I.mod.glob.keeps I.bk
  have bu := TB.bm.keeps I.bk
  have cd := TB.code.keeps I.bk
  have oP : s.heap.get? P = some { cls := .none, data := .fields tb } := I.hok P _ eP
  have cl := closure_ok (env := X.env) (scope := scope) hfree
  refine PySem.W.kla_eval hdef ?_
  match am : codeAmong pos tb.toList with
  | some cv =>
    obtain ⟨c', rfl, co⟩ := told pos cv am
    refine PySem.W.kla_makeFunctionHit (mg := X.mg) (c := c) (P := P) (ps := tb) cl I.ok.glob gl hcode cd oP tr am bu (fun ctv h' tk kp sz => ?_)
    exact h _ c' _ ctv H _ (I.kept (h' := h'.push _) (t' := tk) fun b o e => Heap.get?_push_of_some _ (kp b o e)) (.inl rfl) (Heap.get?_push_size _ rfl) co
  | none =>
    refine PySem.W.kla_makeFunction (mg := X.mg) (c := c) (P := P) (ps := tb) cl I.ok.glob gl hcode cd oP tr am TB.gP bu (fun c' ctv h' tk kp ge lt rec st => ?_)
    obtain ⟨_, oc, vs, t, z, oo, od, ov⟩ := rec
    cases z
    have cn : H c' = none := I.hok.fresh ge
    refine h _ c' _ ctv _ _ (inv_table (t' := tk) (more := #[rawInt pos.line, rawInt pos.col, .ref c']) (h' := h'.push _) I eP (fun b o n e => Heap.get?_push_of_some _ (kp b o n e)) (Heap.get?_push_of_some _ st) ge ⟨oc, vs, t, Heap.get?_push_of_some _ oo, od, ov⟩)
      (.inr ⟨tb, _, c', eP, cn, rfl, ?_, fun p2 cv e => ?_⟩) (Heap.get?_push_size _ rfl) upd_same
    · rw [Array.toList_append]
      exact PySem.TriplesOk_snoc _ _ _ _ tr
    · rw [Array.toList_append] at e
      exact among_app _ tr e
/-- max(e, key=lambda a: len(y[a])) and min: e a list of places in the tuple y of tuples -/
def tKey (K : PySem.W.Frag) (P : Addr) (qn : Str) (mx : Bool) (iy : Nat) (ta : TA) : TE := fun σ H Q => ta σ H fun xs H0 => ∃ (l st : Addr) (js : List Nat) (us : List V) (g : Nat → Nat),
  xs = [.ref l] ∧ SqL K H0 l (js.map fun j => .int ((j : Nat) : Int)) ∧ 0 < js.length ∧ σ[iy]? = some (some (.ref st)) ∧ SqT K H0 st us ∧ (∀ j ∈ js, ∃ (lj : Addr) (ws : List V), us[j]? = some (.ref lj) ∧ SqT K H0 lj ws ∧ ws.length = g j) ∧ TabS H0 P qn ∧
  ∀ (H1 : Hp) (k j : Nat), Step H0 P qn H1 → js[k]? = some j → Best mx (fun i => ((g (js.getD i 0) : Nat) : Int)) js.length k → Q (.int ((j : Nat) : Int)) H1
theorem pe_key {k : Nat} (mx : Bool) {iy : Nat} {x y a : Str} {c P : Addr} {e : Expr} {ta : TA} {params : Arguments} {scope : Scope} {nm : Option Str} {p p1 p2 p3 p4 p5 lpos kpos pos : Pos}
    (ha : PA X [e] ta) (hg : Gl X x) (hm : X.mg x = none) (hv : bootBuiltins x = some (.builtin (if mx then "max" else "min"))) (hlen : X.mg "len" = none) (hr : Room k X.A) (L : LamK scope y a) (only : ∀ z ∈ scope.names, z.2 = .free → z.1 = y)
    (hN : X.N[iy]? = some y) (hyc : X.env.scope.names.lookup y = some .cell) (TB : TabB X.base X.mg c P) (hcode : X.env.code = .ref c) (hdef : defaultsOf params X.env = ([], []))
    (hbind : ∀ (q : Str) (cl : List (Str × Addr)) (pm cv ctv v : Value), bindArgs (PySem.W.kla_fn "<lambda>" q params (.Call (.Name "len" p1) [.Subscript (.Name y p2) (.Name a p3) p4] [] p5) scope cl pm cv ctv) ⟨[v], []⟩ = pure [(a, v)])
    (hn : x ≠ "__name__" := by decide) (hdb : (x == ("__debug__" : Str)) = false := by decide)
    (h1 : backTo pos (starEach [e] X.env) = (false, eval e X.env) :: backTo pos (starEach [] X.env) := by rfl) (h2 : (backTo pos (starEach [e] X.env)).any (·.1) = false := by rfl)
    (h3 : (backToKw pos (keywordEach [⟨nm, .Lambda params (.Call (.Name "len" p1) [.Subscript (.Name y p2) (.Name a p3) p4] [] p5) scope lpos, kpos⟩] X.env)).all (·.1.isSome) = true := by rfl)
    (h4 : (backToKw pos (keywordEach [⟨nm, .Lambda params (.Call (.Name "len" p1) [.Subscript (.Name y p2) (.Name a p3) p4] [] p5) scope lpos, kpos⟩] X.env)).any (·.1.isNone) = false := by rfl)
    (h5 : (backToKw pos (keywordEach [⟨nm, .Lambda params (.Call (.Name "len" p1) [.Subscript (.Name y p2) (.Name a p3) p4] [] p5) scope lpos, kpos⟩] X.env)).filterMap (·.1) = [("key" : Str)] := by rfl) :
    PE X (.Call (.Name x p) [e] [⟨nm, .Lambda params (.Call (.Name "len" p1) [.Subscript (.Name y p2) (.Name a p3) p4] [] p5) scope lpos, kpos⟩] pos) (tKey X.K P (X.env.qual ++ "<lambda>") mx iy ta) := by
  refine ⟨fun pins s σ H Q I h => wpAny_Call_Name_kw (ld_blt I hg hm hv ?_ hn hdb)⟩
  refine PyProof.Rows.callWith_kw (thn (ha.run pos pins s σ H _ I h) fun vs s1 ⟨xs, H1, I1, r1, l, st, js, us, g, e1, hl, h0, ey, hst, hjs, hT, q⟩ => ?_) h1 h2 h3 h4
  subst e1
  rw [h5]
  show wpAny _ _ (evalAll ((do let v ← eval (.Lambda params (.Call (.Name "len" p1) [.Subscript (.Name y p2) (.Name a p3) p4] [] p5) scope lpos) X.env; standAt pos; pure v) :: [])) _ _ s1
  obtain ⟨m, hns, hlk⟩ := I1.loc
  obtain ⟨uy, ry, qy⟩ := hlk iy y _ hN ey (.inr (.inl hyc))
  obtain rfl : uy = Value.ref st := ry
  obtain ⟨cc, hcc⟩ : ∃ cc, X.env.cells.lookup y = some cc := I1.ok.has y (.inl hyc)
  refine wpAny_evalAll_cons (wpAny_bind (lam_made I1 TB hcode hT hdef (fun z hz ez => ⟨cc, by rw [only z hz ez]; exact hcc⟩) fun f c' pm ctv H2 s2 I2 eN hf hco => wpAny_bind (wpAny_standAt (wpAny_pure (wpAny_evalAll_nil ?_)))))
  obtain rfl : vs = [.ref l] := Vals.ref1 r1
  obtain ⟨⟨oc, cvs, t, hoc, hdc, hvc⟩, _, _⟩ := I2.hok c' _ hco
  obtain ⟨its, rv, pl, hz⟩ := I2.list (step_l eN hl)
  obtain ⟨it2, r2, pt, hz2⟩ := I2.tuple (step_t eN hst)
  obtain ⟨m2, hns2, hlk2⟩ := I2.loc
  obtain ⟨uy2, ry2, qy2⟩ := hlk2 iy y _ hN ey (.inr (.inl hyc))
  obtain rfl : uy2 = Value.ref st := ry2
  have hcell : s2.heap.IsCell cc (some (.ref st)) := by
    rcases qy2 with ⟨z, _⟩ | ⟨_, c2, e2, z⟩
    · have z : X.env.scope.names.lookup y = some .local := z
      rw [hyc] at z
      cases z
    · rw [hcc] at e2
      cases e2
      exact z
  have ln := rv.length
  rw [List.length_map] at ln
  rw [sizeLine_eq] at hz hz2
  refine key_run mx I2 L hf ⟨oc, cvs, t, hoc, hdc, hvc⟩ (hbind _ _ _ _ _) hlen hcc hcell pt (by have := r2.length; omega) (show X.A.depth < _ from by have := hr.dp; omega) hr.hd g pl.isList ln.symm h0 (fun i j hj => ?_) (fun j hj => ?_) (fun i j tk s' hj hb I3 => ⟨.int ((j : Nat) : Int), H2, I3, ⟨tk, rfl⟩, q H2 i j eN hj hb⟩)
  · obtain ⟨w, ew, rw'⟩ := rv.get (i := i) (by rw [List.getElem?_map, hj]; rfl)
    obtain ⟨tw, rfl⟩ := rw'
    exact ⟨tw, ew⟩
  · obtain ⟨lj, ws, e3, e4, e5⟩ := hjs j hj
    obtain ⟨w, ew, rw'⟩ := r2.get e3
    obtain rfl : w = Value.ref lj := rw'
    obtain ⟨it3, r3, p3, hz3⟩ := I2.tuple (step_t eN e4)
    rw [sizeLine_eq] at hz3
    have := r3.length
    exact ⟨lj, it3, ew, p3, by omega, by omega⟩
end
end Lk
set_option Elab.async false
set_option linter.all false
set_option maxRecDepth 100000
set_option maxHeartbeats 4000000
namespace Lk
open PySem PySem.Spec PyProof.Rows L2 LamX
open Dt
variable [Dt.Tb]
def lenD : D → Nat
  | .tup L => L.length
  | _ => 0
abbrev mKey (mx : Bool) (iy : Nat) (ma : MA) : ME := fun ρ q e => ma ρ (fun ds => ∃ (js : List Nat) (S : List D), ds = [.lst (js.map fun j => .int ((j : Nat) : Int))] ∧ 0 < js.length ∧ ρ[iy]? = some (some (.d (.tup S))) ∧ (∀ j ∈ js, ∃ L, S[j]? = some (.tup L)) ∧
  ∀ k j : Nat, js[k]? = some j → Best mx (fun i => ((lenD (S.getD (js.getD i 0) .non) : Nat) : Int)) js.length k → q (.int ((j : Nat) : Int))) e
theorem tab_of {W : Wd} {H : Hp} {P : Addr} {qn : Str} (k : Ok W H) (hT : Tb.T = [(P, qn)]) : W.G P ∧ TabW W.F H P qn := by
  have t1 := k.t.1.trans hT
  have g := k.t.2 (P, qn) (by rw [t1]; simp)
  refine ⟨g, ?_⟩
  rcases (k.g P g).2 with ⟨_, n⟩ | ⟨q, m, t⟩
  · exact absurd (by rw [t1]; simp) (n qn)
  · rw [t1] at m
    have m : q = qn := by simpa using m
    rw [← m]
    exact t
theorem go_step {W : Wd} {H H1 : Hp} {P : Addr} {qn : Str} (k : Ok W H) (hT : Tb.T = [(P, qn)]) (t : Step H P qn H1) : ∃ W1, Go W H W1 H1 := by
  obtain ⟨gP, tb, eT, eo, told⟩ := tab_of k hT
  rcases t with rfl | ⟨ps, ps', c, e1, e2, rfl, e3, e4⟩
  · exact ⟨W, .refl k⟩
  · rw [eT] at e1
    cases e1
    have fc : W.F c = none := (k.no e2).1
    have gc : ¬ W.G c := (k.no e2).2
    have cP : P ≠ c := fun z => gc (z ▸ gP)
    have fP : W.F P = none := (k.g P gP).1
    have l : ∀ b o, W.F b = some o → upd W.F c (CodeO c qn) b = some o := fun b o e => by rw [upd_ne (ne_of_none e fc)]; exact e
    have t1 := k.t.1.trans hT
    refine ⟨⟨upd W.F c (CodeO c qn), W.G, W.T⟩, ⟨l, fun _ h => h, rfl⟩, fun _ h => .inl h, fun b o e => ?_, fun b o e n => ?_, ⟨fun b o e => ?_, fun b g => ?_, k.t⟩⟩
    · by_cases z : b = c
      · exact .inr (.inl (by rw [z]; exact e2))
      · have e : upd W.F c (CodeO c qn) b = some o := e
        rw [upd_ne z] at e
        exact .inl e
    · rw [upd_ne (ne_of_none e e2), upd_ne (fun z => n (by rw [z]; exact gP))]
      exact e
    · have e : upd W.F c (CodeO c qn) b = some o := e
      by_cases z : b = c
      · subst z
        rw [upd_same] at e ⊢
        exact e
      · rw [upd_ne z] at e
        rw [upd_ne z, upd_ne (fun y => by rw [y, fP] at e; cases e)]
        exact k.f b o e
    · have bc : b ≠ c := fun z => gc (z ▸ g)
      refine ⟨by show upd W.F c _ b = none; rw [upd_ne bc]; exact (k.g b g).1, ?_⟩
      by_cases z : b = P
      · subst z
        refine .inr ⟨qn, by show _ ∈ W.T; rw [t1]; simp, ps', by rw [upd_ne cP, upd_same], e3, fun pos cv h => ?_⟩
        rcases e4 pos cv h with h | rfl
        · obtain ⟨c0, h1, h2⟩ := told pos cv h
          exact ⟨c0, h1, l _ _ h2⟩
        · exact ⟨c, rfl, upd_same (H := W.F)⟩
      · exact (k.g b g).2.mono l rfl fun o e => by rw [upd_ne bc, upd_ne z]; exact e
section
variable {E : XK} {K : PySem.W.Frag} {ta : TA} {ma : MA}
theorem si_key {P : Addr} {qn : Str} {mx : Bool} {iy : Nat} (hT : Tb.T = [(P, qn)]) (ha : SimA E 1 ta ma) : SimE E (tKey K P qn mx iy ta) (mKey mx iy ma) := fun W H0 H σ ρ Q q e R h k kx =>
  ha W H0 H σ ρ _ _ e R h (fun W1 vs ds H1 g1 hx _ h1 => by
    obtain ⟨js, S, rfl, h0, hS, hL, h2⟩ := h1
    cases hx with
    | cons hv t =>
      cases t
      obtain ⟨a, us, rfl, _, hh, tj⟩ := lst_of g1.ok hv rfl
      have e1 : us = js.map fun j => V.int ((j : Nat) : Int) := by
        have tj : VdA W1 us ((js.map fun j => ((j : Nat) : Int)).map D.int) := by rw [List.map_map]; exact tj
        rw [tj.of_ints, List.map_map]
        rfl
      obtain ⟨v2, e2, hv2⟩ := (R.go g1).var hS
      obtain ⟨st, u2, rfl, _, hst, t2⟩ := tup_of g1.ok hv2 rfl
      obtain ⟨_, tb, eT, eo, told⟩ := tab_of g1.ok hT
      refine ⟨a, st, js, u2, fun j => lenD (S.getD j .non), rfl, .of (by rw [← e1]; exact hh), h0, e2, .of hst, fun j hj => ?_, ⟨tb, eT, eo, fun pos cv z => ?_⟩, fun H2 kk j t hj hb => ?_⟩
      · obtain ⟨L, eL⟩ := hL j hj
        obtain ⟨v3, e3, hv3⟩ := t2.get' eL
        obtain ⟨lj, ws, rfl, _, hlj, t3⟩ := tup_of g1.ok hv3 rfl
        refine ⟨lj, ws, e3, .of hlj, ?_⟩
        rw [t3.length]
        show _ = lenD (S.getD j .non)
        rw [List.getD_eq_getElem?_getD, eL]
        rfl
      · obtain ⟨c, h3, h4⟩ := told pos cv z
        exact ⟨c, h3, g1.ok.f _ _ h4⟩
      · obtain ⟨W2, g2⟩ := go_step g1.ok hT t
        exact k W2 _ _ H2 (g1.trans R.ok g2) (.int _) (h2 kk j hj hb)) kx
end
end Lk
namespace Lk
open PySem PySem.Spec PyProof.Rows L2 LamX Com
open Dt
variable [Dt.Tb]
/-- a def of the module whose code object is at c -/
structure DefAtC (K : PySem.W.Frag) (mg : Str → Option Value) (x : Str) (st : Stmt) (ps : List Str) (c : Addr) : Prop where
  ex : ∃ (f : Addr) (oc : Value) (od : Option Addr) (kV doc pm : Value) (an : Option Addr) (ct : Value) (osl : Array (Option Value)), K.lookup f = some ⟨oc, od, .func (PySem.W.fnOf x x (defArgs st) (defBody st) (defScope st) .none kV doc pm an (.ref c) ct), osl⟩ ∧
    PySem.W.codeIn K (.ref c) x = true ∧ PySem.W.keepIn K (.ref f) = true ∧ mg x = some (.ref f) ∧ Binds K (PySem.W.fnOf x x (defArgs st) (defBody st) (defScope st) .none kV doc pm an (.ref c) ct) ps []
section
variable {P : Program} {w : World} {K : PySem.W.Frag} {mg : Str → Option Value} {base : Heap} {x : Str} {st : Stmt} {ps N : List Str} {k : Nat} {sp : SpD} {c : Addr}
theorem DefAtC.ok (D : DefAtC K mg x st ps c) (S : FnScope N ps (defScope st)) (len : ∀ ds q e, sp ds q e → ds.length = ps.length)
    (hbody : ∀ (f : Addr) (A : Around) (outer : List Env) (s : Shared) (H : Hp) (E : XK), Room k (A.deeper (envOfC x (defScope st) s.heap.objs.size f (.ref c))) →
      ∃ t m, PSs (cxOf CX0 P w K mg base N x (defScope st) f (.ref c) A outer s H E).nox (defBody st) t ∧ SimS E t m ∧ ∀ ds q e, sp ds q e → m (endD q) (startD N ds) e) : DefOk P w K mg base CX0 (k + 1) x (spOf sp) := by
  obtain ⟨f, oc, od, kV, doc, pm, an, ct, osl, lk, hcd, kp, m, b⟩ := D.ex
  refine ⟨f, raw0 (fn_of lk hcd S (fun vs H Q E h => ?_) (fun A outer s H vs Q E hr h => ?_)) b, m, kp⟩
  · obtain ⟨W, ds, q, e, k0, t, h, _⟩ := h
    rw [t.length, len ds q e h]
  · obtain ⟨W, ds, q, e, k0, t, h, kq, kx⟩ := h
    obtain ⟨t', m, p, sm, hm⟩ := hbody f A outer s H E hr
    exact ⟨t', p.nox, sm W H W H _ _ _ (endD q) e k0 (.refl k0) (rep_start k0 t) (hm ds q e h) (ct_end (E := E) (e := e) kq _ rfl rfl) kx⟩
end
end Lk
set_option Elab.async false
set_option linter.all false
set_option maxRecDepth 100000
set_option maxHeartbeats 4000000
namespace K27
open PySem PySem.Spec PyProof.Rows L2 Com Sd StV Gn Ext Dt
open Et (lf e_var e_non e_nil e_cons e_B e_def op_notInA s_never s_seq s_if p_var go_upd s_fld e_isi U EndsU SpU spU intsU endU xendU startU endE xendE br MethAtU.ok DefAtU.ok FunU.ok DefAtE.ok MethAtE.ok FunE.ok DefAtUX.ok MethAtUX.ok DefAtEX.ok CS CE CX putU)
variable [Dt.Tb]
section
variable {P : Program} {w : World} {K : PySem.W.Frag} {mg : Str → Option Value} {base : Heap} {C : Addr}
def lsD (ns : List Int) : Dt.D := .lst (ns.map .int)
abbrev s_doors_left : Stmt := top 15
abbrev N_doors_left : List Str := ["exchange", "standing", "ins", "outs", "load", "i", "o"]
theorem sc_doors_left : FnScope N_doors_left ["exchange", "standing"] (defScope s_doors_left) := ⟨rfl, rfl, rfl, by decide +kernel, rfl, by decide +kernel, by decide +kernel⟩
def sdDoorsLeft (C : Addr) : SpD := fun xs q _ => ∃ ds es m S, xs = [exD C ds es m, stD S] ∧ (∀ L ∈ S, ∀ p ∈ L, InP ds.length es.length p) ∧ q (.tup [lsD (left ds (fs S)), lsD (left es (sn S))])
/-- one door less -/
theorem dl_step {ds is : List Int} {i : Int} (h0 : 0 ≤ i) (h1 : i < ds.length) {Q : Ev → Prop} {ρ : Ev} {k : Nat} (h : Q (ρ.set k (some (.own ((left ds (is ++ [i])).map Dt.D.int))))) :
    ∃ kk j x, (Dt.D.int i) = .int kk ∧ ixN ((left ds is).map Dt.D.int).length kk = some j ∧ ((left ds is).map Dt.D.int)[j]? = some x ∧ fI (fun _ _ => True) (fun i j => .int (i - j)) x (.int 1) fun z => Q (ρ.set k (some (.own (((left ds is).map Dt.D.int).set j z)))) := by
  obtain ⟨n, rfl⟩ := Int.eq_ofNat_of_zero_le h0
  have l1 := left_len ds is
  have hx : (left ds is)[n]? = some (left ds is)[n] := List.getElem?_eq_getElem (by omega)
  refine ⟨_, n, .int (left ds is)[n], rfl, ?_, by rw [List.getElem?_map, hx]; rfl, trivial, ?_⟩
  · unfold ixN
    rw [if_pos (by omega), if_pos (by rw [List.length_map]; omega)]
    simp
  · rw [← left_snoc hx] at h
    rw [List.map_set] at h
    exact h
theorem ok_doors_left (T : Blt mg) (X : ExC K mg C) (Df : DefAt K mg "doors_left" s_doors_left ["exchange", "standing"]) : DefOk P w K mg base CX0 1 "doors_left" (spOf (sdDoorsLeft C)) := by
  refine DefAtD.ok Df sc_doors_left (fun ds q e h => by obtain ⟨_, _, _, _, rfl, _⟩ := h; rfl) (fun f cdv A outer s H E hr => ?_)
  refine ⟨_, _, (pss_cons (ps_par (i := 2) (j := 3) rfl sc_doors_left.nd rfl rfl (by decide) rfl rfl (pa_cons (pe_callTy (cl_list K) (by rfl) T.z_list (by decide +kernel) (pa_cons (pe_fldK K (pv 0)) pa_nil)) (pa_cons (pe_callTy (cl_list K) (by rfl) T.z_list (by decide +kernel) (pa_cons (pe_fldK K (pv 0)) pa_nil)) pa_nil)) rfl)
    (pss_cons (ps_for PassesOwn.never rfl (pi_seq K (pv 1)) (pg_name (i := 4) sc_doors_left.nd rfl (Or.inl rfl))
      (pss_one (ps_for PassesOwn.never rfl (pi_seq K (pv 4)) (pgT K (pgs_cons (pg_name (i := 5) sc_doors_left.nd rfl (Or.inl rfl)) (pgs_cons (pg_name (i := 6) sc_doors_left.nd rfl (Or.inl rfl)) pgs_nil)))
        (pss_cons (ps_augS (pv 2) (pv 5) (getL K) pe_int ip_sub set_list)
        (pss_one (ps_augS (pv 3) (pv 6) (getL K) pe_int ip_sub set_list))))))
    (pss_one (ps_ret (pe_tup (pa_cons (pv 2) (pa_cons (pv 3) pa_nil))))))), (ss_seq (ss_own2 (sn_cb (si_cons (si_fld X.t.cl X.nI si_var) si_nil) scn_list) (sn_cb (si_cons (si_fld X.t.cl X.nO si_var) si_nil) scn_list))
    (ss_seq (ss_for (si_seq si_var) sg_name
      (ss_for (si_seq si_var) (sg_tup (sg_cons sg_name (sg_cons sg_name sg_nil)))
        (ss_seq (ss_augS si_int si_var ip_I)
        (ss_augS si_int si_var ip_I))))
    (ss_frz (i := 3) (ss_frz (i := 2) (ss_ret (si_tup (si_cons si_var (si_cons si_var si_nil)))))))), fun ds q e h => ?_⟩
  obtain ⟨ds, es, m, S, rfl, hR, h⟩ := h
  refine ⟨_, rfl, _, _, _, rfl, rfl, ds.map Dt.D.int, .inl rfl, _, rfl, _, _, _, rfl, rfl, es.map Dt.D.int, .inl rfl, ?_⟩
  refine ⟨_, rfl, S.map ldD, .inl rfl, loop_inv (fun i ρ => ∃ w1 w2 w3, ρ = [some (.d (exD C ds es m)), some (.d (stD S)), some (.own ((left ds (fs (S.take i))).map .int)), some (.own ((left es (sn (S.take i))).map .int)), w1, w2, w3]) _ 0 _ ⟨none, none, none, ?_⟩ ?_ ?_⟩
  · rw [List.take_zero, show fs [] = [] from rfl, show sn [] = [] from rfl, left_nil, left_nil]
    rfl
  · rintro k x ρ N hk ⟨w1, w2, w3, rfl⟩ hN
    rw [Nat.zero_add] at hN ⊢
    rw [List.getElem?_map] at hk
    cases hL : S[k]? with
    | none => rw [hL] at hk; cases hk
    | some L =>
      rw [hL] at hk
      cases hk
      have eS : S.take (k + 1) = S.take k ++ [L] := by
        rw [List.take_add_one, hL]
        rfl
      have ef : fs (S.take (k + 1)) = fs (S.take k) ++ L.map (·.1) := by
        rw [eS]; simp [fs]
      have es' : sn (S.take (k + 1)) = sn (S.take k) ++ L.map (·.2) := by
        rw [eS]; simp [sn]
      refine ⟨_, rfl, L.map Dt.pairD, .inl rfl, loop_inv (fun j ρ => ∃ w1 w2 w3, ρ = [some (.d (exD C ds es m)), some (.d (stD S)), some (.own ((left ds (fs (S.take k) ++ (L.take j).map (·.1))).map .int)), some (.own ((left es (sn (S.take k) ++ (L.take j).map (·.2))).map .int)), w1, w2, w3]) _ 0 _ ⟨some (.d (ldD L)), w2, w3, ?_⟩ ?_ ?_⟩
      · simp
      · rintro j x ρ N2 hj ⟨w1, w2, w3, rfl⟩ hN2
        rw [Nat.zero_add] at hN2 ⊢
        rw [List.getElem?_map] at hj
        cases hp : L[j]? with
        | none => rw [hp] at hj; cases hj
        | some p =>
          rw [hp] at hj
          cases hj
          obtain ⟨r1, r2, r3, r4⟩ := hR L (List.mem_of_getElem? hL) p (List.mem_of_getElem? hp)
          have eL : L.take (j + 1) = L.take j ++ [p] := by
            rw [List.take_add_one, hp]
            rfl
          refine ⟨_, rfl, rfl, _, _, rfl, _, _, rfl, rfl, ?_⟩
          refine ⟨_, rfl, _, rfl, dl_step r1 r2 (ρ := [some (.d (exD C ds es m)), some (.d (stD S)), some (.own ((left ds (fs (S.take k) ++ (L.take j).map (·.1))).map .int)), some (.own ((left es (sn (S.take k) ++ (L.take j).map (·.2))).map .int)), w1, some (.d (.int p.1)), some (.d (.int p.2))]) ?_⟩
          refine ⟨_, rfl, _, rfl, dl_step r3 r4 (ρ := [some (.d (exD C ds es m)), some (.d (stD S)), some (.own ((left ds (fs (S.take k) ++ (L.take j).map (·.1) ++ [p.1])).map .int)), some (.own ((left es (sn (S.take k) ++ (L.take j).map (·.2))).map .int)), w1, some (.d (.int p.1)), some (.d (.int p.2))]) ?_⟩
          refine hN2 _ ⟨w1, some (.d (.int p.1)), some (.d (.int p.2)), ?_⟩
          rw [eL, List.map_append, List.map_append, List.append_assoc, List.append_assoc]
          rfl
      · rintro ρ ⟨w1, w2, w3, rfl⟩
        refine hN _ ⟨w1, w2, w3, ?_⟩
        rw [Nat.zero_add, List.length_map, List.take_length, ef, es']
  · rintro ρ ⟨w1, w2, w3, rfl⟩
    rw [Nat.zero_add, List.length_map, List.take_length]
    exact ⟨_, rfl, _, rfl, _, rfl, _, rfl, (by show 2 ≤ sizeLine; decide), h⟩
abbrev s_is_standing : Stmt := top 32
abbrev N_is_standing : List Str := ["exchange", "thing", "load", "ins", "outs"]
theorem sc_is_standing : FnScope N_is_standing ["exchange", "thing"] (defScope s_is_standing) := ⟨rfl, rfl, rfl, by decide +kernel, rfl, by decide +kernel, by decide +kernel⟩
def sdIsSta (K : PySem.W.Frag) (C : Addr) : SpD := fun xs q _ => ∃ ds es m d, xs = [exD C ds es m, d] ∧ 1 ≤ ds.length ∧ ds.length ≤ 60 ∧ 1 ≤ es.length ∧ es.length ≤ 60 ∧ m ≤ 1000 ∧ clsA K d ∧ q (.bl (isStaD ds es m d))
theorem ok_is_standing (T : Blt mg) (X : ExC K mg C) (D_is_load : DefOk P w K mg base CX0 4 "is_load" (spOf (sdIsLoad K C))) (D_doors_left : DefOk P w K mg base CX0 1 "doors_left" (spOf (sdDoorsLeft C))) (Df : DefAt K mg "is_standing" s_is_standing ["exchange", "thing"]) : DefOk P w K mg base CX0 5 "is_standing" (spOf (sdIsSta K C)) := by
  refine DefAtD.ok Df sc_is_standing (fun ds q e h => by obtain ⟨_, _, _, _, rfl, _⟩ := h; rfl) (fun f cdv A outer s H E hr => ?_)
  have hu := hr.units
  refine ⟨_, _, (pss_cons (ps_if (PW.pt (pw_or (pt_not (pt_val (pe_callB (cl_isi K) (by rfl) T.z_isinstance (by decide +kernel) (pa_cons (pv 1) (pa_cons (pe_bltn (v := .ty "tuple") (by rfl) T.z_tuple (by decide +kernel) rfl) pa_nil))))) (pw_or1 (pt_cmpR (neD K hu) (pe_callB (cl_len K) (by rfl) T.z_len (by decide +kernel) (pa_cons (pv 1) pa_nil)) (pe_fldK K (pv 0)) (nomark _)))))
      (pss_one (ps_ret pe_bl))
      pss_nil)
    (pss_cons (ps_if (pt_not (pt_val (pe_callB (cl_all K) (by rfl) T.z_all (by decide +kernel) (pa_cons (pe_lc (own := [("load", 2)]) (g := gName 2) (tt := tYes) rfl sc_is_standing.nd (pi_seq K (pv 1)) (blkOk_by (N := N_is_standing) (sc := defScope s_is_standing) (by decide +kernel)) (fun _ _ _ _ _ => (pg_name (i := 2) sc_is_standing.nd rfl (Or.inl rfl))) (fun _ _ _ _ _ => pts_nil) (fun _ _ _ _ _ => (pe_def D_is_load hr (by decide) passE (pa_cons (pv 0) (pa_cons (pv 2) pa_nil))))) pa_nil))))
      (pss_one (ps_ret pe_bl))
      pss_nil)
    (pss_cons (ps_asg (pe_def D_doors_left hr (by decide) passE (pa_cons (pv 0) (pa_cons (pv 1) pa_nil))) (pgT K (pgs_cons (pg_name (i := 3) sc_is_standing.nd rfl (Or.inl rfl)) (pgs_cons (pg_name (i := 4) sc_is_standing.nd rfl (Or.inl rfl)) pgs_nil))))
    (pss_one (ps_ret (pe_and (pe_cmpR op_ge (pe_callB (cr_min rfl) (by rfl) T.z_min (by decide +kernel) (pa_cons (pv 3) pa_nil)) pe_int (nomark _)) (pe_one (pe_cmpR op_ge (pe_callB (cr_min rfl) (by rfl) T.z_min (by decide +kernel) (pa_cons (pv 4) pa_nil)) pe_int (nomark _))))))))), (ss_seq (ss_if (si_or (si_not (si_B (si_isi (.ty "tuple") si_var))) (si_test (si_op (si_cb (si_cons si_var si_nil) sc_len) (si_fld X.t.cl X.nM si_var) sr_ne)))
      (ss_ret si_bl)
      ss_nx)
    (ss_seq (ss_if (si_not (si_B (si_cb (si_cons (si_lc (si_seq si_var) sg_name si_yes (si_def (si_cons si_var (si_cons si_var si_nil))) (by decide)) si_nil) sc_all)))
      (ss_ret si_bl)
      ss_nx)
    (ss_seq (ss_asg (si_def (si_cons si_var (si_cons si_var si_nil))) (sg_tup (sg_cons sg_name (sg_cons sg_name sg_nil))))
    (ss_ret (si_andV (si_op (si_cb (si_cons si_var si_nil) sc_min) si_int sr_B0) (si_op (si_cb (si_cons si_var si_nil) sc_min) si_int sr_B0)))))), fun ds q e h => ?_⟩
  obtain ⟨ds, es, m, d, rfl, d1, d2, e1, e2, m1, hc, h⟩ := h
  refine ⟨d, rfl, isi_go hc.ok ⟨_, rfl, ?_⟩⟩
  cases d with
  | tup xs =>
    refine ifFF ⟨_, rfl, go_lenT ⟨_, rfl, _, _, _, rfl, rfl, go_neI ⟨_, rfl, ?_⟩⟩⟩
    rw [isStaD_tup] at h
    by_cases c : ((xs.length : Nat) : Int) = m
    · rw [decide_eq_true c] at h ⊢
      rw [Bool.true_and] at h
      refine ifFF ⟨_, rfl, xs, .inl rfl, lcL_map (fun d => .bl (isLoadD ds.length es.length d)) xs [] (by show 0 + _ ≤ _; omega) (fun d hd Q hQ => ⟨_, rfl, d, rfl, _, _, _, _, rfl, d2, clsA.tup.mp hc d hd, hQ⟩) ?_⟩
      refine ⟨xs.map (isLoadD ds.length es.length), by rw [List.map_map]; rfl, _, rfl, ?_⟩
      rw [loadsOf_all]
      cases e : loadsOf ds.length es.length xs with
      | none =>
        rw [e] at h
        exact ifTT h
      | some S =>
        rw [e] at h
        obtain ⟨rfl, hp⟩ := loadsOf_some e
        refine ifFF ⟨_, rfl, _, rfl, ds, es, m, S, rfl, fun L hL => (hp L hL).rng, _, rfl, rfl, _, _, rfl, _, _, rfl, rfl, ?_⟩
        have h : q (.bl (doorB ds es S)) := h
        refine ⟨_, rfl, left ds (fs S), rfl, by rw [left_len]; omega, fun a ha hm => ⟨trivial, _, rfl, ?_⟩⟩
        have eq1 : decide (∀ d ∈ left ds (fs S), 0 ≤ d) = decide (0 ≤ a) := decide_eq_decide.mpr ⟨fun z => z a ha, fun z d hd => by have := hm d hd; omega⟩
        unfold doorB at h
        rw [eq1] at h
        cases c1 : decide (0 ≤ a) with
        | false =>
          rw [c1, Bool.false_and] at h
          exact ifFF h
        | true =>
          rw [c1, Bool.true_and] at h
          refine ifTT ⟨_, rfl, left es (sn S), rfl, by rw [left_len]; omega, fun b hb hm2 => ⟨trivial, ?_⟩⟩
          have eq2 : decide (∀ d ∈ left es (sn S), 0 ≤ d) = decide (0 ≤ b) := decide_eq_decide.mpr ⟨fun z => z b hb, fun z d hd => by have := hm2 d hd; omega⟩
          rw [eq2] at h
          exact h
    · rw [decide_eq_false c] at h ⊢
      exact ifTT h
  | _ => exact ifTT h
end
/-- an exchange as it is made -/
structure GE (ds es : List Int) (m : Int) : Prop where
  gi : Good ds
  go : Good es
  m1 : 1 ≤ m
  m2 : m ≤ 7
section
variable {P : Program} {w : World} {K : PySem.W.Frag} {mg : Str → Option Value} {base : Heap} {C : Addr}
abbrev s_empty : Stmt := top 33
abbrev N_empty : List Str := ["exchange"]
theorem sc_empty : FnScope N_empty ["exchange"] (defScope s_empty) := ⟨rfl, rfl, rfl, by decide +kernel, rfl, by decide +kernel, by decide +kernel⟩
def emS (m : Int) : List (List PP) := List.replicate m.toNat []
theorem emS_rep (n : Nat) : (List.replicate n [Dt.D.tup []]).flatten = (List.replicate n ([] : List PP)).map ldD := by
  induction n with
  | zero => rfl
  | succ n ih => rw [List.replicate_succ, List.replicate_succ, List.flatten_cons, ih]; rfl
def sdEmpty (C : Addr) : SpD := fun xs q _ => ∃ ds es m, xs = [exD C ds es m] ∧ 1 ≤ m ∧ m ≤ 1000 ∧ q (stD (emS m))
theorem ok_empty (T : Blt mg) (X : ExC K mg C) (Df : DefAt K mg "empty" s_empty ["exchange"]) : DefOk P w K mg base CX0 1 "empty" (spOf (sdEmpty C)) := by
  refine DefAtD.ok Df sc_empty (fun ds q e h => by obtain ⟨_, _, _, rfl, _⟩ := h; rfl) (fun f cdv A outer s H E hr => ⟨_, _, (pss_one (ps_ret (pe_op (repA K) (pe_tup (pa_cons (pe_tup pa_nil) pa_nil)) (pe_fldK K (pv 0))))), (ss_ret (si_op (si_tup (si_cons (si_tup si_nil) si_nil)) (si_fld X.t.cl X.nM si_var) sr_rep)), fun ds q e h => ?_⟩)
  obtain ⟨ds, es, m, rfl, m1, m2, h⟩ := h
  refine ⟨by decide, by decide, _, rfl, _, _, _, rfl, rfl, by simp, m1, m2, by decide, ?_⟩
  rw [emS_rep]
  exact h
end
end K27
set_option Elab.async false
set_option linter.all false
set_option maxRecDepth 100000
set_option maxHeartbeats 4000000
namespace K27
open PySem PySem.Spec PyProof.Rows L2 Com Sd StV Gn Ext Dt
open Et (lf e_var e_non e_nil e_cons e_B e_def op_notInA s_never s_seq s_if p_var go_upd s_fld e_isi U EndsU SpU spU intsU endU xendU startU endE xendE br MethAtU.ok DefAtU.ok FunU.ok DefAtE.ok MethAtE.ok FunE.ok DefAtUX.ok MethAtUX.ok DefAtEX.ok CS CE CX putU)
variable [Dt.Tb]
section
variable {P : Program} {w : World} {K : PySem.W.Frag} {mg : Str → Option Value} {base : Heap} {C : Addr}
abbrev s_is_free : Stmt := top 8
abbrev N_is_free : List Str := ["load", "pair", "call"]
theorem sc_is_free : FnScope N_is_free ["load", "pair"] (defScope s_is_free) := ⟨rfl, rfl, rfl, by decide +kernel, rfl, by decide +kernel, by decide +kernel⟩
def frB (p : PP) : Dt.D → Bool
  | .tup [.int a, .int b] => !decide (a = p.1) && !decide (b = p.2)
  | _ => false
theorem frB_all (L : List PP) (p : PP) : ((L.map Dt.pairD).map fun d => Dt.D.bl (frB p d)) = (L.map fun c => !decide (c.1 = p.1) && !decide (c.2 = p.2)).map Dt.D.bl := by rw [List.map_map, List.map_map]; rfl
def sdIsFree : SpD := fun xs q _ => ∃ ld L p, xs = [ld, Dt.pairD p] ∧ (ld = .tup (L.map Dt.pairD) ∨ ld = .lst (L.map Dt.pairD)) ∧ L.length ≤ 500 ∧ q (.bl (freeB L p))
theorem free_elt {ld : Dt.D} {p c : PP} {Q : KD} {e : XD} (h : Q (.bl (frB p (Dt.pairD c)))) :
    mAndV (mOp (fEq true) (mOp fIx (mVar 2) (mC (.int 0))) (mOp fIx (mVar 1) (mC (.int 0)))) (mOp (fEq true) (mOp fIx (mVar 2) (mC (.int 1))) (mOp fIx (mVar 1) (mC (.int 1)))) [some (.d ld), some (.d (Dt.pairD p)), some (.d (Dt.pairD c))] Q e := by
  refine ⟨_, rfl, go_p0 ⟨_, rfl, go_p0 (go_neI ⟨_, rfl, ?_⟩)⟩⟩
  have e1 : frB p (Dt.pairD c) = (!decide (c.1 = p.1) && !decide (c.2 = p.2)) := rfl
  rw [e1] at h
  cases c1 : decide (c.1 = p.1) with
  | true =>
    rw [c1] at h
    exact ifFF h
  | false =>
    rw [c1] at h
    exact ifTT ⟨_, rfl, go_p1 ⟨_, rfl, go_p1 (go_neI h)⟩⟩
theorem ok_is_free (T : Blt mg) (Df : DefAt K mg "is_free" s_is_free ["load", "pair"]) : DefOk P w K mg base CX0 1 "is_free" (spOf sdIsFree) := by
  refine DefAtD.ok Df sc_is_free (fun ds q e h => by obtain ⟨_, _, _, rfl, _⟩ := h; rfl) (fun f cdv A outer s H E hr => ?_)
  have hu := hr.units
  refine ⟨_, _, (pss_one (ps_ret (pe_callB (cl_all K) (by rfl) T.z_all (by decide +kernel) (pa_cons (pe_lc (own := [("call", 2)]) (g := gName 2) (tt := tYes) rfl sc_is_free.nd (pi_seq K (pv 0)) (blkOk_by (N := N_is_free) (sc := defScope s_is_free) (by decide +kernel)) (fun _ _ _ _ _ => (pg_name (i := 2) sc_is_free.nd rfl (Or.inl rfl))) (fun _ _ _ _ _ => pts_nil) (fun _ _ _ _ _ => (pe_and (pe_cmpR (neD K hu) (pe_ix (ixU K) (pv 2) pe_int (fun _ _ => rfl)) (pe_ix (ixU K) (pv 1) pe_int (fun _ _ => rfl)) (nomark _)) (pe_one (pe_cmpR (neD K hu) (pe_ix (ixU K) (pv 2) pe_int (fun _ _ => rfl)) (pe_ix (ixU K) (pv 1) pe_int (fun _ _ => rfl)) (nomark _)))))) pa_nil)))), (ss_ret (si_cb (si_cons (si_lc (si_seq si_var) sg_name si_yes (si_andV (si_op (si_op si_var si_int sr_ix) (si_op si_var si_int sr_ix) sr_ne) (si_op (si_op si_var si_int sr_ix) (si_op si_var si_int sr_ix) sr_ne)) (by decide)) si_nil) sc_all)), fun ds q e h => ?_⟩
  obtain ⟨ld, L, p, rfl, hl, h5, h⟩ := h
  refine ⟨_, rfl, _, hl, lcL_map (fun d => .bl (frB p d)) _ [] (by rw [List.length_map]; show 0 + _ ≤ _; omega) (fun d hd Q hQ => ?_) ?_⟩
  · obtain ⟨c, _, rfl⟩ := List.mem_map.mp hd
    exact free_elt hQ
  rw [List.nil_append, frB_all]
  refine ⟨_, rfl, ?_⟩
  rw [List.all_map]
  exact h
abbrev s_free_for : Stmt := top 17
abbrev N_free_for : List Str := ["standing", "pair", "k", "load"]
theorem sc_free_for : FnScope N_free_for ["standing", "pair"] (defScope s_free_for) := ⟨rfl, rfl, rfl, by decide +kernel, rfl, by decide +kernel, by decide +kernel⟩
def sdFreeFor : SpD := fun xs q _ => ∃ S p, xs = [stD S, Dt.pairD p] ∧ S.length ≤ 500 ∧ (∀ L ∈ S, L.length ≤ 500) ∧ q (lsD (frees S p))
def fr1 (p : PP) : Dt.D → Bool
  | .tup [_, .tup ds] => (ds.map (frB p)).all id
  | _ => false
theorem fr1_eq (p : PP) (i : Int) (L : List PP) : fr1 p (.tup [.int i, ldD L]) = freeB L p := by
  show ((L.map Dt.pairD).map (frB p)).all id = _
  rw [List.map_map, List.all_map]
  rfl
theorem enum_frees (p : PP) : ∀ (S : List (List PP)) (i : Nat), ((enumD i (S.map ldD)).filter (fr1 p)).map it0 = (((List.range S.length).filter fun k => freeB (S.getD k []) p).map fun k => ((i + k : Nat) : Int)).map Dt.D.int
  | [], i => rfl
  | L :: S, i => by
    rw [List.map_cons, enumD, List.length_cons, List.range_succ_eq_map, List.filter_cons, List.filter_cons, fr1_eq]
    have ih := enum_frees p S (i + 1)
    have e2 : ((List.map Nat.succ (List.range S.length)).filter fun k => freeB ((L :: S).getD k []) p) = ((List.range S.length).filter fun k => freeB (S.getD k []) p).map Nat.succ := by
      rw [List.filter_map]
      rfl
    have e3 : freeB ((L :: S).getD 0 []) p = freeB L p := rfl
    rw [e3, e2]
    cases freeB L p with
    | true =>
      rw [if_pos rfl, if_pos rfl, List.map_cons, List.map_cons, List.map_cons, ih, List.map_map, List.map_map, List.map_map]
      congr 1
      refine List.map_congr_left fun k _ => ?_
      show Dt.D.int (((i + 1 + k : Nat)) : Int) = Dt.D.int (((i + (k + 1) : Nat)) : Int)
      rw [show i + 1 + k = i + (k + 1) by omega]
    | false =>
      rw [if_neg (by decide), if_neg (by decide), ih, List.map_map, List.map_map, List.map_map]
      refine List.map_congr_left fun k _ => ?_
      show Dt.D.int (((i + 1 + k : Nat)) : Int) = Dt.D.int (((i + (k + 1) : Nat)) : Int)
      rw [show i + 1 + k = i + (k + 1) by omega]
theorem enum_mem {S : List (List PP)} {d : Dt.D} : ∀ {i : Nat}, d ∈ enumD i (S.map ldD) → ∃ (k : Int) (L : List PP), d = .tup [.int k, ldD L] ∧ L ∈ S := by
  induction S with
  | nil => intro i h; simp [enumD] at h
  | cons L S ih =>
    intro i h
    rw [List.map_cons, enumD] at h
    rcases List.mem_cons.mp h with rfl | h
    · exact ⟨_, L, rfl, List.mem_cons_self ..⟩
    · obtain ⟨k, M, e, hm⟩ := ih h
      exact ⟨k, M, e, List.mem_cons_of_mem _ hm⟩
theorem ok_free_for (T : Blt mg) (D_is_free : DefOk P w K mg base CX0 1 "is_free" (spOf sdIsFree)) (Df : DefAt K mg "free_for" s_free_for ["standing", "pair"]) : DefOk P w K mg base CX0 2 "free_for" (spOf sdFreeFor) := by
  refine DefAtD.ok Df sc_free_for (fun ds q e h => by obtain ⟨_, _, rfl, _⟩ := h; rfl) (fun f cdv A outer s H E hr => ⟨_, _, (pss_one (ps_ret (pe_lc (own := [("k", 2), ("load", 3)]) (g := gTup K 2 (gCons (gName 2) (gCons (gName 3) gNil))) (tt := _) rfl sc_free_for.nd (pi_enumU K (by rfl) T.z_enumerate (pa_cons (pv 0) pa_nil)) (blkOk_by (N := N_free_for) (sc := defScope s_free_for) (by decide +kernel)) (fun _ _ _ _ _ => (pgT K (pgs_cons (pg_name (i := 2) sc_free_for.nd rfl (Or.inl rfl)) (pgs_cons (pg_name (i := 3) sc_free_for.nd rfl (Or.inl rfl)) pgs_nil)))) (fun _ _ _ _ _ => (pts_one (pt_val (pe_def D_is_free hr (by decide) passE (pa_cons (pv 3) (pa_cons (pv 1) pa_nil)))))) (fun _ _ _ _ _ => (pv 2))))), (ss_ret (si_lc (si_enum (si_cons si_var si_nil)) (sg_tup (sg_cons sg_name (sg_cons sg_name sg_nil))) (si_B (si_def (si_cons si_var (si_cons si_var si_nil)))) si_var (by decide))), fun ds q e h => ?_⟩)
  obtain ⟨S, p, rfl, h5, hL, h⟩ := h
  refine ⟨_, rfl, _, .inl rfl, lcL_filter (fr1 p) it0 _ [] (by rw [enumD_len, List.length_map]; show 0 + _ ≤ _; omega) (fun d hd Q hQ => ?_) ?_⟩
  · obtain ⟨k, L, rfl, hm⟩ := enum_mem hd
    refine ⟨_, rfl, rfl, _, _, rfl, _, _, rfl, rfl, _, rfl, _, rfl, _, L, p, rfl, .inl rfl, hL L hm, _, rfl, ?_⟩
    have := hQ [some (.d (stD S)), some (.d (Dt.pairD p)), some (.d (.int k)), some (.d (ldD L))] fun _ Q' hQ' => ⟨_, rfl, hQ'⟩
    rw [fr1_eq] at this
    exact this
  · rw [List.nil_append, enum_frees]
    have e : (((List.range S.length).filter fun k => freeB (S.getD k []) p).map fun k => ((0 + k : Nat) : Int)) = frees S p := by
      unfold frees
      refine List.map_congr_left fun k _ => ?_
      rw [Nat.zero_add]
      rfl
    rw [e]
    exact h
abbrev s_Exchange_pairs : Stmt := inClass (top 52) 4
abbrev N_Exchange_pairs : List Str := ["self", "i", "o"]
theorem sc_Exchange_pairs : FnScope N_Exchange_pairs ["self"] (defScope s_Exchange_pairs) := ⟨rfl, rfl, rfl, by decide +kernel, rfl, by decide +kernel, by decide +kernel⟩
def sdPairs (C : Addr) : SpD := fun xs q _ => ∃ ds es m, xs = [exD C ds es m] ∧ ds.length ≤ 100 ∧ es.length ≤ 100 ∧ q (.lst ((pairsL ds.length es.length).map Dt.pairD))
theorem ok_pairs (T : Blt mg) (X : ExC K mg C) (Df : MethAt K C "pairs" "Exchange.pairs" s_Exchange_pairs ["self"]) : MethOk P w K mg base CX0 1 C "pairs" (spOf (sdPairs C)) := by
  refine MethAtD.ok Df sc_Exchange_pairs (fun ds q e h => by obtain ⟨_, _, _, rfl, _⟩ := h; rfl) (fun f cdv A outer s H E hr => ⟨_, _, (pss_one (ps_ret (pe_lc2 (own := [("i", 1), ("o", 2)]) (vs1 := [2]) (g := gName 1) (g1 := gName 2) (tt := tYes) (tt1 := tYes) rfl sc_Exchange_pairs.nd (pi_range1 (by rfl) T.z_range (pa_cons (pe_callB (cl_len K) (by rfl) T.z_len (by decide +kernel) (pa_cons (pe_fldK K (pv 0)) pa_nil)) pa_nil)) (blkOk_by (N := N_Exchange_pairs) (sc := defScope s_Exchange_pairs) (by decide +kernel)) (by decide) (fun _ _ _ _ _ => by exact (pg_name (i := 1) sc_Exchange_pairs.nd rfl (Or.inl rfl))) (fun _ _ _ _ _ => by exact pts_nil) (fun _ _ _ _ _ => by exact (pi_range1 (by rfl) T.z_range (pa_cons (pe_callB (cl_len K) (by rfl) T.z_len (by decide +kernel) (pa_cons (pe_fldK K (pv 0)) pa_nil)) pa_nil))) (fun _ _ _ _ _ => by exact (pg_name (i := 2) sc_Exchange_pairs.nd rfl (Or.inl rfl))) (fun _ _ _ _ _ => by exact pts_nil) (fun _ _ _ _ _ => by exact (pe_tup (pa_cons (pv 1) (pa_cons (pv 2) pa_nil))))))), (ss_ret (si_lc2 (si_rng1 (si_cons (si_cb (si_cons (si_fld X.t.cl X.nI si_var) si_nil) sc_len) si_nil)) sg_name si_yes (si_rng1 (si_cons (si_cb (si_cons (si_fld X.t.cl X.nO si_var) si_nil) sc_len) si_nil)) sg_name si_yes (si_tup (si_cons si_var (si_cons si_var si_nil))) (by decide) (by decide))), fun ds q e h => ?_⟩)
  obtain ⟨ds, es, m, rfl, l1, l2, h⟩ := h
  have e1 : ∀ ns : List Int, ((((ns.map Dt.D.int).length : Nat) : Int)).toNat = ns.length := fun ns => by rw [List.length_map]; omega
  refine ⟨_, rfl, _, _, _, rfl, rfl, go_lenT ⟨_, rfl, by rw [List.length_map]; omega, by omega, ?_⟩⟩
  rw [e1]
  have hfm : ((List.range ds.length).map fun (i : Nat) => Dt.D.int (i : Int)).flatMap (fun d => match d with | .int i => (rowL i.toNat es.length).map Dt.pairD | _ => []) = (pairsL ds.length es.length).map Dt.pairD := by
    unfold pairsL
    rw [List.flatMap_map, List.map_flatMap]
    rfl
  refine lc2_flat (fun d => match d with | .int i => (rowL i.toNat es.length).map Dt.pairD | _ => []) _ [] ?_ (fun d hd acc Q hl hQ => ?_) ?_
  · rw [hfm, List.length_map, pairsL_len]
    have : ds.length * es.length ≤ 100 * 100 := Nat.mul_le_mul l1 l2
    show 0 + _ ≤ _
    omega
  · obtain ⟨i, _, rfl⟩ := List.mem_map.mp hd
    refine ⟨_, rfl, _, _, _, rfl, rfl, go_lenT ⟨_, rfl, by rw [List.length_map]; omega, by omega, ?_⟩⟩
    rw [e1]
    refine lcL_map (fun d => .tup [.int (i : Int), d]) _ acc (by rw [List.length_map, List.length_range]; rw [List.length_map, rowL_len] at hl; exact hl) (fun d hd Q2 h2 => ?_) ?_
    · obtain ⟨j, _, rfl⟩ := List.mem_map.mp hd
      exact ⟨_, rfl, _, rfl, (by show 2 ≤ sizeLine; decide), h2⟩
    · have e2 : (List.map (fun d => Dt.D.tup [Dt.D.int (i : Int), d]) ((List.range es.length).map fun (j : Nat) => Dt.D.int (j : Int))) = (rowL ((i : Int).toNat) es.length).map Dt.pairD := by
        unfold rowL
        rw [List.map_map, List.map_map]
        rfl
      rw [e2]
      exact hQ
  · rw [List.nil_append, hfm]
    exact h
abbrev s_open_pairs : Stmt := top 16
abbrev N_open_pairs : List Str := ["exchange", "standing", "ins", "outs", "i", "o"]
theorem sc_open_pairs : FnScope N_open_pairs ["exchange", "standing"] (defScope s_open_pairs) := ⟨rfl, rfl, rfl, by decide +kernel, rfl, by decide +kernel, by decide +kernel⟩
def sdOpenPairs (C : Addr) : SpD := fun xs q _ => ∃ ds es m S, xs = [exD C ds es m, stD S] ∧ ds.length ≤ 100 ∧ es.length ≤ 100 ∧ (∀ L ∈ S, ∀ p ∈ L, InP ds.length es.length p) ∧ q (.lst ((opens ds es S).map Dt.pairD))
theorem ok_open_pairs (T : Blt mg) (X : ExC K mg C) (M_pairs : MethOk P w K mg base CX0 1 C "pairs" (spOf (sdPairs C))) (D_doors_left : DefOk P w K mg base CX0 1 "doors_left" (spOf (sdDoorsLeft C))) (Df : DefAt K mg "open_pairs" s_open_pairs ["exchange", "standing"]) : DefOk P w K mg base CX0 2 "open_pairs" (spOf (sdOpenPairs C)) := by
  refine DefAtD.ok Df sc_open_pairs (fun ds q e h => by obtain ⟨_, _, _, _, rfl, _⟩ := h; rfl) (fun f cdv A outer s H E hr => ⟨_, _, (pss_cons (ps_asg (pe_def D_doors_left hr (by decide) passE (pa_cons (pv 0) (pa_cons (pv 1) pa_nil))) (pgT K (pgs_cons (pg_name (i := 2) sc_open_pairs.nd rfl (Or.inr rfl)) (pgs_cons (pg_name (i := 3) sc_open_pairs.nd rfl (Or.inr rfl)) pgs_nil))))
    (pss_one (ps_ret (pe_lc (own := [("i", 4), ("o", 5)]) (g := gTup K 2 (gCons (gName 4) (gCons (gName 5) gNil))) (tt := _) rfl sc_open_pairs.nd (pi_seq K (pe_mth0 (pv 0) X.t.cl M_pairs hr (by decide) passE)) (blkOk_by (N := N_open_pairs) (sc := defScope s_open_pairs) (by decide +kernel)) (fun _ _ _ _ _ => (pgT K (pgs_cons (pg_name (i := 4) sc_open_pairs.nd rfl (Or.inl rfl)) (pgs_cons (pg_name (i := 5) sc_open_pairs.nd rfl (Or.inl rfl)) pgs_nil)))) (fun _ _ _ _ _ => (pts_one (PW.pt (pw_and (pt_cmpR op_gt (pe_ix (ixU K) (pv 2) (pv 4) (fun _ _ => rfl)) pe_int (nomark _)) (pw_and1 (pt_cmpR op_gt (pe_ix (ixU K) (pv 3) (pv 5) (fun _ _ => rfl)) pe_int (nomark _))))))) (fun _ _ _ _ _ => (pe_tup (pa_cons (pv 4) (pa_cons (pv 5) pa_nil)))))))), (ss_seq (ss_asg (si_def (si_cons si_var (si_cons si_var si_nil))) (sg_tup (sg_cons sg_name (sg_cons sg_name sg_nil))))
    (ss_ret (si_lc (si_seq (si_mth si_var si_nil)) (sg_tup (sg_cons sg_name (sg_cons sg_name sg_nil))) (si_and (si_test (si_op (si_op si_var si_var sr_ix) si_int sr_B0)) (si_test (si_op (si_op si_var si_var sr_ix) si_int sr_B0))) (si_tup (si_cons si_var (si_cons si_var si_nil))) (by decide)))), fun ds q e h => ?_⟩)
  obtain ⟨ds, es, m, S, rfl, l1, l2, hR, h⟩ := h
  refine ⟨_, rfl, _, rfl, ds, es, m, S, rfl, hR, _, rfl, rfl, _, _, rfl, _, _, rfl, rfl, ?_⟩
  have pl := pairsL_len ds.length es.length
  have pm : ds.length * es.length ≤ 100 * 100 := Nat.mul_le_mul l1 l2
  refine ⟨_, rfl, _, _, rfl, by decide, ds, es, m, rfl, l1, l2, _, .inr rfl, lcL_filter (fun d => match d with | .tup [.int a, .int b] => openB ds es S (a, b) | _ => false) id _ [] (by rw [List.length_map]; show 0 + _ ≤ _; omega) (fun d hd Q hQ => ?_) ?_⟩
  · obtain ⟨p, hp, rfl⟩ := List.mem_map.mp hd
    obtain ⟨r1, r2, r3, r4⟩ := pairsL_in hp
    have a1 := left_len ds (fs S)
    have a2 := left_len es (sn S)
    refine ⟨_, rfl, rfl, _, _, rfl, _, _, rfl, rfl, ?_⟩
    refine ⟨_, rfl, _, rfl, go_ixI r1 (by rw [left_len]; exact r2) ⟨trivial, _, rfl, ?_⟩⟩
    have hQ' := hQ [some (.d (exD C ds es m)), some (.d (stD S)), some (.d (lsD (left ds (fs S)))), some (.d (lsD (left es (sn S)))), some (.d (.int p.1)), some (.d (.int p.2))] fun _ Q' hQ' => ⟨_, rfl, _, rfl, (by show 2 ≤ sizeLine; decide), hQ'⟩
    have eo : openB ds es S p = (decide (0 < (left ds (fs S)).getD p.1.toNat 0) && decide (0 < (left es (sn S)).getD p.2.toNat 0)) := rfl
    have hQ'' : Q (openB ds es S p) _ := hQ'
    rw [eo] at hQ''
    cases c1 : decide (0 < (left ds (fs S)).getD p.1.toNat 0) with
    | false =>
      rw [c1, Bool.false_and] at hQ''
      exact ifFF hQ''
    | true =>
      rw [c1, Bool.true_and] at hQ''
      exact ifTT ⟨_, rfl, _, rfl, go_ixI r3 (by rw [left_len]; exact r4) ⟨trivial, _, rfl, hQ''⟩⟩
  · rw [List.nil_append, List.map_id]
    have e : ((pairsL ds.length es.length).map Dt.pairD).filter (fun d => match d with | .tup [.int a, .int b] => openB ds es S (a, b) | _ => false) = (opens ds es S).map Dt.pairD := by
      unfold opens
      rw [List.filter_map]
      rfl
    rw [e]
    exact h
end
/-- what the top has made of the class Rule -/
structure RuC (K : PySem.W.Frag) (C : Addr) : Prop where
  cl : Cls K C
  n1 : NoAttr K C "exchange"
  n2 : NoAttr K C "word"
  n3 : NoAttr K C "table"
  wd : ∃ mc v u p, ClX.CRead K C mc ∧ ClX.CVal K C mc "WORDS" v u ∧ v = .ref p ∧ ∀ H, SqT K H p [.str "first", .str "last", .str "fullest", .str "emptiest", .str "busy"]
def ruD (RC : Addr) (ex : Dt.D) (wd : Str) : Dt.D := .obj RC ["exchange", "word", "table"] [ex, .str wd, .non]
def Wrd (s : Str) : Prop := s = "first" ∨ s = "last" ∨ s = "fullest" ∨ s = "emptiest" ∨ s = "busy"
theorem wrd_sh : ∀ {s : Str}, Wrd s → SeqAt.shaped (.str s) = true := by
  rintro s (rfl | rfl | rfl | rfl | rfl) <;> decide +kernel
def stepW (wd : Str) (S : List (List PP)) (best k : Nat) : Nat :=
  let b1 := if wd = "fullest" ∧ (S.getD k []).length > (S.getD best []).length then k else best
  let b2 := if wd = "emptiest" ∧ (S.getD k []).length < (S.getD b1 []).length then k else b1
  if wd = "busy" ∧ S.getD b2 [] = [] ∧ ¬ S.getD k [] = [] then k else b2
def bestW (wd : Str) (S : List (List PP)) (fr : List Nat) : Nat := if wd = "first" then fr.getD 0 0 else if wd = "last" then fr.getD (fr.length - 1) 0 else fr.foldl (stepW wd S) (fr.getD 0 0)
def freeN (S : List (List PP)) (p : PP) : List Nat := (List.range S.length).filter fun k => freeB (S.getD k []) p
theorem frees_N (S : List (List PP)) (p : PP) : frees S p = (freeN S p).map fun k => ((k : Nat) : Int) := rfl
theorem words_ne : ("first" : Str) ≠ "last" ∧ ("first" : Str) ≠ "fullest" ∧ ("first" : Str) ≠ "emptiest" ∧ ("first" : Str) ≠ "busy" ∧ ("last" : Str) ≠ "fullest" ∧ ("last" : Str) ≠ "emptiest" ∧ ("last" : Str) ≠ "busy" ∧ ("fullest" : Str) ≠ "emptiest" ∧ ("fullest" : Str) ≠ "busy" ∧ ("emptiest" : Str) ≠ "busy" := by decide +kernel
def stepG (mx : Bool) (g : Nat → Nat) (b k : Nat) : Nat := if mx then (if g k > g b then k else b) else (if g k < g b then k else b)
theorem best_uniq {mx : Bool} {kf : Nat → Int} {n i j : Nat} (hi : Lk.Best mx kf n i) (hj : Lk.Best mx kf n j) (li : i < n) (lj : j < n) : i = j := by
  rcases Nat.lt_trichotomy i j with h | h | h
  · have a := (hi j lj).1
    have b := (hj i li).2 h
    cases mx
    · have a : kf i ≤ kf j := a
      have b : kf j < kf i := b
      omega
    · have a : kf i ≥ kf j := a
      have b : kf j > kf i := b
      omega
  · exact h
  · have a := (hj i li).1
    have b := (hi j lj).2 h
    cases mx
    · have a : kf j ≤ kf i := a
      have b : kf i < kf j := b
      omega
    · have a : kf j ≥ kf i := a
      have b : kf i > kf j := b
      omega
theorem best_cong {mx : Bool} {kf kg : Nat → Int} {n i : Nat} (li : i < n) (e : ∀ j, j < n → kf j = kg j) (h : Lk.Best mx kf n i) : Lk.Best mx kg n i := fun j hj => by
  rw [← e j hj, ← e i li]
  exact h j hj
theorem fold_g (mx : Bool) (g : Nat → Nat) : ∀ (l seen : List Nat) (b i : Nat), seen[i]? = some b → Lk.Best mx (fun i => ((g (seen.getD i 0) : Nat) : Int)) seen.length i →
    ∃ i', (seen ++ l)[i']? = some (l.foldl (stepG mx g) b) ∧ Lk.Best mx (fun i => ((g ((seen ++ l).getD i 0) : Nat) : Int)) (seen ++ l).length i'
  | [], seen, b, i, h1, h2 => ⟨i, by rw [List.append_nil]; exact h1, by rw [List.append_nil]; exact h2⟩
  | k :: l, seen, b, i, h1, h2 => by
    have li := (List.getElem?_eq_some_iff.mp h1).1
    have gb : seen.getD i 0 = b := by rw [List.getD_eq_getElem?_getD, h1]; rfl
    have old : ∀ j, j < seen.length → (seen ++ [k]).getD j 0 = seen.getD j 0 := fun j hj => by rw [List.getD_eq_getElem?_getD, List.getD_eq_getElem?_getD, List.getElem?_append_left hj]
    have new : (seen ++ [k]).getD seen.length 0 = k := by rw [List.getD_eq_getElem?_getD, List.getElem?_append_right (Nat.le_refl _), Nat.sub_self]; rfl
    have e : seen ++ k :: l = (seen ++ [k]) ++ l := by rw [List.append_assoc]; rfl
    rw [e, List.foldl_cons]
    have ln : (seen ++ [k]).length = seen.length + 1 := by rw [List.length_append]; rfl
    by_cases c : stepG mx g b k = b
    · rw [c]
      refine fold_g mx g l (seen ++ [k]) b i (by rw [List.getElem?_append_left li]; exact h1) fun j hj => ?_
      rw [ln] at hj
      dsimp only
      rw [old i li, gb]
      by_cases q : j < seen.length
      · rw [old j q]
        have := h2 j q
        dsimp only at this
        rw [gb] at this
        exact this
      · have : j = seen.length := by omega
        subst this
        rw [new]
        refine ⟨?_, fun z => by omega⟩
        unfold stepG at c
        cases mx
        · rw [if_neg (by decide)] at c ⊢
          by_cases z : g k < g b
          · rw [if_pos z] at c; rw [c]; omega
          · omega
        · rw [if_pos rfl] at c ⊢
          by_cases z : g k > g b
          · rw [if_pos z] at c; rw [c]; omega
          · omega
    · have ck : stepG mx g b k = k ∧ (if mx then g k > g b else g k < g b) := by
        unfold stepG at c ⊢
        cases mx
        · rw [if_neg (by decide)] at c ⊢
          by_cases z : g k < g b
          · rw [if_pos z]; exact ⟨rfl, by rw [if_neg (by decide)]; exact z⟩
          · rw [if_neg z] at c; exact absurd rfl c
        · rw [if_pos rfl] at c ⊢
          by_cases z : g k > g b
          · rw [if_pos z]; exact ⟨rfl, by rw [if_pos rfl]; exact z⟩
          · rw [if_neg z] at c; exact absurd rfl c
      obtain ⟨ck, cg⟩ := ck
      rw [ck]
      refine fold_g mx g l (seen ++ [k]) k seen.length (by rw [List.getElem?_append_right (Nat.le_refl _), Nat.sub_self]; rfl) fun j hj => ?_
      rw [ln] at hj
      dsimp only
      rw [new]
      by_cases q : j < seen.length
      · rw [old j q]
        have := h2 j q
        dsimp only at this
        rw [gb] at this
        cases mx
        · have a : ((g b : Nat) : Int) ≤ ((g (seen.getD j 0) : Nat) : Int) := this.1
          have cg : g k < g b := cg
          exact ⟨show ((g k : Nat) : Int) ≤ _ by omega, fun _ => show ((g k : Nat) : Int) < _ by omega⟩
        · have a : ((g b : Nat) : Int) ≥ ((g (seen.getD j 0) : Nat) : Int) := this.1
          have cg : g k > g b := cg
          exact ⟨show ((g k : Nat) : Int) ≥ _ by omega, fun _ => show ((g k : Nat) : Int) > _ by omega⟩
      · have : j = seen.length := by omega
        subst this
        rw [new]
        cases mx
        · exact ⟨Int.le_refl _, fun z => by omega⟩
        · exact ⟨Int.le_refl _, fun z => by omega⟩
theorem fold_best (mx : Bool) (g : Nat → Nat) {fr : List Nat} (h : 0 < fr.length) : ∃ i, fr[i]? = some (fr.foldl (stepG mx g) (fr.getD 0 0)) ∧ Lk.Best mx (fun i => ((g (fr.getD i 0) : Nat) : Int)) fr.length i := by
  match fr, h with
  | a :: l, _ =>
    have e : stepG mx g a a = a := by unfold stepG; cases mx <;> simp
    have := fold_g mx g l [a] a 0 rfl fun j hj => by
      have : j = 0 := by have : j < 1 := hj; omega
      subst this
      cases mx
      · exact ⟨Int.le_refl _, fun z => by omega⟩
      · exact ⟨Int.le_refl _, fun z => by omega⟩
    obtain ⟨i, e1, e2⟩ := this
    refine ⟨i, ?_, e2⟩
    show ([a] ++ l)[i]? = some (l.foldl (stepG mx g) (stepG mx g ((a :: l).getD 0 0) a))
    rw [show (a :: l).getD 0 0 = a from rfl, e]
    exact e1
theorem step_full (S : List (List PP)) : stepW "fullest" S = stepG true fun k => (S.getD k []).length := by
  funext b k
  unfold stepW stepG
  have w1 : ¬ ("fullest" : Str) = "emptiest" := words_ne.2.2.2.2.2.2.2.1
  have w2 : ¬ ("fullest" : Str) = "busy" := words_ne.2.2.2.2.2.2.2.2.1
  dsimp only
  rw [if_pos rfl]
  rw [if_neg (fun z => w2 z.1), if_neg (fun z => w1 z.1)]
  by_cases c : (S.getD k []).length > (S.getD b []).length
  · rw [if_pos ⟨rfl, c⟩, if_pos c]
  · rw [if_neg (fun z => c z.2), if_neg c]
theorem step_empt (S : List (List PP)) : stepW "emptiest" S = stepG false fun k => (S.getD k []).length := by
  funext b k
  unfold stepW stepG
  have w1 : ¬ ("emptiest" : Str) = "fullest" := fun z => words_ne.2.2.2.2.2.2.2.1 z.symm
  have w2 : ¬ ("emptiest" : Str) = "busy" := words_ne.2.2.2.2.2.2.2.2.2
  simp [w1, w2]
def busyB (S : List (List PP)) (k : Nat) : Bool := !decide (S.getD k [] = [])
theorem fold_busy (S : List (List PP)) : ∀ (l : List Nat) (b : Nat), l.foldl (stepW "busy" S) b = if busyB S b then b else (l.filter (busyB S)).getD 0 b
  | [], b => by split <;> rfl
  | k :: l, b => by
    have w1 : ¬ ("busy" : Str) = "fullest" := fun z => words_ne.2.2.2.2.2.2.2.2.1 z.symm
    have w2 : ¬ ("busy" : Str) = "emptiest" := fun z => words_ne.2.2.2.2.2.2.2.2.2 z.symm
    have e : stepW "busy" S b k = if S.getD b [] = [] ∧ ¬ S.getD k [] = [] then k else b := by
      unfold stepW
      dsimp only
      rw [if_neg (fun z : _ ∧ (S.getD k []).length > _ => w1 z.1), if_neg (fun z : _ ∧ (S.getD k []).length < _ => w2 z.1)]
      by_cases c : S.getD b [] = [] ∧ ¬ S.getD k [] = []
      · rw [if_pos ⟨rfl, c⟩, if_pos c]
      · rw [if_neg (fun z => c z.2), if_neg c]
    rw [List.foldl_cons, e, fold_busy S l]
    by_cases cb : S.getD b [] = []
    · have bb : busyB S b = false := by unfold busyB; rw [decide_eq_true cb]; rfl
      by_cases ck : S.getD k [] = []
      · have bk : busyB S k = false := by unfold busyB; rw [decide_eq_true ck]; rfl
        rw [show (if S.getD b [] = [] ∧ ¬ S.getD k [] = [] then k else b) = b from if_neg (fun z => z.2 ck), bb, List.filter_cons, if_neg (show ¬ false = true by decide), if_neg (show ¬ false = true by decide), bk, if_neg (show ¬ false = true by decide)]
      · have bk : busyB S k = true := by unfold busyB; rw [decide_eq_false ck]; rfl
        rw [show (if S.getD b [] = [] ∧ ¬ S.getD k [] = [] then k else b) = k from if_pos ⟨cb, ck⟩, bk, if_pos rfl, bb, List.filter_cons, if_pos bk]
        rfl
    · have bb : busyB S b = true := by unfold busyB; rw [decide_eq_false cb]; rfl
      rw [show (if S.getD b [] = [] ∧ ¬ S.getD k [] = [] then k else b) = b from if_neg (fun z => cb z.1), bb, if_pos rfl, if_pos rfl]
theorem best_busy (S : List (List PP)) {fr : List Nat} (h : 0 < fr.length) : fr.foldl (stepW "busy" S) (fr.getD 0 0) = (fr.filter (busyB S) ++ fr).getD 0 0 := by
  match fr, h with
  | a :: l, _ =>
    rw [fold_busy]
    show (if busyB S a then a else _) = _
    rw [List.filter_cons]
    by_cases c : busyB S a = true
    · rw [if_pos c, if_pos c]
      rfl
    · rw [if_neg c, if_neg c]
      cases l.filter (busyB S) with
      | nil => rfl
      | cons b r => rfl
section
variable {P : Program} {w : World} {K : PySem.W.Frag} {mg : Str → Option Value} {base : Heap} {C RC CD fD : Addr}
/-- the word is one of the rule's words -/
theorem si_words {E : XK} (R : RuC K RC) : SimE E (tOp (rIn K false) (tVar 0) (ClX.tCVal K (tC (.ref RC)) "WORDS")) (fun ρ q e => ∃ s, ρ[0]? = some (some (.d (.str s))) ∧ q (.bl (inV (.str s) [.str "first", .str "last", .str "fullest", .str "emptiest", .str "busy"]))) := fun W H0 H σ ρ Q q e Rp hm k kx => by
  obtain ⟨s, h1, hq⟩ := hm
  obtain ⟨v, e1, hv⟩ := Rp.var h1
  cases hv
  obtain ⟨mc, v, u, p, r1, r2, rfl, r3⟩ := R.wd
  exact ⟨_, e1, RC, mc, _, u, rfl, r1, r2, p, _, rfl, .inr (r3 H), rfl, rfl, k W _ _ H (.refl Rp.ok) (.bl _) hq⟩
abbrev s_is_word : Stmt := top 55
abbrev N_is_word : List Str := ["choice"]
theorem sc_is_word : FnScope N_is_word ["choice"] (defScope s_is_word) := ⟨rfl, rfl, rfl, by decide +kernel, rfl, by decide +kernel, by decide +kernel⟩
def sdIsWord : SpD := fun xs q _ => ∃ s, xs = [.str s] ∧ Wrd s ∧ q (.bl true)
theorem ok_is_word (T : Blt mg) (R : RuC K RC) (g_Rule : mg "Rule" = some (.ref RC)) (Df : DefAt K mg "is_word" s_is_word ["choice"]) : DefOk P w K mg base CX0 1 "is_word" (spOf sdIsWord) := by
  refine DefAtD.ok Df sc_is_word (fun ds q e h => by obtain ⟨_, rfl, _⟩ := h; rfl) (fun f cdv A outer s H E hr => ⟨_, _, (pss_one (ps_ret (pe_and (pe_callB (cl_isi K) (by rfl) T.z_isinstance (by decide +kernel) (pa_cons (pv 0) (pa_cons (pe_bltn (v := .ty "str") (by rfl) T.z_str (by decide +kernel) rfl) pa_nil))) (pe_one (pe_cmpR (inS K) (pv 0) (ClX.pe_cval (pe_gcls (by rfl) g_Rule)) rfl))))), (ss_ret (si_andV (si_isi (.ty "str") si_var) (si_words R))), fun ds q e h => ?_⟩)
  obtain ⟨s, rfl, hw, h⟩ := h
  refine ⟨_, rfl, isi_go (K := K) (d := .str s) trivial ⟨_, rfl, ifTT ⟨s, rfl, ?_⟩⟩⟩
  have e : inV (.str s) [.str "first", .str "last", .str "fullest", .str "emptiest", .str "busy"] = true := by
    rcases hw with rfl | rfl | rfl | rfl | rfl <;> decide +kernel
  rw [e]
  exact h
def ruF : List Str := ["exchange", "word", "table"]
abbrev s_Rule___init : Stmt := inClass (top 54) 1
abbrev N_Rule___init : List Str := ["self", "exchange", "choice"]
theorem sc_Rule___init : FnScope N_Rule___init ["self", "exchange", "choice"] (defScope s_Rule___init) := ⟨rfl, rfl, rfl, by decide +kernel, rfl, by decide +kernel, by decide +kernel⟩
def spRule (C RC : Addr) : SpU := fun us q _ => ∃ ds es m wd, us = [.obj RC [] [], .d (exD C ds es m), .d (.str wd)] ∧ Wrd wd ∧ q (.d .non) [.obj RC ruF [.d (exD C ds es m), .d (.str wd), .d .non], .d (exD C ds es m), .d (.str wd)]
theorem ok_rule_init (T : Blt mg) (R : RuC K RC) (D_is_word : DefOk P w K mg base CX0 1 "is_word" (spOf sdIsWord)) (D : MethAt K RC "__init__" "Rule.__init__" s_Rule___init ["self", "exchange", "choice"]) : MethOk P w K mg base CX0 2 RC "__init__" (spU (spRule C RC)) := by
  refine MethAtU.ok [1, 2] D sc_Rule___init (fun us q e h => by obtain ⟨_, _, _, _, rfl, _⟩ := h; rfl) (fun f cdv A outer s H E hr => ⟨_, _, (pss_cons (ps_fldK K (pv 0) (pv 1))
    (pss_one (ps_if (pt_val (pe_callB (cl_isi K) (by rfl) T.z_isinstance (by decide +kernel) (pa_cons (pv 2) (pa_cons (pe_bltn (v := .ty "dict") (by rfl) T.z_dict (by decide +kernel) rfl) pa_nil))))
      pss_never
      (pss_one (ps_if (pt_val (pe_def D_is_word hr (by decide) passE (pa_cons (pv 2) pa_nil)))
        (pss_cons (ps_fldK K (pv 0) (pv 2))
        (pss_one (ps_fldK K (pv 0) pe_non)))
        pss_never))))), (s_seq (s_fld R.cl R.n1 p_var e_var)
    (s_if (e_B (e_isi (.ty "dict") e_var))
      s_never
      (s_if (e_B (e_def (e_cons e_var e_nil)))
        (s_seq (s_fld R.cl R.n2 p_var e_var)
        (s_fld R.cl R.n3 p_var e_non))
        s_never))), fun us q e h => ?_⟩)
  obtain ⟨ds, es, m, wd, rfl, hw, h⟩ := h
  exact ⟨rfl, by decide, trivial, _, isi_of (n := "dict") (K := K) (d := .str wd) trivial (by decide), wd, rfl, hw, rfl, by decide, rfl, by decide, h⟩
abbrev s_pick_by_word : Stmt := top 56
abbrev N_pick_by_word : List Str := ["word", "standing", "free", "k"]
theorem sc_pick_by_word : FnScope N_pick_by_word ["word", "standing", "free"] (defScope s_pick_by_word) := ⟨rfl, rfl, rfl, by decide +kernel, rfl, by decide +kernel, by decide +kernel⟩
def sdByWord : SpD := fun xs q _ => ∃ wd S fr, xs = [.str wd, stD S, lsD (fr.map fun k => ((k : Nat) : Int))] ∧ Wrd wd ∧ 0 < fr.length ∧ S.length ≤ 500 ∧ fr.length ≤ 500 ∧ (∀ k ∈ fr, k < S.length) ∧ (∀ L ∈ S, L.length ≤ 500) ∧ q (.int ((bestW wd S fr : Nat) : Int))
theorem ok_by_word {c Pt : Addr} (T : Blt mg) (TBt : LamX.TabB base mg c Pt) (hT : Tb.T = [(Pt, ("_pick_by_word" ++ ".<locals>." : Str) ++ "<lambda>")]) (Df : Lk.DefAtC K mg "_pick_by_word" s_pick_by_word ["word", "standing", "free"] c) : DefOk P w K mg base CX0 1 "_pick_by_word" (spOf sdByWord) := by
  refine Lk.DefAtC.ok Df sc_pick_by_word (fun ds q e h => by obtain ⟨_, _, _, rfl, _⟩ := h; rfl) (fun f A outer s H E hr => ?_)
  have hu := hr.units
  refine ⟨_, _, (pss_cons (ps_if (pt_cmpR (eqD K hu) (pv 0) pe_str (nomark _))
      (pss_one (ps_ret (pe_ix (ixU K) (pv 2) pe_int (fun _ _ => rfl))))
      pss_nil)
    (pss_cons (ps_if (pt_cmpR (eqD K hu) (pv 0) pe_str (nomark _))
      (pss_one (ps_ret (pe_ix (ixU K) (pv 2) (pe_un un_neg pe_int) (fun _ _ => rfl))))
      pss_nil)
    (pss_cons (ps_if (pt_cmpR (eqD K hu) (pv 0) pe_str (nomark _))
      (pss_one (ps_ret (Lk.pe_key (iy := 1) true (pa_cons (pv 2) pa_nil) (by rfl) T.z_max (by decide +kernel) T.z_len hr ⟨rfl, rfl, rfl, by decide +kernel, rfl, rfl, rfl, by decide, by decide, by decide⟩ (by decide +kernel) rfl rfl TBt rfl rfl (fun _ _ _ _ _ _ => rfl))))
      pss_nil)
    (pss_cons (ps_if (pt_cmpR (eqD K hu) (pv 0) pe_str (nomark _))
      (pss_one (ps_ret (Lk.pe_key (iy := 1) false (pa_cons (pv 2) pa_nil) (by rfl) T.z_min (by decide +kernel) T.z_len hr ⟨rfl, rfl, rfl, by decide +kernel, rfl, rfl, rfl, by decide, by decide, by decide⟩ (by decide +kernel) rfl rfl TBt rfl rfl (fun _ _ _ _ _ _ => rfl))))
      pss_nil)
    (pss_one (ps_ret (pe_ix (ixU K) (pe_op op_plus (pe_lc (own := [("k", 3)]) (g := gName 3) (tt := _) rfl sc_pick_by_word.nd (pi_seq K (pv 2)) (blkOk_by (N := N_pick_by_word) (sc := defScope s_pick_by_word) (by decide +kernel)) (fun _ _ _ _ _ => (pg_name (i := 3) sc_pick_by_word.nd rfl (Or.inl rfl))) (fun _ _ _ _ _ => (pts_one (pt_cmpR (neD K hu) (pe_ix (ixU K) (pv 1) (pv 3) (fun _ _ => rfl)) (pe_tup pa_nil) (nomark _)))) (fun _ _ _ _ _ => (pv 3))) (pv 2)) pe_int (fun _ _ => rfl)))))))), (ss_seq (ss_if (si_test (si_op si_var si_str sr_eq))
      (ss_ret (si_op si_var si_int sr_ix))
      ss_nx)
    (ss_seq (ss_if (si_test (si_op si_var si_str sr_eq))
      (ss_ret (si_op si_var (si_un si_int su_neg) sr_ix))
      ss_nx)
    (ss_seq (ss_if (si_test (si_op si_var si_str sr_eq))
      (ss_ret (Lk.si_key hT (si_cons si_var si_nil)))
      ss_nx)
    (ss_seq (ss_if (si_test (si_op si_var si_str sr_eq))
      (ss_ret (Lk.si_key hT (si_cons si_var si_nil)))
      ss_nx)
    (ss_ret (si_op (si_op (si_lc (si_seq si_var) sg_name (si_test (si_op (si_op si_var si_var sr_ix) (si_tup si_nil) sr_ne)) si_var (by decide)) si_var sr_plus) si_int sr_ix)))))), fun ds q e h => ?_⟩
  obtain ⟨wd, S, fr, rfl, hw, f0, s5, f5, fS, sL, h⟩ := h
  have sw := wrd_sh hw
  have w1 : SeqAt.shaped (.str "first") = true := by decide +kernel
  have w2 : SeqAt.shaped (.str "last") = true := by decide +kernel
  have w3 : SeqAt.shaped (.str "fullest") = true := by decide +kernel
  have w4 : SeqAt.shaped (.str "emptiest") = true := by decide +kernel
  have go : ∀ {u : Str} {q : KD}, SeqAt.shaped (.str u) = true → q (.bl (decide (wd = u))) → fEq false (.str wd) (.str u) q := fun {u q} hu hq => by
    refine ⟨_, _, rfl, rfl, sw, hu, ?_⟩
    show q (.bl (PyData.eqv (.str wd) (.str u)))
    rw [Et.eqv_str]
    exact hq
  have e0 : fr[0]? = some (fr.getD 0 0) := by rw [List.getD_eq_getElem?_getD, List.getElem?_eq_getElem f0]; rfl
  have fl : (fr.map fun k => Dt.D.int ((k : Nat) : Int)) = (fr.map fun k => ((k : Nat) : Int)).map Dt.D.int := by rw [List.map_map]; rfl
  have hb := h
  unfold bestW at hb
  refine ⟨_, rfl, go w1 ⟨_, rfl, ?_⟩⟩
  by_cases c1 : wd = "first"
  · rw [decide_eq_true c1]
    rw [if_pos c1] at hb
    refine ifTT ⟨_, rfl, go_ixL (i := 0) ?_ hb⟩
    rw [← fl, List.getElem?_map, e0]
    rfl
  rw [decide_eq_false c1]
  rw [if_neg c1] at hb
  refine ifFF ⟨_, rfl, go w2 ⟨_, rfl, ?_⟩⟩
  by_cases c2 : wd = "last"
  · rw [decide_eq_true c2]
    rw [if_pos c2] at hb
    have e9 : fr[fr.length - 1]? = some (fr.getD (fr.length - 1) 0) := by rw [List.getD_eq_getElem?_getD, List.getElem?_eq_getElem (by omega)]; rfl
    refine ifTT ⟨_, rfl, _, _, .int ((fr.getD (fr.length - 1) 0 : Nat) : Int), .inr rfl, rfl, ?_, hb⟩
    unfold atI
    rw [← fl, List.length_map]
    have e8 : ixN fr.length (-1) = some (fr.length - 1) := by
      unfold ixN
      rw [if_neg (by decide), if_pos (by omega)]
      congr 1
      omega
    rw [e8]
    show (fr.map fun k => Dt.D.int ((k : Nat) : Int))[fr.length - 1]? = _
    rw [List.getElem?_map, e9]
    rfl
  rw [decide_eq_false c2]
  rw [if_neg c2] at hb
  have eS : ∀ k ∈ fr, ∃ L, (S.map ldD)[k]? = some (.tup L) := fun k hk => by
    have lk := fS k hk
    exact ⟨S[k].map Dt.pairD, by rw [List.getElem?_map, List.getElem?_eq_getElem lk]; rfl⟩
  have lenS : ∀ k, k < S.length → Lk.lenD ((S.map ldD).getD k .non) = (S.getD k []).length := fun k lk => by
    rw [List.getD_eq_getElem?_getD, List.getElem?_map, List.getElem?_eq_getElem lk, List.getD_eq_getElem?_getD, List.getElem?_eq_getElem lk]
    show (S[k].map Dt.pairD).length = _
    rw [List.length_map]
    rfl
  have lenE : ∀ i, i < fr.length → Lk.lenD ((S.map ldD).getD (fr.getD i 0) .non) = (S.getD (fr.getD i 0) []).length := fun i hi => lenS _ (fS _ (by rw [List.getD_eq_getElem?_getD, List.getElem?_eq_getElem hi]; exact List.getElem_mem hi))
  have pick : ∀ mx : Bool, (∀ {q : KD}, q (.int ((fr.foldl (stepG mx fun k => (S.getD k []).length) (fr.getD 0 0) : Nat) : Int)) → ∀ k j : Nat, fr[k]? = some j → Lk.Best mx (fun i => ((Lk.lenD ((S.map ldD).getD (fr.getD i 0) .non) : Nat) : Int)) fr.length k → q (.int ((j : Nat) : Int))) := fun mx {q} hq k j hj hbst => by
    obtain ⟨i, e1, e2⟩ := fold_best mx (fun k => (S.getD k []).length) f0
    have lk := (List.getElem?_eq_some_iff.mp hj).1
    have li := (List.getElem?_eq_some_iff.mp e1).1
    have b1 := best_cong (kg := fun i => (((S.getD (fr.getD i 0) []).length : Nat) : Int)) lk (fun i hi => by rw [lenE i hi]) hbst
    have := best_uniq b1 e2 lk li
    subst this
    rw [hj] at e1
    cases e1
    exact hq
  refine ifFF ⟨_, rfl, go w3 ⟨_, rfl, ?_⟩⟩
  by_cases c3 : wd = "fullest"
  · rw [decide_eq_true c3]
    rw [c3, step_full] at hb
    exact ifTT ⟨_, rfl, fr, S.map ldD, by rw [fl]; rfl, f0, rfl, eS, pick true hb⟩
  rw [decide_eq_false c3]
  refine ifFF ⟨_, rfl, go w4 ⟨_, rfl, ?_⟩⟩
  by_cases c4 : wd = "emptiest"
  · rw [decide_eq_true c4]
    rw [c4, step_empt] at hb
    exact ifTT ⟨_, rfl, fr, S.map ldD, by rw [fl]; rfl, f0, rfl, eS, pick false hb⟩
  rw [decide_eq_false c4]
  have c5 : wd = "busy" := by
    rcases hw with z | z | z | z | z
    · exact absurd z c1
    · exact absurd z c2
    · exact absurd z c3
    · exact absurd z c4
    · exact z
  rw [c5, best_busy S f0] at hb
  refine ifFF ?_
  refine ⟨_, rfl, _, .inr rfl, ?_⟩
  refine lcL_filter (fun d => match d with | .int k => busyB S k.toNat | _ => false) id _ [] (by rw [List.length_map, List.length_map]; show 0 + _ ≤ _; omega) (fun d hd Q hQ => ?_) ?_
  · obtain ⟨k0, hk0, rfl⟩ := List.mem_map.mp hd
    obtain ⟨k, hk, rfl⟩ := List.mem_map.mp hk0
    have lk := fS k hk
    have e1 : S[k]? = some (S.getD k []) := by rw [List.getD_eq_getElem?_getD, List.getElem?_eq_getElem lk]; rfl
    refine ⟨_, rfl, _, rfl, go_ixT (i := k) (d := ldD (S.getD k [])) (by rw [List.getElem?_map, e1]; rfl) ⟨(by show 0 ≤ sizeLine; decide), ?_⟩⟩
    have en : ∀ {q : KD}, q (.bl (!decide (S.getD k [] = []))) → fEq true (ldD (S.getD k [])) (ldD []) q := fun {q} h => Et.EqE.ne (a := S.getD k []) (b := ([] : List PP)) Et.EqE.ld (by decide) h
    refine en ⟨_, rfl, ?_⟩
    exact hQ [some (.d (.str wd)), some (.d (stD S)), some (.d (lsD (fr.map fun k => ((k : Nat) : Int)))), some (.d (.int (k : Int)))] fun _ Q' hQ' => ⟨_, rfl, hQ'⟩
  · rw [List.nil_append, List.map_id, ← fl, List.filter_map]
    have e : ((fr.filter ((fun d => match d with | Dt.D.int k => busyB S k.toNat | _ => false) ∘ fun (k : Nat) => Dt.D.int (k : Int))).map fun (k : Nat) => Dt.D.int (k : Int)) = (fr.filter (busyB S)).map fun (k : Nat) => Dt.D.int (k : Int) := rfl
    rw [e]
    have l1 : (fr.filter (busyB S)).length ≤ fr.length := List.length_filter_le _ _
    refine ⟨_, rfl, ?_⟩
    refine ⟨by rw [List.length_map, List.length_map, List.length_map]; exact szle (by omega), go_ixL (i := 0) ?_ hb⟩
    rw [← fl, ← List.map_append, List.getElem?_map]
    have l2 : 0 < (fr.filter (busyB S) ++ fr).length := by rw [List.length_append]; omega
    rw [List.getElem?_eq_getElem l2, List.getD_eq_getElem?_getD, List.getElem?_eq_getElem l2]
    rfl
abbrev s_Rule_pick : Stmt := inClass (top 54) 3
abbrev N_Rule_pick : List Str := ["self", "standing", "pair", "free", "load", "k"]
theorem sc_Rule_pick : FnScope N_Rule_pick ["self", "standing", "pair"] (defScope s_Rule_pick) := ⟨rfl, rfl, rfl, by decide +kernel, rfl, by decide +kernel, by decide +kernel⟩
def pickN (wd : Str) (S : List (List PP)) (p : PP) : Option Nat := match freeN S p with
  | [] => none
  | a :: l => some (bestW wd S (a :: l))
def optN : Option Nat → Dt.D
  | some k => .int ((k : Nat) : Int)
  | none => .non
def sdPick (RC : Addr) : SpD := fun xs q _ => ∃ ex S p wd, xs = [ruD RC ex wd, stD S, Dt.pairD p] ∧ Wrd wd ∧ S.length ≤ 500 ∧ (∀ L ∈ S, L.length ≤ 500) ∧ q (optN (pickN wd S p))
theorem free_lt {S : List (List PP)} {p : PP} {k : Nat} (h : k ∈ freeN S p) : k < S.length := by
  unfold freeN at h
  exact List.mem_range.mp (List.mem_filter.mp h).1
theorem free_len (S : List (List PP)) (p : PP) : (freeN S p).length ≤ S.length := by
  unfold freeN
  have := List.length_filter_le (fun k => freeB (S.getD k []) p) (List.range S.length)
  rw [List.length_range] at this
  exact this
theorem ok_pick (T : Blt mg) (R : RuC K RC) (D_free_for : DefOk P w K mg base CX0 2 "free_for" (spOf sdFreeFor)) (D_pick_by_word : DefOk P w K mg base CX0 1 "_pick_by_word" (spOf sdByWord)) (D : MethAt K RC "pick" "Rule.pick" s_Rule_pick ["self", "standing", "pair"]) : MethOk P w K mg base CX0 3 RC "pick" (spOf (sdPick RC)) := by
  refine MethAtD.ok D sc_Rule_pick (fun ds q e h => by obtain ⟨_, _, _, _, rfl, _⟩ := h; rfl) (fun f cdv A outer s H E hr => ?_)
  have hu := hr.units
  refine ⟨_, _, (pss_cons (ps_set (i := 3) sc_Rule_pick.nd rfl (Or.inl rfl) (pe_def D_free_for hr (by decide) passE (pa_cons (pv 1) (pa_cons (pv 2) pa_nil))))
    (pss_cons (ps_if (pt_cmpR (eqD K hu) (pv 3) (pe_lst pa_nil) (nomark _))
      (pss_one (ps_ret pe_non))
      pss_nil)
    (pss_cons (ps_if (pt_cmpR op_notN (pe_fldK K (pv 0)) pe_non (nomark _))
      (pss_one (ps_ret (pe_def D_pick_by_word hr (by decide) passE (pa_cons (pe_fldK K (pv 0)) (pa_cons (pv 1) (pa_cons (pv 3) pa_nil))))))
      pss_nil)
    pss_never))), (ss_seq (ss_asg (si_def (si_cons si_var (si_cons si_var si_nil))) sg_name)
    (ss_seq (ss_if (si_test (si_op si_var (si_lst si_nil) sr_eq))
      (ss_ret si_non)
      ss_nx)
    (ss_seq (ss_if (si_test (si_op (si_fld R.cl R.n2 si_var) si_non sr_notN))
      (ss_ret (si_def (si_cons (si_fld R.cl R.n2 si_var) (si_cons si_var (si_cons si_var si_nil)))))
      ss_nx)
    ss_never))), fun ds q e h => ?_⟩
  obtain ⟨ex, S, p, wd, rfl, hw, h5, h6, h⟩ := h
  refine ⟨_, rfl, _, rfl, S, p, rfl, h5, h6, ?_⟩
  refine ⟨_, rfl, (by show 0 ≤ sizeLine; decide), go_eqEmpI ⟨_, rfl, ?_⟩⟩
  have lf := free_len S p
  rw [frees_N]
  unfold pickN at h
  cases e1 : freeN S p with
  | nil =>
    rw [e1] at h
    exact ifTT h
  | cons a l =>
    rw [e1] at h lf
    refine ifFF ⟨_, rfl, _, _, _, rfl, rfl, rfl, _, rfl, ifTT ⟨_, rfl, _, _, _, rfl, rfl, _, rfl, _, rfl, wd, S, a :: l, rfl, hw, Nat.succ_pos _, h5, by omega, fun k hk => free_lt (p := p) (by rw [e1]; exact hk), h6, h⟩⟩
end
end K27
set_option Elab.async false
set_option linter.all false
set_option maxRecDepth 100000
set_option maxHeartbeats 4000000
namespace Nd
open PySem PySem.Spec PyProof.Rows L2 Com
section
variable {X : Cx} {pins : List (Addr × Obj)} {σ : L2.St} {H : Hp} {s : Shared}
/-- one more pair, by a comprehension -/
theorem put_n {E : Value → Shared → Prop} {D b : Addr} {xs : List NX} {k : NestedKey} {z : V} {r : Value} {Q : Unit → Shared → Prop} (hu : X.A.units + 8 < cLine) (I : Inv X pins σ H s) (hD : H D = some (DN X.w D xs)) (hk : AllK H xs) (hb : KOk H k b) (hl : xs.length < sizeLine) (rv : RelV z r)
    (h : ∀ t, Inv X pins σ (upd H D (DN X.w D (putN xs k b z))) t → Q () t) : wpAny (model X.prog X.w) X.A (dictSet D (.ref b) r) Q E s := by
  obtain ⟨h1, h3, h2, us, q, d⟩ := dn_get I hD hk
  refine wpAny_dictSet_heap (hsz := by rw [← Paired.length q]; exact h2) (knd := nestedKind X.prog X.w) hu (hb.is I) d fun g e hs => h _ ?_
  have he : ∃ o, g.get? D = some o := let ⟨o, _, _, ho, _⟩ := e; ⟨o, ho⟩
  exact d_write I (by rw [hD]; exact True.intro) hs he (dn_ok h1 (putN_all h3 hb.2) (by have := putN_len xs k b z; omega) (put_rel rv q) e)
/-- what the turns of {kx: vx for ..} want; D the new dict -/
def TurnsN (w : World) (J : It) (g : TG) (tt : TT) (tk tv : TE) (vs : List Nat) (σ : L2.St) (Q : VK) (D : Addr) (W : Nat → Nat → Hp → Prop) : Prop := ∀ i m G, W i m G → (J.stop i G ∧ Q (.ref D) G) ∨ (J.go i G ∧ ∃ Nx : Hp → Prop, (∀ G', Nx G' → ∃ m', m' < m ∧ W (i + 1) m' G') ∧
  ∀ x G', J.yld i G x G' → g x (wipe σ vs) G' fun τ G2 => wipe τ vs = wipe σ vs ∧ tt τ G2 fun c G3 => if c = true then tk τ G3 (fun y G4 => tv τ G4 fun z G5 => ∃ xs k b, y = .ref b ∧ G5 D = some (DN w D xs) ∧ AllK G5 xs ∧ KOk G5 k b ∧ xs.length < sizeLine ∧ Nx (upd G5 D (DN w D (putN xs k b z)))) else Nx G3)
def tDcN (w : World) (wi : TI) (g : TG) (tt : TT) (tk tv : TE) (vs : List Nat) : TE := fun σ H Q => wi σ H fun J H1 => ∀ D, H1 D = none → ∃ W, (∃ m, W 0 m (upd H1 D (DN w D []))) ∧ TurnsN w J g tt tk tv vs σ Q D W
theorem dcN_core {pins : List (Addr × Obj)} {s : Shared} {σ : L2.St} {H : Hp} {Q : VK} {kx vx tg iter : Expr} {ifs : List Expr} {scope : Scope} {own : List (Str × Nat)} {pos pos' : Pos} {wi : TI} {g : TG} {tt : TT} {tk tv : TE} {use : Option (Value → Sem Unit)} {Qf : Value → Shared → Prop} (hu : X.A.units + 8 < cLine) (hc : X.calm = true) (hN : X.N.Nodup) (I : Inv X pins σ H s) (hi : PI X tg iter wi) (ok : BlkOk X.N X.env.scope scope own)
    (hg : ∀ (t : Shared) (G : Hp) (C : Addr) (cl : List (Str × Addr)) (fp : List Addr), PG (X.blk t G scope (compEnvC scope cl C X.env) fp) tg g) (ht : ∀ (t : Shared) (G : Hp) (C : Addr) (cl : List (Str × Addr)) (fp : List Addr), PTs (X.blk t G scope (compEnvC scope cl C X.env) fp) ifs tt)
    (hk : ∀ (t : Shared) (G : Hp) (C : Addr) (cl : List (Str × Addr)) (fp : List Addr), PE (X.blk t G scope (compEnvC scope cl C X.env) fp) kx tk) (he : ∀ (t : Shared) (G : Hp) (C : Addr) (cl : List (Str × Addr)) (fp : List Addr), PE (X.blk t G scope (compEnvC scope cl C X.env) fp) vx tv)
    (hs : ∀ x, foldedSetIterable iter X.env x = pure x) (h : tDcN X.w wi g tt tk tv (own.map (·.2)) σ H Q) (back : ∀ D C t m G, Inv X pins σ G t → Q (.ref D) G → t.heap.Ns C m → FpOk X pins G C → compPost (model X.prog X.w) X.A X.xe use Qf (.ref D) C (.ok .next) t) :
    wpAny (model X.prog X.w) X.A (comprehension (.DictComp kx vx [⟨tg, iter, ifs, 0⟩] scope pos) scope X.env pos' newDict false (eval iter X.env) use) Qf X.xe s := by
  have fr : ∀ y ∈ scope.names, y.2 = .free → ∃ c, X.env.cells.lookup y.1 = some c := fun y hy e => (ok.free y hy e).elim (fun k => I.ok.has _ (.inl k)) fun k => I.ok.has _ (.inr k)
  refine wpAny_comprehension_free (use := use) rfl hs (closure_ok fr) ok.kind (fun y hy e => by rw [ok.uniq y hy, e]) (thn (hi.run pins s σ H _ I h) fun _ s1 hx => thn hx fun _ s2 ⟨it, fp, tn, J, H2, e, I2, T, st2, f2, q⟩ => ?_)
  subst e
  refine wpAny_newObj_type (newEnv_comp ?_)
  generalize eD : s2.heap.objs.size = D
  have nD : H2 D = none := I2.hok.fresh (Nat.le_of_eq eD)
  obtain ⟨W, ⟨m0, w0⟩, turn⟩ := q D nD
  -- the new dict
  generalize e3 : ({ s2 with heap := s2.heap.push { cls := .type "dict", data := .dict #[] } } : Shared) = s3
  have I3 : Inv X pins σ (upd H2 D (DN X.w D [])) s3 := by
    rw [← e3, ← eD]
    exact I2.laid (o := DN X.w s2.heap.objs.size []) (t' := s2.toks) (fun _ _ q => Heap.get?_push_of_some _ q) (Nat.le_refl _) (dn_ok (us := []) (beq_eq_false_iff_ne.mpr (Ne.symm (Nat.ne_of_lt I2.big))) (fun _ h => nomatch h) (Nat.zero_le _) .nil (Heap.DictOfH.new s2.heap))
  have h3 : s3.heap = s2.heap.push { cls := .type "dict", data := .dict #[] } := by rw [← e3]
  have f3 : ∀ b ∈ fp, FpOk X pins (upd H2 D (DN X.w D [])) b ∧ b < s3.heap.objs.size := fun b hb => by
    obtain ⟨o, eo, _⟩ := T.obj _ _ st2 b hb
    have lt := Heap.lt_size eo
    exact ⟨⟨by rw [upd_ne (by rw [← eD]; exact Nat.ne_of_lt lt)]; exact (f2 b hb).1, (f2 b hb).2⟩, by rw [h3, Heap.size_push]; exact Nat.lt_succ_of_lt lt⟩
  have st3 : tn 0 s3.heap := T.keep _ _ _ st2 fun b _ o e => by rw [h3]; exact Heap.get?_push_of_some _ e
  have I4 := block_start I3 ok hN f3
  generalize eC : compEnvC scope (cellsFrom (s3.heap.objs.size + 1) scope.names (cloFrom X.env.cells scope.names [])) s3.heap.objs.size X.env = ce at I4
  have pg : PG (X.blk s3 (upd H2 D (DN X.w D [])) scope ce fp) tg g := by subst eC; exact hg _ _ _ _ _
  have pt : PTs (X.blk s3 (upd H2 D (DN X.w D [])) scope ce fp) ifs tt := by subst eC; exact ht _ _ _ _ _
  have pk : PE (X.blk s3 (upd H2 D (DN X.w D [])) scope ce fp) kx tk := by subst eC; exact hk _ _ _ _ _
  have pe : PE (X.blk s3 (upd H2 D (DN X.w D [])) scope ce fp) vx tv := by subst eC; exact he _ _ _ _ _
  have cL : ce.locals = s3.heap.objs.size := by subst eC; rfl
  have nfp : ∀ b ∈ fp, (upd H2 D (DN X.w D [])) b = none := fun b hb => (f3 b hb).1.1
  generalize eH : upd H2 D (DN X.w D []) = H3 at I3 I4 pg pt pk pe w0 nfp f3
  show codeAny _ _ (.compStart (.DictComp kx vx [⟨tg, iter, ifs, 0⟩] scope pos) 0 (.ref it) (.ref D) (compEnvC scope (cellsFrom (s3.heap.objs.size + 1) scope.names (cloFrom X.env.cells scope.names [])) s3.heap.objs.size X.env)) (compPost (model X.prog X.w) X.A X.xe use Qf (.ref D) s3.heap.objs.size) { s3 with heap := pushCells (s3.heap.push { cls := .type "dict", data := .dict #[] }) scope.names }
  rw [eC]
  generalize e4 : ({ s3 with heap := pushCells (s3.heap.push { cls := .type "dict", data := .dict #[] }) scope.names } : Shared) = s4 at I4 ⊢
  have st4 : tn 0 s4.heap := T.keep _ _ _ st3 fun b _ o e => by rw [← e4]; exact pushCells_keeps _ _ _ _ (Heap.get?_push_of_some _ e)
  have calm : ∀ {τ : L2.St} {G : Hp} {t : Shared}, Inv (X.blk s3 H3 scope ce fp) [] τ G t → (∀ b ∈ fp, G b = none) → ∀ b ∈ fp, FpOk (X.blk s3 H3 scope ce fp) [] G b := fun I' hn b hb => ⟨hn b hb, (I'.ok.exf b hb).1, I'.ok.exfs b hb, .inl hb, fun x c e => (I'.ok.exf b hb).2 x c e, fun p hp => nomatch (show p ∈ ([] : List (Addr × Obj)) from hp)⟩
  have loop : codeAny (model X.prog X.w) X.A (.compLoop (.DictComp kx vx [⟨tg, iter, ifs, 0⟩] scope pos) 0 (.ref it) (.ref D) ce) (compPost (model X.prog X.w) X.A X.xe use Qf (.ref D) s3.heap.objs.size) s4 := by
    refine compLoop_anyD (fun n t => ∃ i G, Inv (X.blk s3 H3 scope ce fp) [] (wipe σ (own.map (·.2))) G t ∧ tn i t.heap ∧ (∀ b ∈ fp, G b = none) ∧ W i n G) ?_ m0 ⟨0, H3, I4, st4, nfp, w0⟩
    rintro n s5 ⟨i, H5, I5, st5, n5, w5⟩
    rcases turn i n H5 w5 with ⟨stop, qq⟩ | ⟨go, Nx, hNx, step⟩
    · refine thnF (T.done (X.blk s3 H3 scope ce fp) rfl rfl rfl hc i [] s5 _ H5 (fun _ _ => False) I5 (calm I5 n5) st5 stop) fun r s6 ⟨hr, I6⟩ => ?_
      subst hr
      have I7 : Inv X pins σ H5 s6 := I3.call' (ch := fp) I6.os I6.base I6.hok I6.bare fun b hb => let z := (f3 b hb).1; ⟨z.2.2.2.1, z.2.1, z.2.2.2.2.1, z.2.2.2.2.2⟩
      have nC : H5 s3.heap.objs.size = none := by rw [← cL]; exact I6.free
      obtain ⟨m, hn, _⟩ := I6.loc
      have hn : s6.heap.Ns ce.locals m := hn
      rw [cL] at hn
      exact back D s3.heap.objs.size s6 m H5 I7 qq hn (I3.fpOk (Nat.le_refl _) nC)
    · refine thnF (T.item (X.blk s3 H3 scope ce fp) rfl rfl rfl hc i [] s5 _ H5 (fun _ _ => False) I5 (calm I5 n5) st5 go) fun r s6 ⟨u, hr, h6⟩ => ?_
      subst hr
      refine thnF h6 fun _ s7 ⟨x, H7, I7, r7, y7, st7, n7⟩ => ?_
      refine thnF (pg.run _ s7 _ H7 x u _ (I7.pinned (calm I7 n7) (T.obj _ _ st7)) r7 (step x H7 y7)) fun _ s8 ⟨σ8, H8, I8, hw8, q8⟩ => ?_
      refine thnF (pt.run _ s8 σ8 H8 _ I8 q8) fun c s9 ⟨H9, I9, q9⟩ => ?_
      have fin : ∀ {t : Shared} {G : Hp}, Inv (X.blk s3 H3 scope ce fp) ([] ++ pinsAt fp s7.heap) σ8 G t → Nx G → ∃ m, m < n ∧ ∃ i G, Inv (X.blk s3 H3 scope ce fp) [] (wipe σ (own.map (·.2))) G t ∧ tn i t.heap ∧ (∀ b ∈ fp, G b = none) ∧ W i m G := fun {t G} I' nx => by
        obtain ⟨m', hm, w'⟩ := hNx G nx
        have pin' : ∀ b ∈ fp, ∀ o, s7.heap.get? b = some o → t.heap.get? b = some o ∧ G b = none := fun b hb o e => let z := I'.pin (b, o) (List.mem_append_right _ (List.mem_append_right _ (mem_pinsAt hb e))); ⟨z.1, z.2.1⟩
        have hl : (wipe σ (own.map (·.2))).length = σ8.length := by rw [← hw8, wipe_length]
        exact ⟨m', hm, i + 1, G, (I'.unpinned (pins := [])).weak hl (fun j v e => by rw [← hw8] at e; exact (wipe_some e).1), T.keep _ _ _ st7 fun b hb o e => (pin' b hb o e).1, fun b hb => let ⟨o, eo, _⟩ := T.obj _ _ st7 b hb; (pin' b hb o eo).2, w'⟩
      cases c with
      | false =>
        simp only [Bool.false_eq_true, if_false] at q9 ⊢
        exact fin I9 q9
      | true =>
        simp only [if_true] at q9 ⊢
        refine thnF (pk.run _ s9 σ8 H9 _ I9 q9) fun z s10 ⟨yk, H10, I10, r10, q10⟩ => ?_
        refine thnF (pe.run _ s10 σ8 H10 _ I10 q10) fun z2 s11 ⟨yv, H11, I11, r11, xs, k, b, ek, hD, ha, hb, hl, nx⟩ => ?_
        subst ek
        cases r10
        exact put_n (X := X.blk s3 H3 scope ce fp) hu I11 hD ha hb hl r11 fun s12 I12 => fin I12 nx
  exact codeAny_compStart_dict loop (T.self X.A 0 _ _ _ st4 loop)
theorem swD {kx vx : Expr} {gs : List Comprehension} {scope : Scope} {pos py : Pos} {y : Str} {l : Nat} {env : Env} (hk : env.scope.kind = .function) (hy : env.scope.names.lookup y = some .local) (hl : (py.line == pos.line) = true)
    (ha : (scope.names.any fun (n, k) => n == y && (k == .local || k == .cell)) = false) : swapsWith (.DictComp kx vx gs scope pos) (some (.Name y py)) l env = pure true := by
  have k1 : env.kindOf y = some .local := hy
  have k2 : env.blockKind = .function := by unfold Env.blockKind; rw [hk]; rfl
  unfold swapsWith
  simp only [k2, k1, ha, Expr.pos, hl]
  rfl
/-- name = {..}, the name a local -/
theorem ps_setDcN {i : Nat} {y : Str} {py spos : Pos} {kx vx tg iter : Expr} {ifs : List Expr} {scope : Scope} {own : List (Str × Nat)} {pos : Pos} {wi : TI} {g : TG} {tt : TT} {tk tv : TE} (hu : X.A.units + 8 < cLine) (hc : X.calm = true) (hN : X.N.Nodup) (hy : X.N[i]? = some y) (hyl : X.env.scope.names.lookup y = some .local) (hsw : swapsWith (.DictComp kx vx [⟨tg, iter, ifs, 0⟩] scope pos) (some (.Name y py)) spos.line X.env = pure true) (hi : PI X tg iter wi) (ok : BlkOk X.N X.env.scope scope own)
    (hg : ∀ (t : Shared) (G : Hp) (C : Addr) (cl : List (Str × Addr)) (fp : List Addr), PG (X.blk t G scope (compEnvC scope cl C X.env) fp) tg g) (ht : ∀ (t : Shared) (G : Hp) (C : Addr) (cl : List (Str × Addr)) (fp : List Addr), PTs (X.blk t G scope (compEnvC scope cl C X.env) fp) ifs tt)
    (hk : ∀ (t : Shared) (G : Hp) (C : Addr) (cl : List (Str × Addr)) (fp : List Addr), PE (X.blk t G scope (compEnvC scope cl C X.env) fp) kx tk) (he : ∀ (t : Shared) (G : Hp) (C : Addr) (cl : List (Str × Addr)) (fp : List Addr), PE (X.blk t G scope (compEnvC scope cl C X.env) fp) vx tv)
    (hs : ∀ x, foldedSetIterable iter X.env x = pure x := by intro _; rfl) : PS X (.Assign [.Name y py] (.DictComp kx vx [⟨tg, iter, ifs, 0⟩] scope pos) spos) (tAsg (tDcN X.w wi g tt tk tv (own.map (·.2))) (gName i)) := by
  refine ⟨fun pins s σ H D I h => ?_⟩
  rw [exec_Assign_Name_used _ _ _ _ hsw]
  refine wpAny_bind (wpAny_standAt (wpAny_bind ?_))
  show wpAny _ X.A (do let _ ← comprehension (.DictComp kx vx [⟨tg, iter, ifs, 0⟩] scope pos) scope X.env (firstIterPos [⟨tg, iter, ifs, 0⟩] pos) newDict false (eval iter X.env) (some (assign (.Name y py) X.env))) _ _ s
  have h : tDcN X.w wi g tt tk tv (own.map (·.2)) σ H (fun x H1 => gName i x σ H1 D.nx) := h
  refine wpAny_bind (thn (dcN_core (Qf := fun _ t => SP X pins D .next t) hu hc hN I hi ok hg ht hk he hs h fun L C t m G I' q hn f => ?_) fun _ t hq => wpAny_pure (wpAny_pure hq))
  show wpAny _ _ (assign (.Name y py) X.env (.ref L)) _ _ _
  refine wpAny_assign_Name (store_ok2 (v := V.ref L) I' hN hy (.inl hyl) rfl (fun s2 I2 ⟨a, sb, ha⟩ => ?_) (.inr hyl))
  obtain ⟨f0, f1, f2, f3, f4, f5⟩ := f
  have na : C ≠ a := ha.elim (fun z => by rw [z]; exact f1) fun z e => f4 y a z e.symm
  exact ⟨m, hn.sameBut sb na, fun h3 sb3 => ⟨_, G, I2.turned (t' := s2.toks) (fun b o hb e => (sb3.2 b hb).trans e) f0 f1 f3 f4 f5, q⟩⟩
end
end Nd
set_option Elab.async false
set_option linter.all false
set_option maxRecDepth 100000
set_option maxHeartbeats 4000000
namespace Dt
open PySem PySem.Spec PyProof.Rows L2 Com Gn StV Sd Ext Nd Et
variable [Dt.Tb]
section
variable {E : XK} {g : TG} {mg : MG} {is : List Nat} {ti : TI} {mi : MI} {tt : TT} {mt : MT} {tk tv : TE} {mk mv : ME} {w : World} {K : PySem.W.Frag}
def mDcL (g : MG) (t : MT) (kx vx : ME) (vs : List Nat) (ρ : Ev) (e : XD) : List D → List NestedKey → List D → (List NestedKey → List D → Prop) → Prop
  | [], ks, ds, q => q ks ds
  | x :: xs, ks, ds, q => g x (wipeD ρ vs) fun ρ2 => t ρ2 (fun b => if b = true then kx ρ2 (fun y => keyOk true y fun j => vx ρ2 (fun z => ks.length < sizeLine ∧ mDcL g t kx vx vs ρ e xs (putKs j ks) (putVs j z ks ds) q) e) e else mDcL g t kx vx vs ρ e xs ks ds q) e
abbrev mDc (w : World) (i : MI) (g : MG) (t : MT) (kx vx : ME) (vs : List Nat) : ME := fun ρ q e => i ρ (fun xs => mDcL g t kx vx vs ρ e xs [] [] fun ks ds => q (.dct w true ks ds)) e
/-- the dict under way -/
structure DcU (w : World) (Da : Addr) (W : Wd) (H : Hp) (ks : List NestedKey) (ds : List D) : Prop where
  ex : ∃ xs : List NX, H Da = some (DN w Da xs) ∧ xs.map (·.1) = ks ∧ VdA W (xs.map fun x => .ref x.2.1) (dOfA ks) ∧ VdA W (xs.map (·.2.2)) ds
  f : W.F Da = none
  n : ¬ W.G Da
theorem DcU.stay {w : World} {Da : Addr} {W3 W4 : Wd} {H3 H4 : Hp} {ks : List NestedKey} {ds : List D} (g4 : Go W3 H3 W4 H4) (u : DcU w Da W3 H3 ks ds) : DcU w Da W4 H4 ks ds := by
  obtain ⟨⟨xs, e3, e4, t3, t4⟩, f3, n3⟩ := u
  refine ⟨⟨xs, g4.p _ _ e3 n3, e4, t3.mono g4.le, t4.mono g4.le⟩, ?_, fun z => ?_⟩
  · cases z : W4.F Da with
    | none => rfl
    | some o =>
      rcases g4.fn Da o z with z | z | ⟨u, z, hs⟩
      · rw [f3] at z; cases z
      · rw [e3] at z; cases z
      · rw [e3] at z; cases z; exact (still_dn hs).elim
  · rcases g4.gn Da z with z | z
    · exact n3 z
    · rw [e3] at z; cases z
theorem repl_vd {W : Wd} {v : V} {d : D} {j : NestedKey} (h : Vd W v d) : ∀ {ks : List NestedKey} {vs : List V} {ds : List D}, VdA W vs ds → VdA W (repl j v ks vs) (repl j d ks ds)
  | [], _, _, _ => by simp only [repl]; exact .nil
  | _ :: _, _, _, .nil => by simp only [repl]; exact .nil
  | k :: ks, _, _, .cons a t => by
    simp only [repl]
    refine .cons ?_ (repl_vd h t)
    split
    · exact h
    · exact a
theorem putVs_vd {W : Wd} {v : V} {d : D} {j : NestedKey} (h : Vd W v d) {ks : List NestedKey} {vs : List V} {ds : List D} (t : VdA W vs ds) : VdA W (putVs j v ks vs) (putVs j d ks ds) := by
  unfold putVs
  split
  · exact repl_vd h t
  · exact t.append (.one h)
theorem si_dcN {vs : List Nat} (hi : SimI E ti mi) (hg : SimG g mg is) (ht : SimT E tt mt) (hk : SimE E tk mk) (hv : SimE E tv mv) (hs : ∀ i ∈ is, i ∈ vs) : SimE E (tDcN w ti g tt tk tv vs) (mDc w mi mg mt mk mv vs) := fun W H0 H σ ρ Q q e R h k kx =>
  hi W H0 H σ ρ _ _ e R h (fun W1 J xs H1 g1 hJ h1 Da hD => by
    have nD := g1.ok.no hD
    have g0 := Go.own (o := DN w Da []) g1.ok hD
    refine ⟨fun i m H2 => m = xs.length - i ∧ i ≤ xs.length ∧ ∃ W2 ks ds, Go W1 H1 W2 H2 ∧ DcU w Da W2 H2 ks ds ∧ mDcL mg mt mk mv vs ρ e (xs.drop i) ks ds fun ks ds => q (.dct w true ks ds), ⟨xs.length, by simp, Nat.zero_le _, W1, [], [], g0, ⟨⟨[], upd_same, rfl, .nil, .nil⟩, nD.1, nD.2⟩, h1⟩, ?_⟩
    rintro i m H2 ⟨rfl, hi, W2, ks, ds, g2, u2, h2⟩
    by_cases hlt : i < xs.length
    · rw [List.drop_eq_getElem_cons hlt] at h2
      obtain ⟨j1, j2⟩ := (hJ i W2 H2 g2.le g2.ok).1 xs[i] (List.getElem?_eq_getElem hlt)
      refine .inr ⟨j1, fun H3 => ∃ W3 ks ds, Go W1 H1 W3 H3 ∧ DcU w Da W3 H3 ks ds ∧ mDcL mg mt mk mv vs ρ e (xs.drop (i + 1)) ks ds fun ks ds => q (.dct w true ks ds), fun H3 ⟨W3, ks3, ds3, z⟩ => ⟨xs.length - (i + 1), by omega, rfl, hlt, W3, ks3, ds3, z⟩, fun v H3 y => ?_⟩
      obtain ⟨W3, g3, hx⟩ := j2 v H3 y
      have u3 := u2.stay g3
      have R3 : Rep W3 H0 H3 σ ρ := R.go (g1.trans R.ok (g2.trans g1.ok g3))
      refine hg W3 H0 H3 v xs[i] _ _ _ _ (R3.wipe vs) hx h2 fun σ4 ρ4 R4 w4 _ h4 => ⟨by rw [w4 vs hs, wipe_two (fun _ h => h)], ?_⟩
      refine ht W3 H0 H3 σ4 ρ4 _ _ e R4 h4 (fun W5 b H5 g5 h5 => ?_) (kx.go R.ok (g1.trans R.ok (g2.trans g1.ok g3)))
      have u5 := u3.stay g5
      have g35 := (g2.trans g1.ok g3).trans g1.ok g5
      cases b with
      | true =>
        refine (hk W5 H0 H5 σ4 ρ4 _ _ e (R4.go g5) h5 (fun W6 kv kd H6 g6 hkv h6 => ?_) (kx.go R.ok (g1.trans R.ok g35)) : tk σ4 H5 _)
        have u6 := u5.stay g6
        have g36 := g35.trans g1.ok g6
        unfold keyOk at h6
        split at h6
        · rename_i t _ e1
          obtain ⟨hd, h6⟩ := h6
          refine hv W6 H0 H6 σ4 ρ4 _ _ e ((R4.go g5).go g6) h6 (fun W7 u z H7 g7 hz h7 => ?_) (kx.go R.ok (g1.trans R.ok g36))
          have u7 := u6.stay g7
          have hk7 := hkv.mono g7.le
          have nj := nk_is g7.ok hk7 e1
          have : ∃ b, kv = .ref b := by cases nj with | tup _ _ => exact ⟨_, rfl⟩
          obtain ⟨b, rfl⟩ := this
          obtain ⟨⟨ys, e7, ek, t1, t2⟩, f7, n7⟩ := u7
          subst ek
          obtain ⟨p1, p2, p3⟩ := put_keys ys (.tup t) b u
          have hl : ys.length < sizeLine := by have := h7.1; rwa [List.length_map] at this
          refine ⟨ys, _, b, rfl, e7, all_keys g7.ok t1, ⟨nj, hd⟩, hl, W7, putKs (.tup t) (ys.map (·.1)), putVs (.tup t) z (ys.map (·.1)) ds, Go.mut (g36.trans g1.ok g7) hD f7 n7, ⟨⟨_, upd_same, p1, ?_, ?_⟩, f7, n7⟩, h7.2⟩
          · rw [p3]
            unfold putKs
            by_cases c : NestedKey.tup t ∈ ys.map (·.1)
            · rw [if_pos c, if_pos c]; exact t1
            · rw [if_neg c, if_neg c, dofA_app]
              refine t1.append ?_
              rw [dOfA, dOfA]
              exact .one (vd_key hk7 e1)
          · rw [p2]
            exact putVs_vd hz t2
        · rename_i e _; cases e
        · rename_i e _; cases e
        · exact h6.elim
      | false => exact (⟨W5, ks, ds, g35, u5, h5⟩ : ∃ W3 ks ds, Go W1 H1 W3 H5 ∧ DcU w Da W3 H5 ks ds ∧ mDcL mg mt mk mv vs ρ e (xs.drop (i + 1)) ks ds fun ks ds => q (.dct w true ks ds))
    · have e1 : i = xs.length := by omega
      subst e1
      rw [List.drop_length] at h2
      obtain ⟨⟨ys, e2, ek, t1, t2⟩, f2, n2⟩ := u2
      obtain ⟨g4, l4⟩ := (g1.trans R.ok g2).freeze (g1.gone R.ok hD) f2 n2 e2
      exact .inl ⟨(hJ xs.length W2 H2 g2.le g2.ok).2 (Nat.le_refl _), k _ _ _ H2 g4 (.dctN (upd_same (H := W2.F)) ek (t1.mono l4) (t2.mono l4)) h2⟩) kx
/-- the very object that comes -/
theorem si_vryE {te : TE} {me : ME} (h : SimE E te me) : SimE E te (fun ρ q e => me ρ (fun d => ∀ v, q (.vry v d)) e) := fun W H0 H σ ρ Q q e R hm k kx => h W H0 H σ ρ Q _ e R hm (fun W' v d H' g hv hq => k W' v _ H' g (.vry hv) (hq v)) kx
/-- a + b, lists, as a new list -/
theorem sn_plus {ta tb : TE} {ma mb : ME} (ha : SimE E ta ma) (hb : SimE E tb mb) : SimN E (tOp rPlus ta tb) (fun ρ q e => ma ρ (fun x => mb ρ (fun y => ∃ a b, x = .lst a ∧ y = .lst b ∧ a.length + b.length ≤ sizeLine ∧ q (a ++ b)) e) e) := fun W H0 H σ ρ Q q e R h k kx =>
  ha W H0 H σ ρ _ _ e R h (fun W1 x dx H1 g1 hx h1 => hb W1 H0 H1 σ ρ _ _ e (R.go g1) h1 (fun W2 y dy H2 g2 hy ⟨a, b, e1, e2, hl, hq⟩ => by
    subst e1 e2
    have hx2 := hx.mono g2.le
    cases hx2 with
    | lst a1 t1 =>
      cases hy with
      | lst a2 t2 =>
        refine .inr (.inr (.inl ⟨_, _, _, _, rfl, rfl, g2.ok.f _ _ a1, g2.ok.f _ _ a2, by rw [t1.length, t2.length]; exact hl, fun p hp => ?_⟩))
        have nD := g2.ok.no hp
        have gz := (g1.trans R.ok g2)
        exact k W2 _ p _ _ (gz.trans R.ok (Go.own (o := .lst (_ ++ _)) g2.ok hp)) (gz.gone R.ok hp) upd_same nD.1 nD.2 (t1.append t2) hq) (kx.go R.ok g1)) kx
def rNeLI (K : PySem.W.Frag) : R2 := fun x y H Q => ∃ (a b : Addr) (xs ys : List V), x = .ref a ∧ y = .ref b ∧ H a = some (.lst xs) ∧ H b = some (.lst ys) ∧ xs.length = ys.length ∧ (∀ (i : Nat) (u v : V), xs[i]? = some u → ys[i]? = some v → (u = v ∧ sameOk u = true) ∨ ∃ d, Dp K H u d ∧ Dp K H v d ∧ d.canLay0 = true ∧ d.depth ≤ 60 ∧ PyData.eqv d d = true) ∧ Q (.bl false) H
theorem vals_get : ∀ {xs : List V} {us : List Value}, Vals xs us → ∀ (j : Nat) (h : j < us.length), ∃ x, xs[j]? = some x ∧ RelV x us[j]
  | _, _, .nil, j, h => absurd h (Nat.not_lt_zero j)
  | x :: _, _, .cons r t, 0, _ => ⟨x, rfl, r⟩
  | _ :: _, _, .cons r t, j + 1, h => vals_get t j (Nat.lt_of_succ_lt_succ h)
theorem neLI {X : Cx} (K : PySem.W.Frag) (hu : X.A.units + 64 < cLine) (hK : X.K = K := by rfl) : OpR X (compareOp .NotEq) (rNeLI K) := by
  subst hK
  intro pins s σ H x y v u Q I rx ry h
  obtain ⟨a, b, xs, ys, rfl, rfl, ha, hb, hl, hall, q⟩ := h
  cases (show v = Value.ref a from rx)
  cases (show u = Value.ref b from ry)
  obtain ⟨_, us, n1, r1, _, p1⟩ := I.lstM ha
  obtain ⟨_, ws, n2, r2, _, p2⟩ := I.lstM hb
  have hsz : us.toArray.size = ws.toArray.size := by simp [← r1.length, ← r2.length, hl]
  have k := SeqAt.RcNeAt.lists (A := X.A) (s := s) (e := fun _ => true) ⟨_, p1, rfl, _, rfl⟩ ⟨_, p2, rfl, _, rfl⟩ hsz (by omega) (fun j h1 h2 => by
    obtain ⟨x1, e1, t1⟩ := vals_get r1 j (by simpa using h1)
    obtain ⟨x2, e2, t2⟩ := vals_get r2 j (by simpa using h2)
    have : SeqAt.EqAt X.A.in1 s (us[j]'(by simpa using h1)) (ws[j]'(by simpa using h2)) true := by
      rcases hall j x1 x2 e1 e2 with ⟨rfl, c⟩ | ⟨d, d1, d2, c1, c2, c3⟩
      · exact same_at t1 t2 c
      · obtain ⟨as, q1⟩ := Dp.reads I d x1 _ d1 t1
        obtain ⟨bs, q2⟩ := Dp.reads I d x2 _ d2 t2
        have := SeqAt.eqAt_reads d d X.A.in1 s _ _ as bs q1 q2 c1 c1 (by
          have e : X.A.in1.units = X.A.units + 1 := rfl
          rw [Nat.min_self, e]
          omega)
        rwa [c3] at this
    simpa using this)
  have e : (!(List.range us.toArray.size).all fun _ => true) = false := by simp
  rw [e] at k
  exact k X.prog X.w X.xe _ ⟨.bl false, H, I, rfl, q⟩
/-- data that are equal to themselves -/
def selfEq (d : D) : Prop := ∃ p, toPy d = some p ∧ p.canLay0 = true ∧ p.depth ≤ 60 ∧ PyData.eqv p p = true
def fNeLI (x y : D) (q : KD) : Prop := ∃ ds : List D, x = .lst ds ∧ y = .lst ds ∧ (∀ d ∈ ds, (∃ v d', d = .vry v d') ∨ selfEq d) ∧ q (.bl false)
theorem vda_get2 {W : Wd} : ∀ {vs us : List V} {ds : List D}, VdA W vs ds → VdA W us ds → ∀ (i : Nat) (v u : V), vs[i]? = some v → us[i]? = some u → ∃ d ∈ ds, Vd W v d ∧ Vd W u d
  | _, _, _, .nil, .nil, i, v, u, h, _ => by simp at h
  | _, _, d :: ds, .cons a t, .cons b t', 0, v, u, h1, h2 => by
    cases h1
    cases h2
    exact ⟨d, List.mem_cons_self .., a, b⟩
  | _, _, d :: ds, .cons a t, .cons b t', i + 1, v, u, h1, h2 => by
    obtain ⟨e, m, x, y⟩ := vda_get2 t t' i v u (by simpa using h1) (by simpa using h2)
    exact ⟨e, List.mem_cons_of_mem _ m, x, y⟩
theorem sr_neLI : SimR (rNeLI K) fNeLI := fun W H x y dx dy Q q k hx hy h hk => by
  obtain ⟨ds, rfl, rfl, hall, h⟩ := h
  cases hx with
  | lst a1 t1 =>
    cases hy with
    | lst a2 t2 =>
      refine ⟨_, _, _, _, rfl, rfl, k.f _ _ a1, k.f _ _ a2, by rw [t1.length, t2.length], fun i u v h1 h2 => ?_, hk W _ _ H (.refl k) (.bl _) h⟩
      obtain ⟨d, m, b1, b2⟩ := vda_get2 t1 t2 i u v h1 h2
      rcases hall d m with ⟨z, d', rfl⟩ | ⟨p, e1, e2, e3, e4⟩
      · have e5 : u = z := by cases b1; rfl
        have e6 : v = z := by cases b2; rfl
        exact .inl ⟨e5.trans e6.symm, same_vd b1⟩
      · exact .inr ⟨p, dp_of k b1 e1, dp_of k b2 e1, e2, e3, e4⟩
/-- x not in a dict whose keys are nested tuples -/
def fNinN (w : World) (x y : D) (q : KD) : Prop := ∃ ks ds t, y = .dct w true ks ds ∧ nkOf x = some (.tup t) ∧ (NestedKey.tup t).depth ≤ 8 ∧ q (.bl (!decide (NestedKey.tup t ∈ ks)))
theorem sr_ninN : SimR (rNotInA K w) (fNinN w) := fun W H x y dx dy Q q k hx hy h hk => by
  obtain ⟨ks, ds, t, rfl, e, hd, h⟩ := h
  cases hy with
  | dctN f ek t1 t2 =>
    rename_i a xs
    have nj := nk_is k hx e
    have : ∃ b, x = .ref b := by cases nj with | tup _ _ => exact ⟨_, rfl⟩
    obtain ⟨b, rfl⟩ := this
    refine .inr (.inl ⟨a, b, xs, _, rfl, rfl, k.f _ _ f, all_keys2 k t1 ek, ⟨nj, hd⟩, ?_⟩)
    rw [lkN_isSome, ek]
    exact hk W _ _ H (.refl k) (.bl _) h
end
theorem dcL_run {g : MG} {t : MT} {kx vx : ME} {vs : List Nat} {ρ : Ev} {e : XD} {q : List NestedKey → List D → Prop} (Iv : Nat → List NestedKey → List D → Prop) : ∀ (xs : List D) (i : Nat) (ks : List NestedKey) (ds : List D), Iv i ks ds →
    (∀ (j : Nat) (x : D) (ks : List NestedKey) (ds : List D) (N : List NestedKey → List D → Prop), xs[j]? = some x → Iv (i + j) ks ds → (∀ ks' ds', Iv (i + j + 1) ks' ds' → N ks' ds') →
      g x (wipeD ρ vs) fun ρ2 => t ρ2 (fun b => if b = true then kx ρ2 (fun y => keyOk true y fun k => vx ρ2 (fun z => ks.length < sizeLine ∧ N (putKs k ks) (putVs k z ks ds)) e) e else N ks ds) e) →
    (∀ ks ds, Iv (i + xs.length) ks ds → q ks ds) → mDcL g t kx vx vs ρ e xs ks ds q
  | [], i, ks, ds, h0, _, hq => hq ks ds h0
  | x :: xs, i, ks, ds, h0, hs, hq => hs 0 x ks ds (fun ks ds => mDcL g t kx vx vs ρ e xs ks ds q) rfl h0 fun ks' ds' h1 => dcL_run Iv xs (i + 1) ks' ds' h1 (fun j x' ks ds N e1 h2 h3 => hs (j + 1) x' ks ds N e1 (by rwa [show i + (j + 1) = i + 1 + j by omega]) fun a b h4 => h3 a b (by rwa [show i + 1 + j + 1 = i + (j + 1) + 1 by omega])) fun a b h2 => hq a b (by rw [List.length_cons, show i + (xs.length + 1) = i + 1 + xs.length by omega]; exact h2)
def nkP (p : PP) : NestedKey := .tup [.num p.1, .num p.2]
def nkL (L : List PP) : NestedKey := .tup (L.map nkP)
def nkS (S : List (List PP)) : NestedKey := .tup (S.map nkL)
theorem nkOfA_map {α : Type} {f : α → D} {g : α → NestedKey} (h : ∀ a, nkOf (f a) = some (g a)) : ∀ L : List α, nkOfA (L.map f) = some (L.map g)
  | [] => rfl
  | a :: L => by rw [List.map_cons, nkOfA, h a, nkOfA_map h L]; rfl
theorem nkOf_tup {ds : List D} {ks : List NestedKey} (h : nkOfA ds = some ks) : nkOf (.tup ds) = some (.tup ks) := by rw [nkOf, h]
theorem nk_pair (p : PP) : nkOf (Dt.pairD p) = some (nkP p) := rfl
theorem nk_ld (L : List PP) : nkOf (ldD L) = some (nkL L) := nkOf_tup (nkOfA_map nk_pair L)
theorem nk_st (S : List (List PP)) : nkOf (stD S) = some (nkS S) := nkOf_tup (nkOfA_map nk_ld S)
theorem map_inj {α β : Type} {f : α → β} (h : ∀ a b, f a = f b → a = b) : ∀ {l m : List α}, l.map f = m.map f → l = m
  | [], [], _ => rfl
  | [], _ :: _, e => by cases e
  | _ :: _, [], e => by cases e
  | a :: l, b :: m, e => by
    rw [List.map_cons, List.map_cons] at e
    injection e with e1 e2
    rw [h a b e1, map_inj h e2]
theorem nkP_inj : ∀ a b : PP, nkP a = nkP b → a = b := fun a b e => by
  obtain ⟨a1, a2⟩ := a
  obtain ⟨b1, b2⟩ := b
  unfold nkP at e
  injection e with e
  injection e with e1 e2
  injection e2 with e2 _
  injection e1 with e1
  injection e2 with e2
  have e1 : a1 = b1 := e1
  have e2 : a2 = b2 := e2
  rw [e1, e2]
theorem nkL_inj : ∀ a b : List PP, nkL a = nkL b → a = b := fun a b e => by
  unfold nkL at e
  injection e with e
  exact map_inj nkP_inj e
theorem nkS_inj : ∀ a b : List (List PP), nkS a = nkS b → a = b := fun a b e => by
  unfold nkS at e
  injection e with e
  exact map_inj nkL_inj e
theorem depth_map {α : Type} {g : α → NestedKey} {n : Nat} (h : ∀ a, (g a).depth ≤ n) : ∀ L : List α, NestedKey.depthAll (L.map g) ≤ n
  | [] => by rw [List.map_nil, NestedKey.depthAll]; omega
  | a :: L => by rw [List.map_cons, NestedKey.depthAll]; exact Nat.max_le.mpr ⟨h a, depth_map h L⟩
theorem depth_P (p : PP) : (nkP p).depth ≤ 2 := by unfold nkP; rw [NestedKey.depth, NestedKey.depthAll, NestedKey.depthAll, NestedKey.depthAll, NestedKey.depth, NestedKey.depth]; decide
theorem depth_L (L : List PP) : (nkL L).depth ≤ 3 := by unfold nkL; rw [NestedKey.depth]; have := depth_map depth_P L; omega
theorem depth_S (S : List (List PP)) : (nkS S).depth ≤ 8 := by unfold nkS; rw [NestedKey.depth]; have := depth_map depth_L S; omega
theorem keyOk_st {S : List (List PP)} {q : NestedKey → Prop} (h : q (nkS S)) : keyOk true (stD S) q := by
  unfold keyOk
  rw [nk_st]
  exact ⟨depth_S S, h⟩
theorem notin_st {w : World} {S : List (List PP)} {ks : List NestedKey} {ds : List D} {q : KD} (h : q (.bl (!decide (nkS S ∈ ks)))) : fNinN w (stD S) (.dct w true ks ds) q := ⟨ks, ds, S.map nkL, rfl, nk_st S, depth_S S, h⟩
/-- the keys of a list of standings, each once -/
def keysOf : List (List (List PP)) → List NestedKey → List NestedKey
  | [], ks => ks
  | S :: Ss, ks => keysOf Ss (putKs (nkS S) ks)
theorem keysOf_mem {k : NestedKey} : ∀ {Ss : List (List (List PP))} {ks : List NestedKey}, k ∈ keysOf Ss ks ↔ k ∈ ks ∨ k ∈ Ss.map nkS
  | [], ks => by simp [keysOf]
  | S :: Ss, ks => by
    rw [keysOf, keysOf_mem, List.map_cons, List.mem_cons]
    unfold putKs
    split
    · rename_i c
      constructor
      · rintro (h | h)
        · exact .inl h
        · exact .inr (.inr h)
      · rintro (h | rfl | h)
        · exact .inl h
        · exact .inl c
        · exact .inr h
    · rw [List.mem_append, List.mem_singleton]
      constructor
      · rintro ((h | h) | h)
        · exact .inl h
        · exact .inr (.inl h)
        · exact .inr (.inr h)
      · rintro (h | h | h)
        · exact .inl (.inl h)
        · exact .inl (.inr h)
        · exact .inr h
theorem keysOf_app : ∀ (Ss : List (List (List PP))) (S : List (List PP)) (ks : List NestedKey), keysOf (Ss ++ [S]) ks = putKs (nkS S) (keysOf Ss ks)
  | [], S, ks => rfl
  | T :: Ss, S, ks => by rw [List.cons_append, keysOf, keysOf_app Ss S, keysOf]
theorem putKs_len (j : NestedKey) (ks : List NestedKey) : (putKs j ks).length ≤ ks.length + 1 := by
  unfold putKs
  split
  · omega
  · rw [List.length_append]; exact Nat.le_refl _
end Dt
set_option Elab.async false
set_option linter.all false
set_option maxRecDepth 100000
set_option maxHeartbeats 4000000
namespace K27
open PySem PySem.Spec PyProof.Rows L2 Com Sd StV Gn Ext Dt
open Et (lf e_var e_non e_nil e_cons e_B e_def op_notInA s_never s_seq s_if p_var go_upd s_fld e_isi U EndsU SpU spU intsU endU xendU startU endE xendE br MethAtU.ok DefAtU.ok FunU.ok DefAtE.ok MethAtE.ok FunE.ok DefAtUX.ok MethAtUX.ok DefAtEX.ok CS CE CX putU)
variable [Dt.Tb]
section
variable {P : Program} {w : World} {K : PySem.W.Frag} {mg : Str → Option Value} {base : Heap} {C : Addr}
abbrev s_with_pair : Stmt := top 9
abbrev N_with_pair : List Str := ["load", "pair"]
theorem sc_with_pair : FnScope N_with_pair ["load", "pair"] (defScope s_with_pair) := ⟨rfl, rfl, rfl, by decide +kernel, rfl, by decide +kernel, by decide +kernel⟩
def putP (L : List PP) (p : PP) : List PP := srt (L ++ [p])
def sdWithP : SpD := fun xs q _ => ∃ L p, xs = [ldD L, Dt.pairD p] ∧ L.length ≤ 500 ∧ q (ldD (putP L p))
theorem ok_with_pair (T : Blt mg) (Df : DefAt K mg "with_pair" s_with_pair ["load", "pair"]) : DefOk P w K mg base CX0 1 "with_pair" (spOf sdWithP) := by
  refine DefAtD.ok Df sc_with_pair (fun ds q e h => by obtain ⟨_, _, rfl, _⟩ := h; rfl) (fun f cdv A outer s H E hr => ?_)
  refine ⟨_, _, (pss_one (ps_ret (pe_callTy (cl_tuple K) (by rfl) T.z_tuple (by decide +kernel) (pa_cons (pe_callB (cr_srtP K) (by rfl) T.z_sorted (by decide +kernel) (pa_cons (pe_lst (StX.pa_star (pv 0) (pa_cons (pv 1) pa_nil))) pa_nil)) pa_nil)))), (ss_ret (si_cb (si_cons (si_cb (si_cons (si_star2 si_var si_var) si_nil) sc_srtP) si_nil) sc_tuple)), fun ds q e h => ?_⟩
  obtain ⟨L, p, rfl, hl, h⟩ := h
  refine ⟨_, rfl, L.map Dt.pairD, .inl rfl, _, rfl, ?_⟩
  refine ⟨by rw [List.length_map]; exact szle (by omega), L ++ [p], by rw [List.map_append]; rfl, _, .inr rfl, h⟩
end
section
variable {P : Program} {w : World} {K : PySem.W.Frag} {mg : Str → Option Value} {base : Heap} {C : Addr}
theorem cutS0 {S : List (List PP)} {k : Nat} (h : k ≤ S.length) : cutD (S.map ldD) none (some ((k : Nat) : Int)) = (S.take k).map ldD := by
  rw [cut_take (by omega), Int.toNat_natCast, List.map_take]
theorem cutS1 {S : List (List PP)} {k : Nat} (h : k < S.length) : cutD (S.map ldD) (some (((k : Nat) : Int) + 1)) none = (S.drop (k + 1)).map ldD := by
  rw [cut_drop (by omega) (by rw [List.length_map]; omega), show (((k : Nat) : Int) + 1).toNat = k + 1 by omega, List.map_drop]
theorem set_cut {α : Type} {S : List α} {k : Nat} {x : α} (h : k < S.length) : S.take k ++ [x] ++ S.drop (k + 1) = S.set k x := by
  rw [List.set_eq_take_append_cons_drop, if_pos h, List.append_assoc]
  rfl
theorem go_slT {xs ys : List Dt.D} {lo hi : Option Int} {q : KD} (e : Dt.cutD xs lo hi = ys) (h : q (.tup ys)) : fSl (.tup xs) lo hi q := by
  show q (.tup (Dt.cutD xs lo hi))
  rw [e]; exact h
def sdPut (f : List PP → PP → List PP) : SpD := fun xs q _ => ∃ S p k L, xs = [stD S, Dt.pairD p, .int ((k : Nat) : Int)] ∧ S[k]? = some L ∧ S.length ≤ 100 ∧ L.length ≤ 500 ∧ q (stD (S.set k (f L p)))
abbrev s_placed : Stmt := top 18
abbrev N_placed : List Str := ["standing", "pair", "k"]
theorem sc_placed : FnScope N_placed ["standing", "pair", "k"] (defScope s_placed) := ⟨rfl, rfl, rfl, by decide +kernel, rfl, by decide +kernel, by decide +kernel⟩
theorem ok_placed (T : Blt mg) (D_with_pair : DefOk P w K mg base CX0 1 "with_pair" (spOf sdWithP)) (Df : DefAt K mg "placed" s_placed ["standing", "pair", "k"]) : DefOk P w K mg base CX0 2 "placed" (spOf (sdPut putP)) := by
  refine DefAtD.ok Df sc_placed (fun ds q e h => by obtain ⟨_, _, _, _, rfl, _⟩ := h; rfl) (fun f cdv A outer s H E hr => ?_)
  refine ⟨_, _, (pss_one (ps_ret (pe_op op_plus (pe_op op_plus (pe_slice (slU K) (pv 0) po_none (po_some (pv 2))) (pe_tup (pa_cons (pe_def D_with_pair hr (by decide) passE (pa_cons (pe_ix (ixU K) (pv 0) (pv 2) (fun _ _ => rfl)) (pa_cons (pv 1) pa_nil))) pa_nil))) (pe_slice (slU K) (pv 0) (po_some (pe_op op_plus (pv 2) pe_int)) po_none)))), (ss_ret (si_op (si_op (si_sl si_var si_noP (si_part si_var) sl_U) (si_tup (si_cons (si_def (si_cons (si_op si_var si_var sr_ix) (si_cons si_var si_nil))) si_nil)) sr_plus) (si_sl si_var (si_part (si_op si_var si_int sr_plus)) si_noP sl_U) sr_plus)), fun ds q e h => ?_⟩
  obtain ⟨S, p, k, L, rfl, hk, hS, hL, h⟩ := h
  have hkl := (List.getElem?_eq_some_iff.mp hk).1
  have l1 : ((S.take k).map ldD).length = k := by rw [List.length_map, List.length_take]; omega
  have l2 : ((S.drop (k + 1)).map ldD).length = S.length - (k + 1) := by rw [List.length_map, List.length_drop]
  refine ⟨_, rfl, _, rfl, _, rfl, go_slT (cutS0 (Nat.le_of_lt hkl)) ?_⟩
  refine ⟨_, rfl, _, rfl, go_ixT (i := k) (d := ldD L) (by rw [List.getElem?_map, hk]; rfl) ⟨_, rfl, L, p, rfl, hL, (by show 1 ≤ sizeLine; decide), ?_⟩⟩
  refine ⟨by rw [l1]; show k + 1 ≤ 1000; omega, _, rfl, _, rfl, _, rfl, go_slT (cutS1 hkl) ⟨by rw [List.length_append, l1, l2]; show k + 1 + _ ≤ 1000; omega, ?_⟩⟩
  have e : (S.take k).map ldD ++ [ldD (putP L p)] ++ (S.drop (k + 1)).map ldD = (S.set k (putP L p)).map ldD := by
    rw [← set_cut hkl, List.map_append, List.map_append]
    rfl
  rw [e]
  exact h
end
end K27
set_option Elab.async false
set_option linter.all false
set_option maxRecDepth 100000
set_option maxHeartbeats 4000000
namespace K27
open PySem PySem.Spec PyProof.Rows L2 Com Sd StV Gn Ext Dt
open Et (lf e_var e_non e_nil e_cons e_B e_def op_notInA s_never s_seq s_if p_var go_upd s_fld e_isi U EndsU SpU spU intsU endU xendU startU endE xendE br MethAtU.ok DefAtU.ok FunU.ok DefAtE.ok MethAtE.ok FunE.ok DefAtUX.ok MethAtUX.ok DefAtEX.ok CS CE CX putU)
variable [Dt.Tb]
open Et (putKs putVs)
section
variable {P : Program} {w : World} {K : PySem.W.Frag} {mg : Str → Option Value} {base : Heap} {C RC : Addr}
theorem step_mem {wd : Str} {S : List (List PP)} (b k : Nat) : stepW wd S b k = b ∨ stepW wd S b k = k := by
  unfold stepW
  dsimp only
  repeat' split
  all_goals first | exact .inl rfl | exact .inr rfl
theorem fold_mem {wd : Str} {S : List (List PP)} : ∀ (l : List Nat) (b : Nat), l.foldl (stepW wd S) b = b ∨ l.foldl (stepW wd S) b ∈ l
  | [], b => .inl rfl
  | k :: l, b => by
    rw [List.foldl_cons]
    rcases fold_mem (wd := wd) (S := S) l (stepW wd S b k) with h | h
    · rw [h]
      rcases step_mem (wd := wd) (S := S) b k with h2 | h2
      · exact .inl h2
      · exact .inr (by rw [h2]; simp)
    · exact .inr (List.mem_cons_of_mem _ h)
theorem best_mem {wd : Str} {S : List (List PP)} {fr : List Nat} (h : 0 < fr.length) : bestW wd S fr ∈ fr := by
  have m : ∀ i, i < fr.length → fr.getD i 0 ∈ fr := fun i hi => by rw [List.getD_eq_getElem?_getD, List.getElem?_eq_getElem hi]; exact List.getElem_mem hi
  unfold bestW
  split
  · exact m 0 h
  · split
    · exact m _ (by omega)
    · rcases fold_mem (wd := wd) (S := S) fr (fr.getD 0 0) with e | e
      · rw [e]; exact m 0 h
      · exact e
theorem pick_lt {wd : Str} {S : List (List PP)} {p : PP} {k : Nat} (hw : Wrd wd) (h : pickN wd S p = some k) : k < S.length := by
  unfold pickN at h
  split at h
  · cases h
  · rename_i a l e
    cases h
    refine free_lt (p := p) ?_
    rw [e]
    exact best_mem (Nat.succ_pos _)
theorem fs_em (m : Int) : fs (emS m) = [] ∧ sn (emS m) = [] := by
  unfold fs sn emS
  have : (List.replicate m.toNat ([] : List PP)).flatten = [] := by
    induction m.toNat with
    | zero => rfl
    | succ n ih => rw [List.replicate_succ, List.flatten_cons, ih]; rfl
  rw [this]
  exact ⟨rfl, rfl⟩
theorem opens_hd {ds es : List Int} {m : Int} (gi : Good ds) (go : Good es) : ∃ rest, opens ds es (emS m) = (0, 0) :: rest := by
  obtain ⟨n, hn⟩ : ∃ n, ds.length = n + 1 := ⟨ds.length - 1, by have := gi.1; omega⟩
  obtain ⟨k, hk⟩ : ∃ k, es.length = k + 1 := ⟨es.length - 1, by have := go.1; omega⟩
  have e1 : ∃ r, pairsL ds.length es.length = (0, 0) :: r := by
    rw [hn, hk]
    unfold pairsL rowL
    have r0 : ∀ n : Nat, List.range (n + 1) = 0 :: (List.range n).map Nat.succ := fun n => List.range_succ_eq_map
    rw [r0 n, List.flatMap_cons, r0 k, List.map_cons]
    exact ⟨_, rfl⟩
  obtain ⟨r, e1⟩ := e1
  have e2 : openB ds es (emS m) (0, 0) = true := by
    unfold openB
    rw [(fs_em m).1, (fs_em m).2, left_nil, left_nil]
    have a : 1 ≤ ds.getD 0 0 := by
      rw [List.getD_eq_getElem?_getD, List.getElem?_eq_getElem (by omega)]
      exact (gi.2.2 _ (List.getElem_mem _)).1
    have b : 1 ≤ es.getD 0 0 := by
      rw [List.getD_eq_getElem?_getD, List.getElem?_eq_getElem (by omega)]
      exact (go.2.2 _ (List.getElem_mem _)).1
    show (decide (0 < ds.getD 0 0) && decide (0 < es.getD 0 0)) = true
    rw [decide_eq_true (by omega), decide_eq_true (by omega)]
    rfl
  unfold opens
  rw [e1, List.filter_cons, if_pos e2]
  exact ⟨_, rfl⟩
theorem free_em {m : Int} (h : 1 ≤ m) (p : PP) : 0 < (freeN (emS m) p).length := by
  have : 0 ∈ freeN (emS m) p := by
    unfold freeN
    refine List.mem_filter.mpr ⟨List.mem_range.mpr (by rw [emS, List.length_replicate]; omega), ?_⟩
    have e : (emS m).getD 0 [] = [] := by
      unfold emS
      rw [List.getD_eq_getElem?_getD, List.getElem?_replicate]
      split <;> rfl
    rw [e]
    rfl
  cases e : freeN (emS m) p with
  | nil => rw [e] at this; cases this
  | cons a l => exact Nat.succ_pos _
theorem pick_em {wd : Str} {m : Int} (hw : Wrd wd) (h : 1 ≤ m) (p : PP) : ∃ k, pickN wd (emS m) p = some k ∧ (k : Int) < m := by
  have f := free_em h p
  cases e : pickN wd (emS m) p with
  | none =>
    unfold pickN at e
    cases e2 : freeN (emS m) p with
    | nil => rw [e2] at f; exact absurd f (Nat.lt_irrefl _)
    | cons a l => rw [e2] at e; cases e
  | some k =>
    have := pick_lt hw e
    rw [emS, List.length_replicate] at this
    exact ⟨k, rfl, by omega⟩
abbrev s_call_fault : Stmt := top 45
abbrev N_call_fault : List Str := ["rule", "standing", "k", "listed", "pair", "middle"]
theorem sc_call_fault : FnScope N_call_fault ["rule", "standing", "k", "listed"] (defScope s_call_fault) := ⟨rfl, rfl, rfl, by decide +kernel, rfl, by decide +kernel, by decide +kernel⟩
def sdCallF (w : World) (C RC : Addr) : SpD := fun xs q _ => ∃ ds es m wd k dv, xs = [ruD RC (exD C ds es m) wd, stD (emS m), .int k, .dct w true [nkS (emS m)] dv] ∧ Wrd wd ∧ GE ds es m ∧ q (.tup [.str "call", .int k, Dt.pairD (0, 0)])
theorem ok_call_fault (T : Blt mg) (R : RuC K RC) (D_open_pairs : DefOk P w K mg base CX0 2 "open_pairs" (spOf (sdOpenPairs C))) (M_pick : MethOk P w K mg base CX0 3 RC "pick" (spOf (sdPick RC))) (D_placed : DefOk P w K mg base CX0 2 "placed" (spOf (sdPut putP)))
    (Df : DefAt K mg "_call_fault" s_call_fault ["rule", "standing", "k", "listed"]) : DefOk P w K mg base CX0 4 "_call_fault" (spOf (sdCallF w C RC)) := by
  refine DefAtD.ok Df sc_call_fault (fun ds q e h => by obtain ⟨_, _, _, _, _, _, rfl, _⟩ := h; rfl) (fun f cdv A outer s H E hr => ?_)
  have hu5 := r65 hr
  have hu9 := Nat.lt_of_le_of_lt (Nat.add_le_add_left (by decide : 9 ≤ 65) _) hu5
  refine ⟨_, _, (pss_cons (ps_for PassesOwn.never rfl (pi_seq K (pe_def D_open_pairs hr (by decide) passE (pa_cons (pe_fldK K (pv 0)) (pa_cons (pv 1) pa_nil)))) (pg_name (i := 4) sc_call_fault.nd rfl (Or.inl rfl))
      (pss_cons (ps_set (i := 5) sc_call_fault.nd rfl (Or.inl rfl) (pe_mth (pv 0) R.cl M_pick hr (by decide) passE (pa_cons (pv 1) (pa_cons (pv 4) pa_nil))))
      (pss_cons (ps_if (pt_cmpR op_isN (pv 5) pe_non (nomark _))
        (pss_one (ps_ret (pe_tup (pa_cons pe_str (pa_cons (pv 2) (pa_cons (pv 4) pa_nil))))))
        pss_nil)
      (pss_one (ps_if (pt_cmpR (op_notInA K hu9 hu5) (pe_def D_placed hr (by decide) passE (pa_cons (pv 1) (pa_cons (pv 4) (pa_cons (pv 5) pa_nil)))) (pv 3) rfl)
        (pss_one (ps_ret (pe_tup (pa_cons pe_str (pa_cons (pv 2) (pa_cons (pv 4) pa_nil))))))
        pss_nil)))))
    (pss_one (ps_ret pe_non))), (ss_seq (ss_for (si_seq (si_def (si_cons (si_fld R.cl R.n1 si_var) (si_cons si_var si_nil)))) sg_name
      (ss_seq (ss_asg (si_mth si_var (si_cons si_var (si_cons si_var si_nil))) sg_name)
      (ss_seq (ss_if (si_test (si_op si_var si_non sr_isN))
        (ss_ret (si_tup (si_cons si_str (si_cons si_var (si_cons si_var si_nil)))))
        ss_nx)
      (ss_if (si_test (si_op (si_def (si_cons si_var (si_cons si_var (si_cons si_var si_nil)))) si_var sr_ninN))
        (ss_ret (si_tup (si_cons si_str (si_cons si_var (si_cons si_var si_nil)))))
        ss_nx))))
    (ss_ret si_non)), fun xs q e h => ?_⟩
  obtain ⟨ds, es, m, wd, k, dv, rfl, hw, g, h⟩ := h
  have gi2 := g.gi.2.1
  have go2 := g.go.2.1
  have m1 := g.m1
  have m2 := g.m2
  have hl : (emS m).length = m.toNat := by rw [emS, List.length_replicate]
  have nil : ∀ L ∈ emS m, L = [] := fun L hL => (List.mem_replicate.mp hL).2
  refine ⟨_, rfl, _, _, _, rfl, rfl, _, rfl, ds, es, m, emS m, rfl, by omega, by omega, fun L hL p hp => (by rw [nil L hL] at hp; cases hp), ?_⟩
  obtain ⟨rest, e1⟩ := opens_hd (m := m) g.gi g.go
  rw [e1]
  refine ⟨_, .inr rfl, ?_⟩
  obtain ⟨j, e2, hj⟩ := pick_em (m := m) hw m1 (0, 0)
  refine ⟨_, rfl, _, _, rfl, rfl, _, rfl, _, rfl, _, emS m, (0, 0), wd, rfl, hw, by omega, fun L hL => (by rw [nil L hL]; exact Nat.zero_le _), ?_⟩
  rw [e2]
  refine ⟨_, rfl, rfl, _, rfl, ifFF ?_⟩
  have ej : (emS m)[j]? = some [] := by rw [emS, List.getElem?_replicate, if_pos (by omega)]
  refine ⟨_, rfl, _, rfl, _, rfl, emS m, (0, 0), j, [], rfl, ej, by omega, by decide, _, rfl, notin_st ⟨_, rfl, ?_⟩⟩
  have ne : nkS ((emS m).set j (putP [] (0, 0))) ∉ [nkS (emS m)] := fun z => by
    have z := nkS_inj _ _ (List.mem_singleton.mp z)
    have z2 : (some (putP [] (0, 0)) : Option (List PP)) = some [] := by
      rw [← ej, ← z, List.getElem?_set_self (by omega)]
    injection z2 with z2
    have : (putP [] (0, 0)).length = 1 := by unfold putP; rw [srt_len]; rfl
    rw [z2] at this
    cases this
  rw [decide_eq_false ne]
  exact ifTT ⟨_, rfl, _, rfl, (by show 3 ≤ sizeLine; decide), h⟩
abbrev s_safe_fault : Stmt := top 44
abbrev N_safe_fault : List Str := ["rule", "standings", "k", "standing", "listed", "fault"]
theorem sc_safe_fault : FnScope N_safe_fault ["rule", "standings"] (defScope s_safe_fault) := ⟨rfl, rfl, rfl, by decide +kernel, rfl, by decide +kernel, by decide +kernel⟩
theorem cls_stA {S : List (List PP)} : clsA K (stD S) := clsA.tup.mpr fun x hx => by
  obtain ⟨L, _, rfl⟩ := List.mem_map.mp hx
  refine clsA.tup.mpr fun y hy => ?_
  obtain ⟨p, _, rfl⟩ := List.mem_map.mp hy
  exact cls_pair
/-- what safe_fault is asked with -/
def SafeArg (K : PySem.W.Frag) (ds es : List Int) (m : Int) (d : Dt.D) (q : KD) : Prop :=
  (clsOk K d ∧ isiD "list" d = false ∧ q (.tup [.str "form"]))
  ∨ (∃ its, d = .lst its ∧ 2000 < its.length ∧ its.length ≤ 100000 ∧ q (.tup [.str "form"]))
  ∨ (∃ its i x, d = .lst its ∧ its.length ≤ 2000 ∧ its[i]? = some x ∧ clsA K (er1 x) ∧ isStaD ds es m (er1 x) = false ∧ (∀ j y, j < i → its[j]? = some y → clsA K (er1 y) ∧ isStaD ds es m (er1 y) = true) ∧ q (.tup [.str "standing", .int ((i : Nat) : Int)]))
  ∨ (∃ Ss : List (List (List PP)), d = .lst (Ss.map stD) ∧ Ss.length ≤ 2000 ∧ (∀ S ∈ Ss, StdOk ds es m S) ∧ emS m ∉ Ss ∧ q (.tup [.str "empty"]))
  ∨ (∃ n, d = .lst (List.replicate (n + 1) (stD (emS m))) ∧ n < 2000 ∧ q (.tup [.str "call", .int 0, Dt.pairD (0, 0)]))
def sdSafe (K : PySem.W.Frag) (C RC : Addr) : SpD := fun xs q _ => ∃ ds es m wd d, xs = [ruD RC (exD C ds es m) wd, d] ∧ Wrd wd ∧ GE ds es m ∧ SafeArg K ds es m d q
theorem em_ok {ds es : List Int} {m : Int} (g : GE ds es m) : StdOk ds es m (emS m) := by
  refine ⟨by rw [emS, List.length_replicate]; have := g.m1; omega, fun L hL => ?_, fun d hd => ?_, fun d hd => ?_⟩
  · rw [(List.mem_replicate.mp hL).2]
    exact LoadOk.nil
  · rw [(fs_em m).1, left_nil] at hd
    have := (g.gi.2.2 d hd).1
    omega
  · rw [(fs_em m).2, left_nil] at hd
    have := (g.go.2.2 d hd).1
    omega
theorem ok_safe_fault (T : Blt mg) (R : RuC K RC) (D_is_standing : DefOk P w K mg base CX0 5 "is_standing" (spOf (sdIsSta K C))) (D_empty : DefOk P w K mg base CX0 1 "empty" (spOf (sdEmpty C))) (D_call_fault : DefOk P w K mg base CX0 4 "_call_fault" (spOf (sdCallF w C RC)))
    (Df : DefAt K mg "safe_fault" s_safe_fault ["rule", "standings"]) : DefOk P w K mg base CX0 6 "safe_fault" (spOf (sdSafe K C RC)) := by
  obtain ⟨t2000, c_MOST_STANDINGS⟩ := T.c_MOST_STANDINGS
  refine DefAtD.ok Df sc_safe_fault (fun ds q e h => by obtain ⟨_, _, _, _, _, rfl, _⟩ := h; rfl) (fun f cdv A outer s H E hr => ?_)
  have hu5 := r65 hr
  have hu9 := Nat.lt_of_le_of_lt (Nat.add_le_add_left (by decide : 9 ≤ 65) _) hu5
  have hu8 := Nat.lt_of_le_of_lt (Nat.add_le_add_left (by decide : 8 ≤ 65) _) hu5
  refine ⟨_, _, (pss_cons (ps_if (PW.pt (pw_or (pt_not (pt_val (pe_callB (cl_isi K) (by rfl) T.z_isinstance (by decide +kernel) (pa_cons (pv 1) (pa_cons (pe_bltn (v := .ty "list") (by rfl) T.z_list (by decide +kernel) rfl) pa_nil))))) (pw_or1 (pt_cmpR op_gt (pe_callB (cl_len K) (by rfl) T.z_len (by decide +kernel) (pa_cons (pv 1) pa_nil)) (pe_gint (by rfl) c_MOST_STANDINGS) (nomark _)))))
      (pss_one (ps_ret (pe_tup (pa_cons pe_str pa_nil))))
      pss_nil)
    (pss_cons (ps_for PassesOwn.never rfl (pi_enumU K (by rfl) T.z_enumerate (pa_cons (pv 1) pa_nil)) (pgT K (pgs_cons (pg_name (i := 2) sc_safe_fault.nd rfl (Or.inl rfl)) (pgs_cons (pg_name (i := 3) sc_safe_fault.nd rfl (Or.inl rfl)) pgs_nil)))
      (pss_one (ps_if (pt_not (pt_val (pe_def D_is_standing hr (by decide) passE (pa_cons (pe_fldK K (pv 0)) (pa_cons (pv 3) pa_nil)))))
        (pss_one (ps_ret (pe_tup (pa_cons pe_str (pa_cons (pv 2) pa_nil)))))
        pss_nil)))
    (pss_cons (Nd.ps_setDcN (i := 4) (own := [("standing", 3)]) (g := gName 3) (tt := tYes) hu8 rfl sc_safe_fault.nd rfl rfl (Nd.swD rfl rfl rfl (by decide +kernel)) (pi_seq K (pv 1)) (blkOk_by (N := N_safe_fault) (sc := defScope s_safe_fault) (by decide +kernel)) (fun _ _ _ _ _ => by exact (pg_name (i := 3) sc_safe_fault.nd rfl (Or.inl rfl))) (fun _ _ _ _ _ => by exact pts_nil) (fun _ _ _ _ _ => by exact (pv 3)) (fun _ _ _ _ _ => by exact pe_bl))
    (pss_cons (ps_if (pt_cmpR (op_notInA K hu9 hu5) (pe_def D_empty hr (by decide) passE (pa_cons (pe_fldK K (pv 0)) pa_nil)) (pv 4) rfl)
      (pss_one (ps_ret (pe_tup (pa_cons pe_str pa_nil))))
      pss_nil)
    (pss_cons (ps_for PassesOwn.never rfl (pi_enumU K (by rfl) T.z_enumerate (pa_cons (pv 1) pa_nil)) (pgT K (pgs_cons (pg_name (i := 2) sc_safe_fault.nd rfl (Or.inl rfl)) (pgs_cons (pg_name (i := 3) sc_safe_fault.nd rfl (Or.inl rfl)) pgs_nil)))
      (pss_cons (ps_set (i := 5) sc_safe_fault.nd rfl (Or.inl rfl) (pe_def D_call_fault hr (by decide) passE (pa_cons (pv 0) (pa_cons (pv 3) (pa_cons (pv 2) (pa_cons (pv 4) pa_nil))))))
      (pss_cons (ps_if (pt_cmpR op_isN (pv 5) pe_non (nomark _))
        pss_never
        pss_nil)
      (pss_one (ps_if (pt_cmpR op_notN (pv 5) pe_non (nomark _))
        (pss_one (ps_ret (pv 5)))
        pss_nil)))))
    (pss_one (ps_ret pe_non))))))), (ss_seq (ss_if (si_or (si_not (si_B (si_isi (.ty "list") si_var))) (si_test (si_op (si_cb (si_cons si_var si_nil) sc_len) si_int sr_B0)))
      (ss_ret (si_tup (si_cons si_str si_nil)))
      ss_nx)
    (ss_seq (ss_for (si_enum (si_cons si_var si_nil)) (sg_tup (sg_cons sg_name (sg_cons sg_name sg_nil)))
      (ss_if (si_not (si_B (si_defE (si_cons (si_fld R.cl R.n1 si_var) (si_cons si_var si_nil)))))
        (ss_ret (si_tup (si_cons si_str (si_cons si_var si_nil))))
        ss_nx))
    (ss_seq (ss_asg (si_dcN (si_seq si_var) sg_name si_yes si_var si_bl (by decide)) sg_name)
    (ss_seq (ss_if (si_test (si_op (si_def (si_cons (si_fld R.cl R.n1 si_var) si_nil)) si_var sr_ninN))
      (ss_ret (si_tup (si_cons si_str si_nil)))
      ss_nx)
    (ss_seq (ss_for (si_enum (si_cons si_var si_nil)) (sg_tup (sg_cons sg_name (sg_cons sg_name sg_nil)))
      (ss_seq (ss_asg (si_def (si_cons si_var (si_cons si_var (si_cons si_var (si_cons si_var si_nil))))) sg_name)
      (ss_seq (ss_if (si_test (si_op si_var si_non sr_isN))
        ss_never
        ss_nx)
      (ss_if (si_test (si_op si_var si_non sr_notN))
        (ss_ret si_var)
        ss_nx))))
    (ss_ret si_non)))))), fun xs q e h => ?_⟩
  obtain ⟨ds, es, m, wd, d, rfl, hw, g, h⟩ := h
  have gi1 := g.gi.1
  have gi2 := g.gi.2.1
  have go1 := g.go.1
  have go2 := g.go.2.1
  have m1 := g.m1
  have m2 := g.m2
  rcases h with ⟨hc, hn, h⟩ | ⟨its, rfl, l1, l2, h⟩ | ⟨its, i, x, rfl, hl, hi, hc, hs, hb, h⟩ | ⟨Ss, rfl, hl, hS, hne, h⟩ | ⟨n, rfl, hl, h⟩
  · refine ⟨_, rfl, isi_go hc ⟨_, rfl, ?_⟩⟩
    rw [hn]
    exact ifTT ⟨(by show 1 ≤ sizeLine; decide), h⟩
  · refine ⟨_, rfl, isi_go (by trivial) ⟨_, rfl, ifFF ⟨_, rfl, go_lenL ⟨trivial, _, rfl, ?_⟩⟩⟩⟩
    rw [decide_eq_true (by omega)]
    exact ifTT ⟨(by show 1 ≤ sizeLine; decide), h⟩
  · refine ⟨_, rfl, isi_go (by trivial) ⟨_, rfl, ifFF ⟨_, rfl, go_lenL ⟨trivial, _, rfl, ?_⟩⟩⟩⟩
    rw [decide_eq_false (by omega)]
    refine ifFF ⟨_, rfl, _, .inr rfl, loop_inv (fun j ρ => j ≤ i ∧ ∃ w2 w3 w4 w5, ρ = [some (.d (ruD RC (exD C ds es m) wd)), some (.d (.lst its)), w2, w3, w4, w5]) _ 0 _ ⟨Nat.zero_le _, _, _, _, _, rfl⟩ ?_ ?_⟩
    · rintro j y ρ N hj ⟨hji, w2, w3, w4, w5, rfl⟩ hN
      rw [Nat.zero_add] at hji hN
      rw [enumD_get] at hj
      cases hy : its[j]? with
      | none => rw [hy] at hj; cases hj
      | some y0 =>
        rw [hy] at hj
        cases hj
        refine ⟨_, rfl, rfl, _, _, rfl, _, _, rfl, rfl, ?_⟩
        refine ⟨_, rfl, _, _, _, rfl, rfl, _, rfl, ds, es, m, er1 y0, rfl, by omega, by omega, by omega, by omega, by omega, ?_⟩
        rcases Nat.lt_or_ge j i with c | c
        · obtain ⟨c1, c2⟩ := hb j y0 c hy
          refine ⟨c1, ?_⟩
          rw [c2]
          exact ⟨_, rfl, ifFF (hN _ ⟨c, _, _, _, _, rfl⟩)⟩
        · have : j = i := by omega
          subst this
          rw [hi] at hy
          cases hy
          refine ⟨hc, ?_⟩
          rw [hs]
          refine ⟨_, rfl, ifTT ⟨_, rfl, (by show 2 ≤ sizeLine; decide), ?_⟩⟩
          rw [Nat.zero_add]
          exact h
    · rintro ρ ⟨c, _⟩
      rw [Nat.zero_add, enumD_len] at c
      have := (List.getElem?_eq_some_iff.mp hi).1
      omega
  · have hl2 : (Ss.map stD).length ≤ 2000 := by rw [List.length_map]; exact hl
    have hs2 := fun S (hS' : S ∈ Ss) => isSta_ok (hS S hS')
    refine ⟨_, rfl, isi_go (by trivial) ⟨_, rfl, ifFF ⟨_, rfl, go_lenL ⟨trivial, _, rfl, ?_⟩⟩⟩⟩
    rw [decide_eq_false (by omega)]
    refine ifFF ⟨_, rfl, _, .inr rfl, loop_inv (fun j ρ => ∃ w2 w3 w4 w5, ρ = [some (.d (ruD RC (exD C ds es m) wd)), some (.d (.lst (Ss.map stD))), w2, w3, w4, w5]) _ 0 _ ⟨_, _, _, _, rfl⟩ ?_ ?_⟩
    · rintro j y ρ N hj ⟨w2, w3, w4, w5, rfl⟩ hN
      rw [enumD_get, List.getElem?_map] at hj
      cases hy : Ss[j]? with
      | none => rw [hy] at hj; cases hj
      | some S =>
        rw [hy] at hj
        cases hj
        refine ⟨_, rfl, rfl, _, _, rfl, _, _, rfl, rfl, ?_⟩
        refine ⟨_, rfl, _, _, _, rfl, rfl, _, rfl, ds, es, m, stD S, rfl, by omega, by omega, by omega, by omega, by omega, cls_stA, ?_⟩
        rw [hs2 S (List.mem_of_getElem? hy)]
        exact ⟨_, rfl, ifFF (hN _ ⟨_, _, _, _, rfl⟩)⟩
    rintro ρ ⟨w2, w3, w4, w5, rfl⟩
    refine ⟨_, rfl, _, .inr rfl, dcL_run (fun j ks dv => ks = keysOf (Ss.take j) [] ∧ ks.length ≤ j) _ 0 [] [] ⟨rfl, Nat.le_refl _⟩ ?_ ?_⟩
    · rintro j y ks dv N hj ⟨rfl, hk⟩ hN
      rw [Nat.zero_add] at hk hN ⊢
      rw [List.getElem?_map] at hj
      cases hy : Ss[j]? with
      | none => rw [hy] at hj; cases hj
      | some S =>
        rw [hy] at hj
        cases hj
        have hjl := (List.getElem?_eq_some_iff.mp hy).1
        refine ifTT ⟨_, rfl, keyOk_st ⟨Nat.lt_of_le_of_lt hk (Nat.lt_of_lt_of_le (by omega : j < 100000) (by decide)), hN _ _ ⟨?_, ?_⟩⟩⟩
        · rw [List.take_add_one, hy]
          exact (keysOf_app (Ss.take j) S []).symm
        · have := putKs_len (nkS S) (keysOf (Ss.take j) [])
          omega
    rintro ks dv ⟨rfl, hk⟩
    rw [Nat.zero_add, List.length_map, List.take_length]
    have hne : ¬ nkS (emS m) ∈ keysOf Ss [] := fun z => by
      rcases keysOf_mem.mp z with z | z
      · cases z
      · obtain ⟨S, hS, e⟩ := List.mem_map.mp z
        exact hne (nkS_inj _ _ e ▸ hS)
    refine ⟨_, rfl, _, _, _, rfl, rfl, ds, es, m, rfl, m1, by omega, _, rfl, notin_st ⟨_, rfl, ?_⟩⟩
    rw [decide_eq_false hne]
    exact ifTT ⟨(by show 1 ≤ sizeLine; decide), h⟩
  · have er : ∀ k, List.replicate k (stD (emS m)) = (List.replicate k (emS m)).map stD := fun k => by rw [List.map_replicate]
    have ko : ∀ k, keysOf (List.replicate (k + 1) (emS m)) [] = [nkS (emS m)] := fun k => by
      have one : ∀ k, keysOf (List.replicate k (emS m)) [nkS (emS m)] = [nkS (emS m)] := fun k => by
        induction k with
        | zero => rfl
        | succ k ih =>
          rw [List.replicate_succ, keysOf]
          unfold putKs
          rw [if_pos (by simp)]
          exact ih
      rw [List.replicate_succ, keysOf]
      exact one k
    refine ⟨_, rfl, isi_go (by trivial) ⟨_, rfl, ifFF ⟨_, rfl, go_lenL ⟨trivial, _, rfl, ?_⟩⟩⟩⟩
    rw [decide_eq_false (by rw [List.length_replicate]; omega)]
    refine ifFF ⟨_, rfl, _, .inr rfl, loop_inv (fun j ρ => ∃ w2 w3 w4 w5, ρ = [some (.d (ruD RC (exD C ds es m) wd)), some (.d (.lst (List.replicate (n + 1) (stD (emS m))))), w2, w3, w4, w5]) _ 0 _ ⟨_, _, _, _, rfl⟩ ?_ ?_⟩
    · rintro j y ρ N hj ⟨w2, w3, w4, w5, rfl⟩ hN
      rw [enumD_get, List.getElem?_replicate] at hj
      split at hj
      · cases hj
        refine ⟨_, rfl, rfl, _, _, rfl, _, _, rfl, rfl, ?_⟩
        refine ⟨_, rfl, _, _, _, rfl, rfl, _, rfl, ds, es, m, stD (emS m), rfl, by omega, by omega, by omega, by omega, by omega, cls_stA, ?_⟩
        rw [isSta_ok (em_ok g)]
        exact ⟨_, rfl, ifFF (hN _ ⟨_, _, _, _, rfl⟩)⟩
      · cases hj
    rintro ρ ⟨w2, w3, w4, w5, rfl⟩
    refine ⟨_, rfl, _, .inr rfl, dcL_run (fun j ks dv => ks = keysOf (List.replicate j (emS m)) [] ∧ ks.length ≤ j) _ 0 [] [] ⟨rfl, Nat.le_refl _⟩ ?_ ?_⟩
    · rintro j y ks dv N hj ⟨rfl, hk⟩ hN
      rw [Nat.zero_add] at hk hN ⊢
      rw [List.getElem?_replicate] at hj
      split at hj
      · cases hj
        refine ifTT ⟨_, rfl, keyOk_st ⟨Nat.lt_of_le_of_lt hk (Nat.lt_of_lt_of_le (by omega : j < 100000) (by decide)), hN _ _ ⟨?_, ?_⟩⟩⟩
        · rw [ko]
          cases j with
          | zero => rfl
          | succ j =>
            rw [ko]
            unfold putKs
            rw [if_pos (by simp)]
        · have := putKs_len (nkS (emS m)) (keysOf (List.replicate j (emS m)) [])
          omega
      · cases hj
    rintro ks dv ⟨rfl, hk⟩
    rw [Nat.zero_add, List.length_replicate, ko]
    refine ⟨_, rfl, _, _, _, rfl, rfl, ds, es, m, rfl, m1, by omega, _, rfl, notin_st ⟨_, rfl, ?_⟩⟩
    rw [decide_eq_true (p := nkS (emS m) ∈ [nkS (emS m)]) (by simp)]
    refine ifFF ⟨_, rfl, _, .inr rfl, ?_⟩
    rw [List.replicate_succ]
    refine ⟨_, rfl, rfl, _, _, rfl, _, _, rfl, rfl, ?_⟩
    refine ⟨_, rfl, _, rfl, _, rfl, _, rfl, ds, es, m, wd, 0, dv, rfl, hw, g, ?_⟩
    refine ⟨_, rfl, rfl, _, rfl, ifFF ?_⟩
    exact ⟨_, rfl, rfl, _, rfl, ifTT ⟨_, rfl, h⟩⟩
end
end K27
set_option Elab.async false
set_option linter.all false
set_option maxRecDepth 100000
set_option maxHeartbeats 4000000
namespace K27
open PySem PySem.Spec PyProof.Rows L2 Com Sd StV Gn Ext Dt
open Et (lf e_var e_non e_nil e_cons e_B e_def op_notInA s_never s_seq s_if p_var go_upd s_fld e_isi U EndsU SpU spU intsU endU xendU startU endE xendE br MethAtU.ok DefAtU.ok FunU.ok DefAtE.ok MethAtE.ok FunE.ok DefAtUX.ok MethAtUX.ok DefAtEX.ok CS CE CX putU)
variable [Dt.Tb]
section
variable {P : Program} {w : World} {K : PySem.W.Frag} {mg : Str → Option Value} {base : Heap} {C CS : Addr}
abbrev s_doors : Stmt := top 65
abbrev N_doors : List Str := ["_law_flow_here", "_law_most", "_law_doors_here", "_law_k"]
theorem sc_doors : FnScope N_doors ["_law_flow_here", "_law_most", "_law_doors_here"] (defScope s_doors) := ⟨rfl, rfl, rfl, by decide +kernel, rfl, by decide +kernel, by decide +kernel⟩
def sdDoors : SpD := fun xs q _ => ∃ a most many, xs = [.flow a, .int most, .int many] ∧ 1 ≤ most ∧ most ≤ 4 ∧ 1 ≤ many ∧ many ≤ 4 ∧ ∀ ds, Good ds → q (intsD ds)
theorem ok_doors (T : Blt mg) (D_pick : DefOk P w K mg base CX0 1 "_law_pick" (spOf spPickD)) (Df : DefAt K mg "_law_doors" s_doors ["_law_flow_here", "_law_most", "_law_doors_here"]) : DefOk P w K mg base CX0 2 "_law_doors" (spOf sdDoors) := by
  refine DefAtD.ok Df sc_doors (fun ds q e h => by obtain ⟨_, _, _, rfl, _⟩ := h; rfl) (fun f cdv A outer s H E hr => ⟨_, _, (pss_one (ps_ret (pe_callTy (cl_tuple K) (by rfl) T.z_tuple (by decide +kernel) (pa_cons (pe_lc (own := [("_law_k", 3)]) (g := gName 3) (tt := tYes) rfl sc_doors.nd (pi_range1 (by rfl) T.z_range (pa_cons (pe_op op_plus pe_int (pe_def D_pick hr (by decide) passE (pa_cons (pv 0) (pa_cons (pv 1) pa_nil)))) pa_nil)) (blkOk_by (N := N_doors) (sc := defScope s_doors) (by decide +kernel)) (fun _ _ _ _ _ => (pg_name (i := 3) sc_doors.nd rfl (Or.inl rfl))) (fun _ _ _ _ _ => pts_nil) (fun _ _ _ _ _ => (pe_op op_plus pe_int (pe_def D_pick hr (by decide) passE (pa_cons (pv 0) (pa_cons (pv 2) pa_nil)))))) pa_nil)))), (ss_ret (si_cb (si_cons (si_lc (si_rng1 (si_cons (si_op si_int (si_def (si_cons si_var (si_cons si_var si_nil))) sr_plus) si_nil)) sg_name si_yes (si_op si_int (si_def (si_cons si_var (si_cons si_var si_nil))) sr_plus) (by decide)) si_nil) sc_tuple)), fun ds q e h => ?_⟩)
  obtain ⟨a, most, many, rfl, h1, h2, h3, h4, h⟩ := h
  refine ⟨_, rfl, _, rfl, a, most, rfl, by omega, by omega, fun n n0 n1 => ⟨_, rfl, by omega, by omega, ?_⟩⟩
  refine lcL_step (fun i acc => ∃ ns : List Int, acc = ns.map .int ∧ ns.length = i ∧ ∀ k ∈ ns, 1 ≤ k ∧ k ≤ 4) _ 0 [] ⟨[], rfl, rfl, fun _ h => nomatch h⟩ ?_ ?_
  · rintro j d acc N hj ⟨ns, rfl, hl, hb⟩ hN
    have hj' := (List.getElem?_eq_some_iff.mp hj).1
    rw [List.length_map, List.length_range] at hj'
    refine ifTT ⟨_, rfl, _, rfl, a, many, rfl, by omega, by omega, fun x x0 x1 => ⟨by rw [List.length_map]; exact szl (by omega), hN _ ⟨ns ++ [1 + x], by rw [List.map_append]; rfl, by rw [List.length_append, hl]; rfl, fun k hk => ?_⟩⟩⟩
    rcases List.mem_append.mp hk with hk | hk
    · exact hb k hk
    · rw [List.mem_singleton.mp hk]; omega
  · rintro acc ⟨ns, rfl, hl, hb⟩
    rw [List.length_map, List.length_range] at hl
    refine ⟨_, .inr rfl, h ns ⟨?_, ?_, hb⟩⟩ <;> omega
abbrev s_exchange : Stmt := top 68
abbrev N_exchange : List Str := ["_law_flow_here", "_law_most", "_law_doors_here", "_law_middles", "_law_ins", "_law_outs"]
theorem sc_exchange : FnScope N_exchange ["_law_flow_here", "_law_most", "_law_doors_here", "_law_middles"] (defScope s_exchange) := ⟨rfl, rfl, rfl, by decide +kernel, rfl, by decide +kernel, by decide +kernel⟩
def sdExch (C : Addr) : SpD := fun xs q _ => ∃ a most many mids, xs = [.flow a, .int most, .int many, .int mids] ∧ (1 ≤ most ∧ most ≤ 4) ∧ (1 ≤ many ∧ many ≤ 4) ∧ (1 ≤ mids ∧ mids ≤ 7) ∧ ∀ ds es m, GE ds es m → q (exD C ds es m)
theorem ok_exchange (T : Blt mg) (D_pick : DefOk P w K mg base CX0 1 "_law_pick" (spOf spPickD)) (D_doors : DefOk P w K mg base CX0 2 "_law_doors" (spOf sdDoors)) (M_Exchange : NewOk P w K mg base CX0 4 "Exchange" C (spInit C)) (Df : DefAt K mg "_law_exchange" s_exchange ["_law_flow_here", "_law_most", "_law_doors_here", "_law_middles"]) : DefOk P w K mg base CX0 6 "_law_exchange" (spOf (sdExch C)) := by
  refine DefAtD.ok Df sc_exchange (fun ds q e h => by obtain ⟨_, _, _, _, rfl, _⟩ := h; rfl) (fun f cdv A outer s H E hr => ⟨_, _, (pss_cons (ps_set (i := 4) sc_exchange.nd rfl (Or.inl rfl) (pe_def D_doors hr (by decide) passE (pa_cons (pv 0) (pa_cons (pv 1) (pa_cons (pv 2) pa_nil)))))
    (pss_cons (ps_set (i := 5) sc_exchange.nd rfl (Or.inl rfl) (pe_def D_doors hr (by decide) passE (pa_cons (pv 0) (pa_cons (pv 1) (pa_cons (pv 2) pa_nil)))))
    (pss_one (ps_ret (pe_new M_Exchange hr (by decide) passE (pa_cons (pv 4) (pa_cons (pv 5) (pa_cons (pe_op op_plus pe_int (pe_def D_pick hr (by decide) passE (pa_cons (pv 0) (pa_cons (pv 3) pa_nil)))) pa_nil)))))))), (ss_seq (ss_asg (si_def (si_cons si_var (si_cons si_var (si_cons si_var si_nil)))) sg_name)
    (ss_seq (ss_asg (si_def (si_cons si_var (si_cons si_var (si_cons si_var si_nil)))) sg_name)
    (ss_ret (si_newEx (si_cons si_var (si_cons si_var (si_cons (si_op si_int (si_def (si_cons si_var (si_cons si_var si_nil))) sr_plus) si_nil))))))), fun ds q e h => ?_⟩)
  obtain ⟨a, most, many, mids, rfl, ⟨a1, a2⟩, ⟨b1, b2⟩, ⟨c1, c2⟩, h⟩ := h
  refine ⟨_, rfl, _, rfl, _, rfl, a, most, many, rfl, a1, a2, b1, b2, fun ds gi => ?_⟩
  refine ⟨_, rfl, _, rfl, _, rfl, a, most, many, rfl, a1, a2, b1, b2, fun es go => ?_⟩
  exact ⟨_, rfl, _, rfl, _, rfl, _, rfl, a, mids, rfl, by omega, by omega, fun x x0 x1 => ⟨ds, es, _, rfl, gi, go, by omega, by omega, h ds es _ ⟨gi, go, by omega, by omega⟩⟩⟩
theorem not_sta {ds es : List Int} {m : Int} {d : Dt.D} (h : ∀ S, d = stD S → (S.length : Int) = m → (∀ L ∈ S, LoadOk ds.length es.length L) → False) : isStaD ds es m d = false := by
  unfold isStaD
  cases e : staOf ds es m d with
  | none => rfl
  | some S =>
    unfold staOf at e
    split at e
    · rename_i xs
      split at e
      · rename_i hl
        cases e2 : loadsOf ds.length es.length xs with
        | none => rw [e2] at e; cases e
        | some S' =>
          obtain ⟨rfl, h2⟩ := loadsOf_some e2
          rw [List.length_map] at hl
          exact (h S' rfl hl h2).elim
      · cases e
    · cases e
abbrev s_wrong : Stmt := top 69
abbrev N_wrong : List Str := ["_law_flow_here", "_law_standing", "_law_odd"]
theorem sc_wrong : FnScope N_wrong ["_law_flow_here", "_law_standing"] (defScope s_wrong) := ⟨rfl, rfl, rfl, by decide +kernel, rfl, by decide +kernel, by decide +kernel⟩
def sdWrong (K : PySem.W.Frag) : SpD := fun xs q _ => ∃ a ds es m S, xs = [.flow a, stD S] ∧ GE ds es m ∧ StdOk ds es m S ∧ ∀ d, clsA K d → isStaD ds es m d = false → q d
theorem go_one {xs : List Dt.D} {i : Int} {q : KD} (Pr : Dt.D → Prop) (h0 : 0 ≤ i) (h1 : i < xs.length) (hc : ∀ d ∈ xs, Pr d) (h : ∀ d, Pr d → q d) : fIx (.lst xs) (.int i) q := by
  obtain ⟨n, rfl⟩ := Int.eq_ofNat_of_zero_le h0
  have e : xs[n]? = some xs[n] := List.getElem?_eq_getElem (by omega)
  exact go_ixL e (h _ (hc _ (List.mem_of_getElem? e)))
theorem ok_wrong (T : Blt mg) (TS : ClsT K CS) (D_pick : DefOk P w K mg base CX0 1 "_law_pick" (spOf spPickD)) (M_Share : NewOk P w K mg base CX0 2 "Share" CS (spSh1 CS)) (Df : DefAt K mg "_law_wrong" s_wrong ["_law_flow_here", "_law_standing"]) : DefOk P w K mg base CX0 4 "_law_wrong" (spOf (sdWrong K)) := by
  refine DefAtD.ok Df sc_wrong (fun ds q e h => by obtain ⟨_, _, _, _, _, rfl, _⟩ := h; rfl) (fun f cdv A outer s H E hr => ⟨_, _, (pss_cons (ps_set (i := 2) sc_wrong.nd rfl (Or.inl rfl) (pe_lst (pa_cons pe_non (pa_cons pe_int (pa_cons pe_bl (pa_cons pe_str (pa_cons (pe_lst pa_nil) (pa_cons pe_dnewK (pa_cons (pe_new M_Share hr (by decide) passE (pa_cons pe_int pa_nil)) (pa_cons (pe_callTy (cl_list K) (by rfl) T.z_list (by decide +kernel) (pa_cons (pv 1) pa_nil)) (pa_cons (pe_op op_plus (pv 1) (pe_tup (pa_cons (pe_tup pa_nil) pa_nil))) (pa_cons (pe_slice (slU K) (pv 1) (po_some pe_int) po_none) (pa_cons (pe_op op_plus (pe_tup (pa_cons (pe_lst pa_nil) pa_nil)) (pe_slice (slU K) (pv 1) (po_some pe_int) po_none)) pa_nil)))))))))))))
    (pss_cons (ps_set (i := 2) sc_wrong.nd rfl (Or.inl rfl) (pe_op op_plus (pv 2) (pe_lst (pa_cons (pe_op op_plus (pe_tup (pa_cons (pe_tup (pa_cons (pe_tup (pa_cons pe_bl (pa_cons pe_int pa_nil))) pa_nil)) pa_nil)) (pe_slice (slU K) (pv 1) (po_some pe_int) po_none)) (pa_cons (pe_op op_plus (pe_tup (pa_cons (pe_tup (pa_cons (pe_tup (pa_cons pe_int (pa_cons pe_int pa_nil))) (pa_cons (pe_tup (pa_cons pe_int (pa_cons pe_int pa_nil))) pa_nil))) pa_nil)) (pe_slice (slU K) (pv 1) (po_some pe_int) po_none)) (pa_cons (pe_op op_plus (pe_tup (pa_cons (pe_tup (pa_cons (pe_tup (pa_cons pe_int (pa_cons pe_int pa_nil))) pa_nil)) pa_nil)) (pe_slice (slU K) (pv 1) (po_some pe_int) po_none)) pa_nil))))))
    (pss_one (ps_ret (pe_ix (ixU K) (pv 2) (pe_def D_pick hr (by decide) passE (pa_cons (pv 0) (pa_cons (pe_callB (cl_len K) (by rfl) T.z_len (by decide +kernel) (pa_cons (pv 2) pa_nil)) pa_nil))) (fun _ _ => rfl)))))), (ss_seq (ss_asg (si_lst (si_cons si_non (si_cons si_int (si_cons si_bl (si_cons si_str (si_cons (si_lst si_nil) (si_cons si_dict0 (si_cons (si_newSh (si_cons si_int si_nil)) (si_cons (si_cb (si_cons si_var si_nil) sc_list) (si_cons (si_op si_var (si_tup (si_cons (si_tup si_nil) si_nil)) sr_plus) (si_cons (si_sl si_var (si_part si_int) si_noP sl_U) (si_cons (si_op (si_tup (si_cons (si_lst si_nil) si_nil)) (si_sl si_var (si_part si_int) si_noP sl_U) sr_plus) si_nil)))))))))))) sg_name)
    (ss_seq (ss_asg (si_op si_var (si_lst (si_cons (si_op (si_tup (si_cons (si_tup (si_cons (si_tup (si_cons si_bl (si_cons si_int si_nil))) si_nil)) si_nil)) (si_sl si_var (si_part si_int) si_noP sl_U) sr_plus) (si_cons (si_op (si_tup (si_cons (si_tup (si_cons (si_tup (si_cons si_int (si_cons si_int si_nil))) (si_cons (si_tup (si_cons si_int (si_cons si_int si_nil))) si_nil))) si_nil)) (si_sl si_var (si_part si_int) si_noP sl_U) sr_plus) (si_cons (si_op (si_tup (si_cons (si_tup (si_cons (si_tup (si_cons si_int (si_cons si_int si_nil))) si_nil)) si_nil)) (si_sl si_var (si_part si_int) si_noP sl_U) sr_plus) si_nil)))) sr_plus) sg_name)
    (ss_ret (si_op si_var (si_def (si_cons si_var (si_cons (si_cb (si_cons si_var si_nil) sc_len) si_nil))) sr_ix)))), fun ds q e h => ?_⟩)
  obtain ⟨a, ds, es, m, S, rfl, g, hS, h⟩ := h
  have hl := hS.len
  have m1 := g.m1
  have m2 := g.m2
  have gi2 := g.gi.2.1
  have go2 := g.go.2.1
  have s7 : S.length ≤ 7 := by omega
  have e1 : cutD (S.map ldD) (some 1) none = (S.drop 1).map ldD := by rw [cut_drop (by decide) (by rw [List.length_map]; show (1 : Int) ≤ _; omega), List.map_drop]; rfl
  have ld : ((S.drop 1).map ldD).length = S.length - 1 := by rw [List.length_map, List.length_drop]
  have sz : ∀ {n : Nat}, n ≤ 20 → n ≤ sizeLine := fun {n} h => Nat.le_trans h (by decide)
  have a1 : ∀ x : Dt.D, ([x] : List Dt.D).length + ((S.drop 1).map ldD).length ≤ 1000 := fun x => by rw [ld]; show 1 + _ ≤ _; omega
  refine ⟨sz (by decide), 1, rfl, fun sn sd => ?_⟩
  refine ⟨_, rfl, S.map ldD, .inl rfl, ?_⟩
  refine ⟨_, rfl, sz (by decide), sz (by decide), by rw [List.length_map]; show _ + 1 ≤ 1000; omega, ?_⟩
  refine ⟨_, rfl, _, rfl, go_slT e1 ?_⟩
  refine ⟨sz (by decide), sz (by decide), _, rfl, _, rfl, go_slT e1 ⟨a1 _, ?_⟩⟩
  refine ⟨sz (by show 11 ≤ 20; decide), _, rfl, ?_⟩
  refine ⟨sz (by decide), sz (by decide), sz (by decide), _, rfl, _, rfl, go_slT e1 ⟨a1 _, ?_⟩⟩
  refine ⟨sz (by decide), sz (by decide), sz (by decide), sz (by decide), _, rfl, _, rfl, go_slT e1 ⟨a1 _, ?_⟩⟩
  refine ⟨sz (by decide), sz (by decide), sz (by decide), _, rfl, _, rfl, go_slT e1 ⟨a1 _, ?_⟩⟩
  refine ⟨sz (by show 3 ≤ 20; decide), sz (by show 14 ≤ 20; decide), ?_⟩
  refine ⟨_, rfl, _, rfl, _, rfl, go_lenL ⟨a, _, rfl, by show (1 : Int) ≤ 14; decide, by show (14 : Int) < _; decide, fun i i0 i1 => ?_⟩⟩
  refine go_one (fun d => clsA K d ∧ isStaD ds es m d = false) i0 i1 ?_ fun d hd => h d hd.1 hd.2
  have cS : clsA K (stD S) := cls_stA
  have cD : ∀ x ∈ (S.drop 1).map ldD, clsA K x := fun x hx => clsA.tup.mp cS x (by
    obtain ⟨L, hL, rfl⟩ := List.mem_map.mp hx
    exact List.mem_map.mpr ⟨L, List.mem_of_mem_drop hL, rfl⟩)
  have cT : ∀ d, clsA K d → clsA K (.tup ([d] ++ (S.drop 1).map ldD)) := fun d hd => clsA.tup.mpr fun x hx => by
    rcases List.mem_append.mp hx with hx | hx
    · rw [List.mem_singleton.mp hx]; exact hd
    · exact cD x hx
  have hd1 : ∀ {d : Dt.D} {S' : List (List PP)}, Dt.D.tup ([d] ++ (S.drop 1).map ldD) = stD S' → ∃ L ∈ S', d = ldD L := fun {d S'} e => by
    have e1 : [d] ++ (S.drop 1).map ldD = S'.map ldD := by injection e
    cases S' with
    | nil => cases e1
    | cons L S' =>
      injection e1 with e1 _
      exact ⟨L, List.mem_cons_self .., e1⟩
  have two : ∀ {A : List Dt.D} {S' : List (List PP)}, (Dt.D.tup A = stD S') → (S'.length : Int) = m → A.length ≠ S.length → False := fun {A S'} e h1 h2 => by
    have e1 : A = S'.map ldD := by injection e
    have := congrArg List.length e1
    rw [List.length_map] at this
    omega
  intro d hd
  simp only [List.mem_cons, List.mem_append, List.not_mem_nil, or_false] at hd
  have pp : ∀ {p : Dt.D} {L : List PP}, Dt.D.tup [p] = ldD L → ∃ c, L = [c] ∧ p = Dt.pairD c := fun {p L} e => by
    have e1 : [p] = L.map Dt.pairD := by injection e
    match L, e1 with
    | [c], e1 => injection e1 with e1 _; exact ⟨c, rfl, e1⟩
  rcases hd with (rfl | rfl | rfl | rfl | rfl | rfl | rfl | rfl | rfl | rfl | rfl) | rfl | rfl | rfl
  · exact ⟨by simp [clsA], not_sta fun S' e _ _ => by cases e⟩
  · exact ⟨by simp [clsA], not_sta fun S' e _ _ => by cases e⟩
  · exact ⟨by simp [clsA], not_sta fun S' e _ _ => by cases e⟩
  · exact ⟨by simp [clsA], not_sta fun S' e _ _ => by cases e⟩
  · exact ⟨clsA.lst.mpr (fun y hy => nomatch hy), not_sta fun S' e _ _ => by cases e⟩
  · exact ⟨by simp [clsA], not_sta fun S' e _ _ => by cases e⟩
  · exact ⟨show ClsT K CS from TS, not_sta fun S' e _ _ => by cases e⟩
  · exact ⟨clsA.lst.mpr fun y hy => clsA.tup.mp cS y hy, not_sta fun S' e _ _ => by cases e⟩
  · refine ⟨clsA.tup.mpr fun x hx => ?_, not_sta fun S' e h' _ => two e h' (by rw [List.length_append, List.length_map]; show _ + 1 ≠ _; omega)⟩
    rcases List.mem_append.mp hx with hx | hx
    · exact clsA.tup.mp cS x hx
    · rw [List.mem_singleton.mp hx]; exact clsA.tup.mpr fun y hy => nomatch hy
  · exact ⟨clsA.tup.mpr cD, not_sta fun S' e h' _ => two e h' (by rw [ld]; omega)⟩
  · refine ⟨cT _ (clsA.lst.mpr fun y hy => nomatch hy), not_sta fun S' e _ _ => ?_⟩
    obtain ⟨L, _, z⟩ := hd1 e
    cases z
  · refine ⟨cT _ (by simp [clsA, clsL]), not_sta fun S' e _ _ => ?_⟩
    obtain ⟨L, _, z⟩ := hd1 e
    obtain ⟨⟨c1, c2⟩, _, z⟩ := pp z
    cases z
  · refine ⟨cT _ (by simp [clsA, clsL]), not_sta fun S' e _ h3 => ?_⟩
    obtain ⟨L, hL, z⟩ := hd1 e
    have e1 : [Dt.D.tup [.int 0, .int 0], .tup [.int 0, .int 0]] = L.map Dt.pairD := by injection z
    match L, e1 with
    | [(a1, a2), (b1, b2)], e1 =>
      injection e1 with e1 e2
      injection e2 with e2 _
      cases e1
      cases e2
      have := (h3 _ hL).asc
      simp at this
  · refine ⟨cT _ (by simp [clsA, clsL]), not_sta fun S' e _ h3 => ?_⟩
    obtain ⟨L, hL, z⟩ := hd1 e
    obtain ⟨⟨c1, c2⟩, rfl, z⟩ := pp z
    cases z
    obtain ⟨_, r2, _⟩ := (h3 _ hL).rng (9, 0) (by simp)
    have r2 : (9 : Int) < ds.length := r2
    omega
end
end K27
set_option Elab.async false
set_option linter.all false
set_option maxRecDepth 100000
set_option maxHeartbeats 4000000
namespace Du
open PySem PySem.Spec PyProof.Rows L2 Com Nd
open Dt (D Wd Vd VdA Le Ok Go Kv Ka Kb Kx KD XD SpD spOf)
open Et
variable [Dt.Tb]
section
variable {P : Program} {w : World} {K : PySem.W.Frag} {mg : Str → Option Value} {base : Heap} {x qual : Str} {st : Stmt} {ps N : List Str} {k : Nat} {sp : SpU} {sd : SpD}
/-- the function itself, for a promise with things of one's own -/
theorem FunU.ok (ws : List Nat) {f : Addr} {fd : FuncData} (F : Fun K x qual st f fd) (S : FnScope N ps (defScope st)) (len : ∀ us q e, sp us q e → us.length = ps.length)
    (hbody : ∀ (cdv : Value) (A : Around) (outer : List Env) (s : Shared) (H : Hp) (E : XK), Room k (A.deeper (envOfC qual (defScope st) s.heap.objs.size f cdv)) →
      ∃ t m, PSs (cxOf CX0 P w K mg base N qual (defScope st) f cdv A outer s H E).nox (defBody st) t ∧ SS ws E t m ∧ ∀ us q e, sp us q e → m (endU ws us q) (startU N us) (xendU ws us e)) : FnOk P w K mg base CX0 (k + 1) f fd ps (spU sp) := by
  refine F.ok S (fun vs H Q E h => ?_) (fun cdv A outer s H vs Q E hr h => ?_)
  · obtain ⟨W, us, fp, q, e, k0, r, nd, h, _⟩ := h
    rw [r.len, len us q e h]
  obtain ⟨W, us, fp, q, e, k0, r, nd, h, kq, kx⟩ := h
  obtain ⟨t', m, p, sm, hm⟩ := hbody cdv A outer s H E hr
  exact ⟨t', p, body_runU sm k0 r nd (hm us q e h) kq kx _ rfl rfl⟩
end
end Du
set_option Elab.async false
set_option linter.all false
set_option maxRecDepth 100000
set_option maxHeartbeats 4000000
namespace Dn
open PySem PySem.Spec PyProof.Rows L2 Com Gn
variable [Dt.Tb]
/-- instances of C may be called -/
structure CallM (P : Program) (w : World) (K : PySem.W.Frag) (mg : Str → Option Value) (base : Heap) (CX : CXT) (k : Nat) (C : Addr) (sp : Sp) : Prop where
  ex : ∃ f : Addr, FnR P w K mg base CX k f sp ∧ StX.CallO K C f
theorem CallM.of {P : Program} {w : World} {K : PySem.W.Frag} {mg : Str → Option Value} {base : Heap} {CX : CXT} {k : Nat} {C f0 : Addr} {sp : Sp} (M : MethOk P w K mg base CX k C "__call__" sp) (a : PySem.W.findIn K (.ref C) "__call__" = some (some (.ref f0))) (fi : PySem.W.fnIn K f0 = true) : CallM P w K mg base CX k C sp := by
  obtain ⟨f, F, m⟩ := M.ex
  have e : f = f0 := by
    have := m.at_.symm.trans a
    injection this with this
    injection this with this
    injection this
  subst e
  exact ⟨f, F, m.at_, m.fn, fi⟩
end Dn
namespace Dn
open PySem PySem.Spec PyProof.Rows L2 Com
open Dt (D Wd Vd VdA Le Ok Go Kv Ka Kb Kx KD XD SpD spOf SimE SimA Rep ME MA)
open Et (U SpU spU RU RUs GoB)
variable [Dt.Tb]
/-- what an __init__ answers, its object as data -/
abbrev newQ (C : Addr) (q : KD) : U → List U → Prop := fun r us' => r = .d .non ∧ ∃ ks xs rest, us' = .obj C ks (xs.map .d) :: rest ∧ q (.obj C ks xs)
section
variable {W W1 : Wd} {H H1 : Hp} {C : Addr} {sp : SpU} {vs : List V} {ds : List D} {Q : VK} {q : KD} {E : XK} {e : XD}
/-- the run of an __init__ on a new object -/
theorem init_run (k0 : Ok W H) (g1 : Go W H W1 H1) (hx : VdA W1 vs ds) (h1 : sp (.obj C [] [] :: ds.map .d) (newQ C q) (fun C f x _ => e C f x)) (k : Kv W H Q q) (kx : Kx W H E e) {x dx : Addr} (hxn : H1 x = none) (hdn : H1 dx = none) (hne : dx ≠ x) :
    spU sp (.ref x :: vs) (upd (upd H1 dx (.own x)) x (.ins C dx [])) (fun v H2 => v = .non ∧ Q (.ref x) H2) E := by
  have k1 := g1.ok
  have g2 : Go W1 H1 W1 (upd H1 dx (.own x)) := .own k1 hdn
  have hx2 : (upd H1 dx (.own x)) x = none := by rw [upd_ne (fun z => hne z.symm)]; exact hxn
  have g3 : Go W1 (upd H1 dx (.own x)) W1 (upd (upd H1 dx (.own x)) x (.ins C dx [])) := .own g2.ok hx2
  have g23 := g2.trans k1 g3
  have nn := g2.ok.no hx2
  have r0 : RU W1 (upd (upd H1 dx (.own x)) x (.ins C dx [])) (.ref x) (.obj C [] []) [x] := .obj (fp := []) (ks := []) (vs := []) upd_same rfl .nil nn.1 nn.2
  have rs : RUs W1 (upd (upd H1 dx (.own x)) x (.ins C dx [])) (.ref x :: vs) (.obj C [] [] :: ds.map .d) [x] := .cons r0 (RUs.ofVdA hx)
  have G : GoB (fun _ => False) W H W1 (upd (upd H1 dx (.own x)) x (.ins C dx [])) := .of k0 (g1.trans k0 g23)
  have hn : H x = none := g1.gone k0 hxn
  refine ⟨W1, _, [x], _, _, g3.ok, rs, by simp, h1, fun W' H' v u f0 us' fp' g ru rs' nd sub hq => ?_, fun W' H' C dx f v d us' fp' g e1 hv rs' nd sub he => ?_⟩
  · obtain ⟨rfl, ks, xs, rest, rfl, hq⟩ := hq
    have G2 := G.trans g fun a m => .inr (by rw [List.mem_singleton.mp m]; exact hn)
    refine ⟨by cases ru with | d h => cases h; rfl, ?_⟩
    cases rs' with
    | cons r t =>
      cases r with
      | obj hh hl rr hf hg =>
        obtain ⟨hv, _⟩ := Et.RUs.d_of rr
        obtain ⟨g4, l4⟩ := G2.go.freeze hn hf hg hh
        exact k _ _ _ H' g4 (.obj (upd_same (H := W'.F)) hl (hv.mono l4)) hq
  · have G2 := G.trans g fun a m => .inr (by rw [List.mem_singleton.mp m]; exact hn)
    exact kx W' H' C dx f v d G2.go e1 hv he
end
section
variable {E : XK} {K : PySem.W.Frag} {aa ab : TA} {na nb : MA} {n n' : Nat} {C : Addr} {sp : SpU} {sd : SpD}
abbrev mNewU (C : Addr) (sp : SpU) (a : MA) : ME := fun ρ q e => a ρ (fun ds => sp (.obj C [] [] :: ds.map .d) (newQ C q) (fun C f x _ => e C f x)) e
theorem si_newU (ha : SimA E n aa na) : SimE E (tNew C (spU sp) E aa) (mNewU C sp na) := fun W H0 H σ ρ Q q e R h k kx =>
  ha W H0 H σ ρ _ _ e R h (fun W1 vs xs H1 g1 hv _ h1 => fun x dx hxn hdn hne => init_run R.ok g1 hv h1 k kx hxn hdn hne) kx
end
end Dn
set_option Elab.async false
set_option linter.all false
set_option maxRecDepth 100000
set_option maxHeartbeats 4000000
namespace K27
open PySem PySem.Spec PyProof.Rows L2 Com Sd StV Gn Ext Dt
open Et (lf e_var e_non e_nil e_cons e_B e_def op_notInA s_never s_seq s_if p_var go_upd s_fld e_isi U EndsU SpU spU intsU endU xendU startU endE xendE br MethAtU.ok DefAtU.ok FunU.ok DefAtE.ok MethAtE.ok FunE.ok DefAtUX.ok MethAtUX.ok DefAtEX.ok CS CE CX putU)
variable [Dt.Tb]
section
variable {P : Program} {w : World} {K : PySem.W.Frag} {mg : Str → Option Value} {base : Heap} {C CS RC : Addr}
abbrev s_law : Stmt := top 70
abbrev N_law : List Str := ["_law_script", "_law_flow_here", "_law_exchange_here", "_law_word", "_law_rule", "_law_rows", "_law_turn", "_law_calls", "_law_at", "_law_bad", "_law_spoiled", "_law_given", "_law_nothing", "_law_one", "_law_none", "_law_many"]
theorem sc_law : FnScope N_law ["_law_script"] (defScope s_law) := ⟨rfl, rfl, rfl, by decide +kernel, rfl, by decide +kernel, by decide +kernel⟩
theorem go_oneT {xs : List Dt.D} {i : Int} {q : KD} (Pr : Dt.D → Prop) (h0 : 0 ≤ i) (h1 : i < xs.length) (hc : ∀ d ∈ xs, Pr d) (h : ∀ d, Pr d → q d) : fIx (.tup xs) (.int i) q := by
  obtain ⟨n, rfl⟩ := Int.eq_ofNat_of_zero_le h0
  have e : xs[n]? = some xs[n] := List.getElem?_eq_getElem (by omega)
  exact go_ixT e (h _ (hc _ (List.mem_of_getElem? e)))
theorem ms_join {m : MS} {d : EndsD} {ρ : Ev} {e : XD} (Pr : Ev → Prop) (h1 : ∀ ρ', Pr ρ' → d.nx ρ') (h2 : ∀ N : Ev → Prop, (∀ ρ', Pr ρ' → N ρ') → m { d with nx := N } ρ e) : m d ρ e := h2 d.nx h1
theorem go_neW {v : Dt.D} {p : PyData} {q : KD} (e : toPy v = some p) (s : SeqAt.shaped p = true) (r : PyData.eqv p p = true) (h : q (.bl false)) : fEq true v v q := ⟨p, p, e, e, s, s, by
  show q (.bl (!PyData.eqv p p))
  rw [r]
  exact h⟩
theorem go_eqW {v : Dt.D} {p : PyData} {q : KD} (e : toPy v = some p) (s : SeqAt.shaped p = true) (r : PyData.eqv p p = true) (h : q (.bl true)) : fEq false v v q := ⟨p, p, e, e, s, s, by
  show q (.bl (PyData.eqv p p))
  rw [r]
  exact h⟩
def sdLaw (K : PySem.W.Frag) : SpD := fun xs q _ => ∃ ns : List Int, xs = [.scr K ns] ∧ ns.length ≤ 63 ∧ q (.bl true)
theorem ok_law_fn (T : Blt mg) (X : ExC K mg C) (R : RuC K RC) (TR : ClsT K RC) (TS : ClsT K CS) (D_flow : DefOk P w K mg base CX0 1 "_law_flow" (spOf (spFlowD K))) (D_pick : DefOk P w K mg base CX0 1 "_law_pick" (spOf spPickD)) (D_exchange : DefOk P w K mg base CX0 6 "_law_exchange" (spOf (sdExch C)))
    (D_loads : DefOk P w K mg base CX0 2 "_law_loads" (spOf sdLoads)) (M_Rule : NewOk P w K mg base CX0 2 "Rule" RC (spU (spRule C RC))) (M_Share : NewOk P w K mg base CX0 2 "Share" CS (spSh1 CS)) (D_wrong : DefOk P w K mg base CX0 4 "_law_wrong" (spOf (sdWrong K))) (D_safe_fault : DefOk P w K mg base CX0 6 "safe_fault" (spOf (sdSafe K C RC)))
    {f : Addr} {fd : FuncData} (FF : Fun K "law" "law" s_law f fd) : FnOk P w K mg base CX0 8 f fd ["_law_script"] (spOf (sdLaw K)) := by
  refine FunD.ok FF sc_law (fun ds q e h => by obtain ⟨_, rfl, _⟩ := h; rfl) (fun cdv A outer s H E hr => ?_)
  have hu := hr.units
  refine ⟨_, _, (pss_cons (ps_set (i := 1) sc_law.nd rfl (Or.inl rfl) (pe_def D_flow hr (by decide) passE (pa_cons (pv 0) (pa_cons pe_int pa_nil))))
    (pss_cons (ps_set (i := 2) sc_law.nd rfl (Or.inl rfl) (pe_def D_exchange hr (by decide) passE (pa_cons (pv 1) (pa_cons pe_int (pa_cons pe_int (pa_cons pe_int pa_nil))))))
    (pss_cons (ps_set (i := 3) sc_law.nd rfl (Or.inl rfl) (pe_ix (ixU K) (pe_tup (pa_cons pe_str (pa_cons pe_str (pa_cons pe_str (pa_cons pe_str (pa_cons pe_str pa_nil)))))) (pe_def D_pick hr (by decide) passE (pa_cons (pv 1) (pa_cons pe_int pa_nil))) (fun _ _ => rfl)))
    (pss_cons (ps_set (i := 4) sc_law.nd rfl (Or.inl rfl) (pe_new M_Rule hr (by decide) passE (pa_cons (pv 2) (pa_cons (pv 3) pa_nil))))
    (pss_cons (ps_set (i := 1) sc_law.nd rfl (Or.inl rfl) (pe_def D_flow hr (by decide) passE (pa_cons (pv 0) (pa_cons pe_int pa_nil))))
    (pss_cons (ps_set (i := 5) sc_law.nd rfl (Or.inl rfl) (pe_lst pa_nil))
    (pss_cons (ps_for PassesOwn.never rfl (pi_range1 (by rfl) T.z_range (pa_cons (pe_op op_plus pe_int (pe_def D_pick hr (by decide) passE (pa_cons (pv 1) (pa_cons pe_int pa_nil)))) pa_nil)) (pg_name (i := 6) sc_law.nd rfl (Or.inl rfl))
      (pss_cons (ps_set (i := 7) sc_law.nd rfl (Or.inl rfl) (pe_op op_plus pe_int (pe_def D_pick hr (by decide) passE (pa_cons (pv 1) (pa_cons pe_int pa_nil)))))
      (pss_one (ps_expr (pe_bm PySem.F.plainAttrs_list PySem.F.slot_list_append PySem.F.type_list_append mt_append (pv 5) (pa_cons (pe_def D_loads hr (by decide) passE (pa_cons (pv 1) (pa_cons (pe_fldK K (pv 2)) (pa_cons (pe_fldK K (pv 2)) (pa_cons (pe_fldK K (pv 2)) (pa_cons (pv 7) pa_nil)))))) pa_nil))))))
    (pss_cons (ps_set (i := 8) sc_law.nd rfl (Or.inl rfl) (pe_def D_pick hr (by decide) passE (pa_cons (pv 1) (pa_cons (pe_op op_plus (pe_callB (cl_len K) (by rfl) T.z_len (by decide +kernel) (pa_cons (pv 5) pa_nil)) pe_int) pa_nil))))
    (pss_cons (ps_set (i := 9) sc_law.nd rfl (Or.inl rfl) (pe_def D_wrong hr (by decide) passE (pa_cons (pv 1) (pa_cons (pe_ix (ixU K) (pv 5) pe_int (fun _ _ => rfl)) pa_nil))))
    (pss_cons (ps_set (i := 10) sc_law.nd rfl (Or.inl rfl) (pe_op op_plus (pe_op op_plus (pe_slice (slU K) (pv 5) po_none (po_some (pv 8))) (pe_lst (pa_cons (pv 9) pa_nil))) (pe_slice (slU K) (pv 5) (po_some (pv 8)) po_none)))
    (pss_cons (ps_if (pt_cmpR (eqD K hu) (pe_def D_pick hr (by decide) passE (pa_cons (pv 1) (pa_cons pe_int pa_nil))) pe_int (nomark _))
      (pss_one (ps_expr (pe_bm PySem.F.plainAttrs_list PySem.F.slot_list_append PySem.F.type_list_append mt_append (pv 10) (pa_cons (pe_def D_wrong hr (by decide) passE (pa_cons (pv 1) (pa_cons (pe_ix (ixU K) (pv 5) pe_int (fun _ _ => rfl)) pa_nil))) pa_nil))))
      pss_nil)
    (pss_cons (ps_set (i := 11) sc_law.nd rfl (Or.inl rfl) (pe_callTy (cl_list K) (by rfl) T.z_list (by decide +kernel) (pa_cons (pv 10) pa_nil)))
    (pss_cons (ps_if (PW.pt (pw_or (pt_cmpR (neD K hu) (pe_def D_safe_fault hr (by decide) passE (pa_cons (pv 4) (pa_cons (pv 11) pa_nil))) (pe_tup (pa_cons pe_str (pa_cons (pv 8) pa_nil))) (nomark _)) (pw_or1 (pt_cmpR (neLI K hu) (pv 11) (pv 10) (nomark _)))))
      (pss_one (ps_ret pe_bl))
      pss_nil)
    (pss_cons (ps_set (i := 12) sc_law.nd rfl (Or.inr rfl) (pe_op (repA K) (pe_tup (pa_cons (pe_tup pa_nil) pa_nil)) (pe_fldK K (pv 2))))
    (pss_cons (ps_if (pt_cmpR (neD K hu) (pe_def D_safe_fault hr (by decide) passE (pa_cons (pv 4) (pa_cons (pe_lc (own := [("_law_one", 13)]) (g := gName 13) (tt := _) rfl sc_law.nd (pi_seq K (pv 5)) (blkOk_by (N := N_law) (sc := defScope s_law) (by decide +kernel)) (fun _ _ _ _ _ => (pg_name (i := 13) sc_law.nd rfl (Or.inl rfl))) (fun _ _ _ _ _ => (pts_one (pt_cmpR (neD K hu) (pv 13) (pv 12) (nomark _)))) (fun _ _ _ _ _ => (pv 13))) pa_nil))) (pe_tup (pa_cons pe_str pa_nil)) (nomark _))
      (pss_one (ps_ret pe_bl))
      pss_nil)
    (pss_cons (ps_set (i := 14) sc_law.nd rfl (Or.inl rfl) (pe_ix (ixU K) (pe_lst (pa_cons pe_non (pa_cons (pe_tup pa_nil) (pa_cons (pe_callTy (cl_tuple K) (by rfl) T.z_tuple (by decide +kernel) (pa_cons (pv 5) pa_nil)) (pa_cons pe_str (pa_cons pe_int (pa_cons pe_dnewK (pa_cons (pe_new M_Share hr (by decide) passE (pa_cons pe_int pa_nil)) (pa_cons (pv 4) (pa_cons (pv 2) pa_nil)))))))))) (pe_def D_pick hr (by decide) passE (pa_cons (pv 1) (pa_cons pe_int pa_nil))) (fun _ _ => rfl)))
    (pss_cons (ps_if (pt_cmpR (neD K hu) (pe_def D_safe_fault hr (by decide) passE (pa_cons (pv 4) (pa_cons (pv 14) pa_nil))) (pe_tup (pa_cons pe_str pa_nil)) (nomark _))
      (pss_one (ps_ret pe_bl))
      pss_nil)
    (pss_cons (ps_set (i := 15) sc_law.nd rfl (Or.inl rfl) (pe_op op_repeat (pe_lst (pa_cons (pv 12) pa_nil)) pe_int))
    (pss_cons (ps_if (PW.pt (pw_or (pt_cmpR (neD K hu) (pe_def D_safe_fault hr (by decide) passE (pa_cons (pv 4) (pa_cons (pv 15) pa_nil))) (pe_tup (pa_cons pe_str pa_nil)) (nomark _)) (pw_or1 (pt_cmpR (neD K hu) (pe_def D_safe_fault hr (by decide) passE (pa_cons (pv 4) (pa_cons (pe_op op_plus (pe_lst (pa_cons pe_non pa_nil)) (pv 15)) pa_nil))) (pe_tup (pa_cons pe_str pa_nil)) (nomark _)))))
      (pss_one (ps_ret pe_bl))
      pss_nil)
    (pss_one (ps_ret (pe_cmpR (eqD K hu) (pe_def D_safe_fault hr (by decide) passE (pa_cons (pv 4) (pa_cons (pe_slice (slU K) (pv 15) (po_some pe_int) po_none) pa_nil))) (pe_tup (pa_cons pe_str (pa_cons pe_int (pa_cons (pe_tup (pa_cons pe_int (pa_cons pe_int pa_nil))) pa_nil)))) (nomark _))))))))))))))))))))))), (ss_seq (ss_asg (si_def (si_cons si_var (si_cons si_int si_nil))) sg_name)
    (ss_seq (ss_asg (si_def (si_cons si_var (si_cons si_int (si_cons si_int (si_cons si_int si_nil))))) sg_name)
    (ss_seq (ss_asg (si_op (si_tup (si_cons si_str (si_cons si_str (si_cons si_str (si_cons si_str (si_cons si_str si_nil)))))) (si_def (si_cons si_var (si_cons si_int si_nil))) sr_ix) sg_name)
    (ss_seq (ss_asg (Dn.si_newU (si_cons si_var (si_cons si_var si_nil))) sg_name)
    (ss_seq (ss_asg (si_def (si_cons si_var (si_cons si_int si_nil))) sg_name)
    (ss_seq (ss_own (sn_lst si_nil))
    (ss_seq (ss_for (si_rng1 (si_cons (si_op si_int (si_def (si_cons si_var (si_cons si_int si_nil))) sr_plus) si_nil)) sg_name
      (ss_seq (ss_asg (si_op si_int (si_def (si_cons si_var (si_cons si_int si_nil))) sr_plus) sg_name)
      (ss_app (si_def (si_cons si_var (si_cons (si_fld X.t.cl X.nI si_var) (si_cons (si_fld X.t.cl X.nO si_var) (si_cons (si_fld X.t.cl X.nM si_var) (si_cons si_var si_nil)))))))))
    (ss_seq (ss_frz (i := 5) (ss_asg (si_def (si_cons si_var (si_cons (si_op (si_cb (si_cons si_var si_nil) sc_len) si_int sr_plus) si_nil))) sg_name))
    (ss_seq (ss_asg (si_vryE (si_def (si_cons si_var (si_cons (si_op si_var si_int sr_ix) si_nil)))) sg_name)
    (ss_seq (ss_own (sn_plus (si_op (si_sl si_var si_noP (si_part si_var) sl_U) (si_lst (si_cons si_var si_nil)) sr_plus) (si_sl si_var (si_part si_var) si_noP sl_U)))
    (ss_seq (ss_if (si_test (si_op (si_def (si_cons si_var (si_cons si_int si_nil))) si_int sr_eq))
      (ss_app (si_vryE (si_def (si_cons si_var (si_cons (si_op si_var si_int sr_ix) si_nil)))))
      ss_nx)
    (ss_seq (ss_frz (i := 10) (ss_asg (si_cb (si_cons si_var si_nil) sc_list) sg_name))
    (ss_seq (ss_if (si_or (si_test (si_op (si_def (si_cons si_var (si_cons si_var si_nil))) (si_tup (si_cons si_str (si_cons si_var si_nil))) sr_ne)) (si_test (si_op si_var si_var sr_neLI)))
      (ss_ret si_bl)
      ss_nx)
    (ss_seq (ss_asg (si_op (si_tup (si_cons (si_tup si_nil) si_nil)) (si_fld X.t.cl X.nM si_var) sr_rep) sg_name)
    (ss_seq (ss_if (si_test (si_op (si_def (si_cons si_var (si_cons (si_lc (si_seq si_var) sg_name (si_test (si_op si_var si_var sr_ne)) si_var (by decide)) si_nil))) (si_tup (si_cons si_str si_nil)) sr_ne))
      (ss_ret si_bl)
      ss_nx)
    (ss_seq (ss_asg (si_op (si_lst (si_cons si_non (si_cons (si_tup si_nil) (si_cons (si_cb (si_cons si_var si_nil) sc_tuple) (si_cons si_str (si_cons si_int (si_cons si_dict0 (si_cons (si_newSh (si_cons si_int si_nil)) (si_cons si_var (si_cons si_var si_nil)))))))))) (si_def (si_cons si_var (si_cons si_int si_nil))) sr_ix) sg_name)
    (ss_seq (ss_if (si_test (si_op (si_def (si_cons si_var (si_cons si_var si_nil))) (si_tup (si_cons si_str si_nil)) sr_ne))
      (ss_ret si_bl)
      ss_nx)
    (ss_seq (ss_asg (si_op (si_lst (si_cons si_var si_nil)) si_int sr_repL) sg_name)
    (ss_seq (ss_if (si_or (si_test (si_op (si_def (si_cons si_var (si_cons si_var si_nil))) (si_tup (si_cons si_str si_nil)) sr_ne)) (si_test (si_op (si_def (si_cons si_var (si_cons (si_op (si_lst (si_cons si_non si_nil)) si_var sr_plus) si_nil))) (si_tup (si_cons si_str si_nil)) sr_ne)))
      (ss_ret si_bl)
      ss_nx)
    (ss_ret (si_op (si_def (si_cons si_var (si_cons (si_sl si_var (si_part si_int) si_noP sl_U) si_nil))) (si_tup (si_cons si_str (si_cons si_int (si_cons (si_tup (si_cons si_int (si_cons si_int si_nil))) si_nil)))) sr_eq))))))))))))))))))))), fun xs q e h => ?_⟩
  obtain ⟨ns, rfl, n63, h⟩ := h
  refine ⟨_, rfl, ns, 0, rfl, n63, by decide, fun a => ⟨_, rfl, a, 4, 4, 7, rfl, by decide, by decide, by decide, fun ds es m g => ?_⟩⟩
  have sz : ∀ {n : Nat}, n ≤ 20 → n ≤ sizeLine := fun {n} h => Nat.le_trans h (by decide)
  have m1 := g.m1
  have m2 := g.m2
  have gi1 := g.gi.1
  have gi2 := g.gi.2.1
  have go1 := g.go.1
  have go2 := g.go.2.1
  refine ⟨(by show 5 ≤ sizeLine; decide), _, rfl, a, 5, rfl, by decide, by decide, fun i i0 i1 => go_oneT (fun d => ∃ wd, d = .str wd ∧ Wrd wd) i0 i1 (fun d hd => ?_) fun d hd => ?_⟩
  · simp only [List.mem_cons, List.not_mem_nil, or_false] at hd
    rcases hd with rfl | rfl | rfl | rfl | rfl
    · exact ⟨_, rfl, .inl rfl⟩
    · exact ⟨_, rfl, .inr (.inl rfl)⟩
    · exact ⟨_, rfl, .inr (.inr (.inl rfl))⟩
    · exact ⟨_, rfl, .inr (.inr (.inr (.inl rfl)))⟩
    · exact ⟨_, rfl, .inr (.inr (.inr (.inr rfl)))⟩
  obtain ⟨wd, rfl, hw⟩ := hd
  refine ⟨_, rfl, _, rfl, ds, es, m, wd, rfl, hw, rfl, _, [exD C ds es m, .str wd, .non], _, rfl, ?_⟩
  refine ⟨_, rfl, ns, 1, rfl, n63, by decide, fun a2 => ?_⟩
  refine ⟨sz (by decide), ?_⟩
  refine ⟨_, rfl, a2, 20, rfl, by decide, by decide, fun n n0 n1 => ⟨_, rfl, by omega, by omega, ?_⟩⟩
  refine loop_inv (fun j ρ => ∃ (Ss : List (List (List PP))) (w6 w7 w8 w9 w10 w11 w12 w13 w14 w15 : Option En), Ss.length = j ∧ (∀ S ∈ Ss, StdOk ds es m S) ∧ ρ = [some (.d (.scr K ns)), some (.d (.flow a2)), some (.d (exD C ds es m)), some (.d (.str wd)), some (.d (ruD RC (exD C ds es m) wd)), some (.own (Ss.map stD)), w6, w7, w8, w9, w10, w11, w12, w13, w14, w15]) _ 0 _ ⟨[], none, none, none, none, none, none, none, none, none, none, rfl, (fun _ h => nomatch h), rfl⟩ ?_ ?_
  · rintro j x ρ N hj ⟨Ss, w6, w7, w8, w9, w10, w11, w12, w13, w14, w15, hl, hS, rfl⟩ hN
    have hj' := (List.getElem?_eq_some_iff.mp hj).1
    rw [List.length_map, List.length_range] at hj'
    refine ⟨_, rfl, a2, 20, rfl, by decide, by decide, fun many n0 n1 => ?_⟩
    refine ⟨_, rfl, _, rfl, _, rfl, _, _, _, rfl, rfl, _, rfl, _, _, _, rfl, rfl, _, rfl, _, _, _, rfl, rfl, _, rfl, a2, ds, es, m, _, rfl, g.gi, g.go, m1, m2, by omega, by omega, fun S hS2 => ?_⟩
    refine ⟨by rw [List.length_map]; exact Nat.lt_of_lt_of_le (by omega : _ < 100) (by decide), hN _ ⟨Ss ++ [S], _, _, _, _, _, _, _, _, _, _, by rw [List.length_append, hl]; rfl, fun T hT => ?_, by rw [List.map_append]; rfl⟩⟩
    rcases List.mem_append.mp hT with hT | hT
    · exact hS T hT
    · rw [List.mem_singleton.mp hT]; exact hS2
  rintro ρ ⟨Ss, w6, w7, w8, w9, w10, w11, w12, w13, w14, w15, hl, hS, rfl⟩
  rw [Nat.zero_add, List.length_map, List.length_range] at hl
  refine ⟨_, rfl, ?_⟩
  refine ⟨_, rfl, _, rfl, go_lenL ⟨a2, _, rfl, by rw [List.length_map]; omega, by rw [List.length_map]; omega, fun at_ at0 at1 => ?_⟩⟩
  have l1 : 1 ≤ Ss.length := by omega
  have l20 : Ss.length ≤ 20 := by omega
  obtain ⟨S0, hS0⟩ : ∃ S0, Ss[0]? = some S0 := ⟨_, List.getElem?_eq_getElem (by omega)⟩
  have h0 := hS S0 (List.mem_of_getElem? hS0)
  have eR0 : (Ss.map stD)[0]? = some (stD S0) := by rw [List.getElem?_map, hS0]; rfl
  obtain ⟨k, rfl⟩ := Int.eq_ofNat_of_zero_le at0
  have hk : k ≤ Ss.length := by rw [List.length_map] at at1; omega
  refine ⟨_, rfl, _, rfl, go_ixL (i := 0) eR0 ⟨a2, ds, es, m, S0, rfl, g, h0, fun bd hc hb vb => ?_⟩⟩
  have c1 : cutD (Ss.map stD) none (some ((k : Nat) : Int)) = (Ss.take k).map stD := by rw [cut_take (by omega), Int.toNat_natCast, List.map_take]
  have c2 : cutD (Ss.map stD) (some ((k : Nat) : Int)) none = (Ss.drop k).map stD := by rw [cut_drop (by omega) (by rw [List.length_map]; omega), Int.toNat_natCast, List.map_drop]
  have slL : ∀ {xs ys : List Dt.D} {lo hi : Option Int} {q : KD}, Dt.cutD xs lo hi = ys → q (.lst ys) → fSl (.lst xs) lo hi q := fun {xs ys lo hi q} e h => by
    show q (.lst (Dt.cutD xs lo hi))
    rw [e]; exact h
  have t1 : ((Ss.take k).map stD).length = k := by rw [List.length_map, List.length_take]; omega
  have t2 : ((Ss.drop k).map stD).length = Ss.length - k := by rw [List.length_map, List.length_drop]
  refine ⟨_, rfl, _, rfl, _, rfl, slL c1 ⟨_, rfl, sz (by show 1 ≤ 20; decide), ?_⟩⟩
  refine ⟨by rw [t1]; show k + 1 ≤ _; exact Nat.le_trans (by omega : k + 1 ≤ 30) (by decide), _, rfl, _, rfl, _, rfl, slL c2 ⟨_, _, rfl, rfl, by rw [List.length_append, t1, t2]; show k + 1 + _ ≤ _; exact Nat.le_trans (by omega : k + 1 + (Ss.length - k) ≤ 30) (by decide), ?_⟩⟩
  let bs : List Dt.D := (Ss.take k).map stD ++ [Dt.D.vry vb bd] ++ (Ss.drop k).map stD
  have lbs : bs.length = Ss.length + 1 := by
    show ((Ss.take k).map stD ++ [Dt.D.vry vb bd] ++ (Ss.drop k).map stD).length = _
    rw [List.length_append, List.length_append, t1, t2]
    show k + 1 + _ = _
    omega
  dsimp only
  refine ms_join (m := msIf _ _ _) (fun ρ' => ∃ tl : List Dt.D, (∀ d ∈ tl, ∃ v d', d = .vry v d') ∧ tl.length ≤ 1 ∧ ρ' = [some (.d (.scr K ns)), some (.d (.flow a2)), some (.d (exD C ds es m)), some (.d (.str wd)), some (.d (ruD RC (exD C ds es m) wd)), some (.d (.lst (Ss.map stD))), w6, w7, some (.d (.int ((k : Nat) : Int))), some (.d (.vry vb bd)), some (.own (bs ++ tl)), w11, w12, w13, w14, w15]) ?_ ?_
  · rintro ρ' ⟨tl, htl, ltl, rfl⟩
    refine ⟨_, rfl, ?_⟩
    refine ⟨_, rfl, _, .inr rfl, ?_⟩
    have lz : (bs ++ tl).length ≤ 100 := by rw [List.length_append, lbs]; omega
    have hbk : (bs ++ tl)[k]? = some (.vry vb bd) := by
      rw [List.getElem?_append_left (by rw [lbs]; omega)]
      show ((Ss.take k).map stD ++ [Dt.D.vry vb bd] ++ (Ss.drop k).map stD)[k]? = _
      rw [List.getElem?_append_left (by rw [List.length_append, t1]; exact Nat.lt_succ_self _), List.getElem?_append_right (by rw [t1]; exact Nat.le_refl _), t1, Nat.sub_self]
      rfl
    have hbj : ∀ j y, j < k → (bs ++ tl)[j]? = some y → ∃ S ∈ Ss, y = stD S := fun j y hj hy => by
      rw [List.getElem?_append_left (by rw [lbs]; omega)] at hy
      have hy : ((Ss.take k).map stD ++ [Dt.D.vry vb bd] ++ (Ss.drop k).map stD)[j]? = some y := hy
      rw [List.getElem?_append_left (by rw [List.length_append, t1]; omega), List.getElem?_append_left (by rw [t1]; exact hj), List.getElem?_map] at hy
      cases e : (Ss.take k)[j]? with
      | none => rw [e] at hy; cases hy
      | some S =>
        rw [e] at hy
        cases hy
        exact ⟨S, List.mem_of_mem_take (List.mem_of_getElem? e), rfl⟩
    have hall : ∀ d ∈ bs ++ tl, (∃ v d', d = .vry v d') ∨ selfEq d := fun d hd => by
      have st : ∀ S : List (List PP), selfEq (stD S) := fun S => by
        obtain ⟨py, h1, h2, h3⟩ := Et.EqE.st
        exact ⟨py S, h1 S, (h2 S).1, Nat.le_trans (h2 S).2 (by decide), by rw [h3]; simp⟩
      rcases List.mem_append.mp hd with hd | hd
      · have hd : d ∈ (Ss.take k).map stD ++ [Dt.D.vry vb bd] ++ (Ss.drop k).map stD := hd
        rcases List.mem_append.mp hd with hd | hd
        · rcases List.mem_append.mp hd with hd | hd
          · obtain ⟨S, _, rfl⟩ := List.mem_map.mp hd
            exact .inr (st S)
          · exact .inl ⟨_, _, List.mem_singleton.mp hd⟩
        · obtain ⟨S, _, rfl⟩ := List.mem_map.mp hd
          exact .inr (st S)
      · exact .inl (htl d hd)
    refine ⟨_, rfl, _, rfl, ds, es, m, wd, .lst (bs ++ tl), rfl, hw, g, .inr (.inr (.inl ⟨_, k, .vry vb bd, rfl, by omega, hbk, hc, hb, fun j y hj hy => ?_, ?_⟩))⟩
    · obtain ⟨S, hSm, rfl⟩ := hbj j y hj hy
      exact ⟨cls_stA, isSta_ok (hS S hSm)⟩
    have ek : SeqAt.shaped (.tuple [.str "standing", .int ((k : Nat) : Int)]) = true ∧ PyData.eqv (.tuple [.str "standing", .int ((k : Nat) : Int)]) (.tuple [.str "standing", .int ((k : Nat) : Int)]) = true := by
      refine ⟨Et.shaped_of ?_ ?_, ?_⟩
      · rw [PyData.canLay0, PyData.canLayAll0, PyData.canLayAll0, PyData.canLayAll0, PyData.canLay0, PyData.canLay0]
        decide +kernel
      · rw [PyData.depth, PyData.depthAll, PyData.depthAll, PyData.depthAll, PyData.depth, PyData.depth]
        decide
      · rw [PyData.eqv, PyData.eqvAll, PyData.eqvAll, PyData.eqvAll, Et.eqv_str, Dt.eqv_int]
        simp
    refine ⟨_, rfl, sz (by show 2 ≤ 20; decide), go_neW (p := .tuple [.str "standing", .int ((k : Nat) : Int)]) rfl ek.1 ek.2 ⟨_, rfl, ifFF ?_⟩⟩
    refine ⟨_, rfl, _, rfl, _, rfl, rfl, hall, _, rfl, ifFF ?_⟩
    refine ⟨sz (by decide), sz (by decide), _, rfl, _, _, _, rfl, rfl, by simp, m1, by omega, by decide, ?_⟩
    rw [emS_rep]
    refine ⟨_, rfl, _, rfl, _, .inr rfl, ?_⟩
    let fl : List (List (List PP)) → List (List (List PP)) := fun l => l.filter fun S => !decide (S = emS m)
    have flen : ∀ l, (fl l).length ≤ l.length := fun l => List.length_filter_le _ _
    refine lcL_step (fun i acc => acc = (fl (Ss.take i)).map stD) _ 0 [] rfl ?_ ?_
    · rintro j d acc N hj rfl hN
      rw [Nat.zero_add] at hN
      rw [List.getElem?_map] at hj
      cases hL : Ss[j]? with
      | none => rw [hL] at hj; cases hj
      | some S =>
        rw [hL] at hj
        cases hj
        have hjl := (List.getElem?_eq_some_iff.mp hL).1
        have e : fl (Ss.take (j + 1)) = fl (Ss.take j) ++ (if decide (S = emS m) = true then [] else [S]) := by
          show (Ss.take (j + 1)).filter _ = (Ss.take j).filter _ ++ _
          rw [List.take_add_one, hL]
          show (Ss.take j ++ [S]).filter _ = _
          rw [List.filter_append]
          congr 1
          by_cases z : S = emS m <;> simp [z]
        have eq1 : ∀ {q : KD}, q (.bl (!decide (S = emS m))) → fEq true (stD S) (stD (emS m)) q := fun {q} h => Et.EqE.ne (a := S) (b := emS m) Et.EqE.st (by decide) h
        refine ⟨_, rfl, _, rfl, eq1 ⟨_, rfl, ?_⟩⟩
        by_cases z : S = emS m
        · rw [decide_eq_true z]
          refine ifFF (hN _ ?_)
          rw [e, if_pos (decide_eq_true z), List.append_nil, Nat.zero_add]
        · rw [decide_eq_false z]
          refine ifTT ⟨_, rfl, ?_, hN _ ?_⟩
          · rw [List.length_map]
            have := flen (Ss.take (0 + j))
            rw [List.length_take] at this
            exact Nat.lt_of_le_of_lt (Nat.le_trans this (Nat.min_le_left _ _)) (Nat.lt_of_lt_of_le (by omega : 0 + j < 100) (by decide))
          · rw [e, if_neg (by rw [decide_eq_false z]; decide), List.map_append, Nat.zero_add]
            rfl
    rintro acc rfl
    rw [Nat.zero_add, List.length_map, List.take_length]
    refine ⟨ds, es, m, wd, .lst ((fl Ss).map stD), rfl, hw, g, .inr (.inr (.inr (.inl ⟨fl Ss, rfl, by have := flen Ss; omega, fun S hS1 => hS S (List.mem_filter.mp hS1).1, fun z => ?_, ?_⟩)))⟩
    · have := (List.mem_filter.mp z).2
      simp at this
    refine ⟨sz (by decide), go_neW (p := .tuple [.str "empty"]) rfl (by decide +kernel) (by decide +kernel) ⟨_, rfl, ifFF ?_⟩⟩
    refine ⟨sz (by decide), _, rfl, _, .inr rfl, 2, rfl, fun sn sd => ⟨_, rfl, _, rfl, sz (by show 9 ≤ 20; decide), ?_⟩⟩
    refine ⟨_, rfl, a2, 9, rfl, by decide, by decide, fun i9 i90 i91 => go_one (fun d => clsOk K d ∧ isiD "list" d = false) i90 i91 (fun d hd => ?_) fun nd hnd => ?_⟩
    · simp only [List.mem_cons, List.not_mem_nil, or_false] at hd
      rcases hd with rfl | rfl | rfl | rfl | rfl | rfl | rfl | rfl | rfl
      · exact ⟨trivial, rfl⟩
      · exact ⟨trivial, rfl⟩
      · exact ⟨trivial, rfl⟩
      · exact ⟨trivial, rfl⟩
      · exact ⟨trivial, rfl⟩
      · exact ⟨trivial, rfl⟩
      · exact ⟨TS, rfl⟩
      · exact ⟨TR, rfl⟩
      · exact ⟨X.t, rfl⟩
    have form : ∀ {q : KD}, q (.bl false) → fEq true (.tup [.str "form"]) (.tup [.str "form"]) q := fun {q} h => go_neW (p := .tuple [.str "form"]) rfl (by decide +kernel) (by decide +kernel) h
    refine ⟨_, rfl, _, rfl, ds, es, m, wd, nd, rfl, hw, g, .inl ⟨hnd.1, hnd.2, sz (by decide), form ⟨_, rfl, ifFF ?_⟩⟩⟩
    refine ⟨_, rfl, sz (by show 1 ≤ 20; decide), by decide, by decide, by show 1 * 2001 ≤ sizeLine; decide, ?_⟩
    have er : (List.replicate (2001 : Int).toNat [Dt.D.tup ((List.replicate m.toNat ([] : List PP)).map ldD)]).flatten = List.replicate 2001 (stD (emS m)) := by
      have : ∀ n : Nat, (List.replicate n [stD (emS m)]).flatten = List.replicate n (stD (emS m)) := fun n => by
        induction n with
        | zero => rfl
        | succ n ih => rw [List.replicate_succ, List.flatten_cons, ih]; rfl
      exact this 2001
    rw [er]
    have l2001 : (List.replicate 2001 (stD (emS m))).length = 2001 := List.length_replicate
    refine ⟨_, rfl, _, rfl, ds, es, m, wd, _, rfl, hw, g, .inr (.inl ⟨_, rfl, by rw [l2001]; decide, by rw [l2001]; decide, sz (by decide), form ⟨_, rfl, ifFF ?_⟩⟩)⟩
    refine ⟨_, rfl, sz (by decide), _, rfl, by rw [l2001]; decide, ds, es, m, wd, _, rfl, hw, g, .inr (.inl ⟨_, rfl, by rw [List.length_append, l2001]; decide, by rw [List.length_append, l2001]; decide, sz (by decide), form ⟨_, rfl, ifFF ?_⟩⟩)⟩
    have c3 : cutD (List.replicate 2001 (stD (emS m))) (some 1) none = List.replicate (1999 + 1) (stD (emS m)) := by
      rw [cut_drop (by decide) (by rw [l2001]; decide), show (1 : Int).toNat = 1 from rfl, List.drop_replicate]
    refine ⟨_, rfl, _, rfl, _, rfl, slL c3 ⟨ds, es, m, wd, _, rfl, hw, g, .inr (.inr (.inr (.inr ⟨1999, rfl, by decide, ?_⟩)))⟩⟩
    exact ⟨sz (by decide), sz (by decide), go_eqW (p := .tuple [.str "call", .int 0, .tuple [.int 0, .int 0]]) rfl (by decide +kernel) (by decide +kernel) h⟩
  · rintro N hN
    refine ⟨_, rfl, a2, 2, rfl, by decide, by decide, fun c c0 c1 => go_eqI ⟨_, rfl, ?_⟩⟩
    by_cases z : c = 1
    · rw [decide_eq_true z]
      refine ifTT ⟨_, rfl, _, rfl, _, rfl, go_ixL (i := 0) eR0 ⟨a2, ds, es, m, S0, rfl, g, h0, fun d2 hc2 hb2 v2 => ⟨?_, hN _ ⟨[.vry v2 d2], fun d hd => ⟨_, _, List.mem_singleton.mp hd⟩, Nat.le_refl _, rfl⟩⟩⟩⟩
      show bs.length < _
      rw [lbs]
      exact Nat.lt_of_lt_of_le (by omega : _ < 100) (by decide)
    · rw [decide_eq_false z]
      exact ifFF (hN _ ⟨[], (fun _ h => nomatch h), Nat.zero_le _, by rw [List.append_nil]; rfl⟩)
end
end K27
set_option Elab.async false
set_option linter.all false
set_option maxRecDepth 100000
set_option maxHeartbeats 4000000
namespace K27o
open PySem PySem.Spec PyProof.Rows L2 Com Sd StV Gn Ext
def top (i : Nat) : Stmt := PySem.Challenge.pw_callsthrough_k27_safe_lists_are_judged.main.body.getD i (.Pass ⟨0, 0, 0, 0⟩)
/-- the module's names that are built-ins, its constants -/
structure Blt (mg : Str → Option Value) : Prop where
  z_len : mg "len" = none
  z_abs : mg "abs" = none
  z_int : mg "int" = none
  z_bool : mg "bool" = none
  z_tuple : mg "tuple" = none
  z_list : mg "list" = none
  z_isinstance : mg "isinstance" = none
  z_all : mg "all" = none
  z_range : mg "range" = none
  z_set : mg "set" = none
  z_sorted : mg "sorted" = none
  z_min : mg "min" = none
  z_max : mg "max" = none
  z_enumerate : mg "enumerate" = none
  c_MOST_SWITCHES : ∃ t, mg "MOST_SWITCHES" = some (.int 4 t)
  c_MOST_DOORS : ∃ t, mg "MOST_DOORS" = some (.int 4 t)
  c_MOST_MIDDLES : ∃ t, mg "MOST_MIDDLES" = some (.int 7 t)
  g_gcd : mg "gcd" = some (.builtin "math.gcd")
local macro_rules | `(tactic| walk_at "rd1") => `(tactic| (first
  | refine ⟨_, rfl, ?_⟩
  | refine ⟨_, _, rfl, rfl, ?_⟩
  | refine ⟨.inl ⟨by decide, by decide⟩, ?_⟩
  | refine ⟨.inr ⟨by decide, by decide⟩, ?_⟩
  | refine ⟨(by decide : (0 : Int) < _), ?_⟩
  | refine ⟨⟨by decide, by decide⟩, ?_⟩
  | refine ⟨⟨by decide, by decide, by decide⟩, ?_⟩
  | refine ⟨rfl, ?_⟩
  | refine .inl ⟨_, rfl, ?_⟩
  | refine .inr ⟨_, rfl, ?_⟩
  | refine ⟨_, _, _, _, rfl, rfl, SqL.of upd_same, rfl, ?_⟩
  | refine ⟨_, _, _, _, rfl, rfl, upd_same, rfl, ?_⟩
  | refine ⟨mulm (by decide) (by decide), ?_⟩
  | refine ⟨_, _, _, _, rfl, rfl, SqL.of (by assumption), rfl, ?_⟩
  | refine ⟨_, _, _, _, rfl, rfl, (by assumption), rfl, ?_⟩))
local macro_rules | `(tactic| walk_at "rd") => `(tactic| repeat (walk_at "rd1"))
section
variable {P : Program} {w : World} {K : PySem.W.Frag} {mg : Str → Option Value} {base : Heap}
abbrev s_flow : Stmt := top 63
abbrev N_flow : List Str := ["_law_script", "_law_k", "_law_cell", "_law_number"]
theorem sc_flow : FnScope N_flow ["_law_script", "_law_k"] (defScope s_flow) := ⟨rfl, rfl, rfl, by decide +kernel, rfl, by decide +kernel, by decide +kernel⟩
theorem ok_flow (T : Blt mg) (D : DefAt K mg "_law_flow" s_flow ["_law_script", "_law_k"]) : DefOk P w K mg base CX0 1 "_law_flow" (spFlow K) := by
  refine D.ok sc_flow (fun vs H Q E h => ?_) (fun f cdv A outer s H vs Q E hr h => ?_)
  · obtain ⟨a, ns, k, rfl, _⟩ := h
    rfl
  obtain ⟨a, ns, k, rfl, hS, hl, hk, q⟩ := h
  refine ⟨_, (pss_cons (ps_set (i := 2) sc_flow.nd rfl (Or.inl rfl) pe_int)
  (pss_cons (ps_if (pt_cmpR op_lt (pv 1) (pe_callB (cl_len K) (by rfl) T.z_len (by decide +kernel) (pa_cons (pv 0) pa_nil)) (nomark _))
    (pss_one (ps_set (i := 2) sc_flow.nd rfl (Or.inl rfl) (pe_ix (ixL K) (pv 0) (pv 1) (fun _ _ => rfl))))
    pss_nil)
  (pss_cons (ps_set (i := 3) sc_flow.nd rfl (Or.inl rfl) (pe_op op_add (pe_op op_mul pe_int (pe_callB call_abs (by rfl) T.z_abs (by decide +kernel) (pa_cons (pv 2) pa_nil))) (pe_callTy call_int1 (by rfl) T.z_int (by decide +kernel) (pa_cons (pe_cmpR op_lt (pv 2) pe_int (nomark _)) pa_nil))))
  (pss_cons (ps_if (pt_cmpR op_ge (pv 3) (pe_op op_pow pe_int pe_int) (nomark _))
    (pss_one (ps_ret (pe_lst (pa_cons (pv 3) (pa_cons pe_int (pa_cons (pe_op op_mod (pe_callTy call_int1 (by rfl) T.z_int (by decide +kernel) (pa_cons (pv 3) pa_nil)) pe_int) pa_nil))))))
    pss_nil)
  (pss_one (ps_ret (pe_lst (pa_cons pe_int (pa_cons pe_int (pa_cons (pe_op op_mod (pe_callTy call_int1 (by rfl) T.z_int (by decide +kernel) (pa_cons (pe_op op_add (pe_op op_add (pv 3) (pe_op op_mul pe_int (pv 1))) pe_int) pa_nil)) pe_int) pa_nil)))))))))), ?_⟩
  refine ⟨_, rfl, _, rfl, a, _, rfl, .inl hS, _, _, rfl, rfl, _, rfl, ?_⟩
  refine ifB (fun c => ?_) (fun c => ?_)
  · have hk' : k < ns.length := by
      have c' := of_decide_eq_true c
      rw [List.length_map] at c'
      omega
    refine ⟨_, rfl, _, rfl, a, _, _, _, rfl, rfl, hS, atI_nat (j := k) (v := V.int ns[k]) (by rw [List.getElem?_map, List.getElem?_eq_getElem hk']; rfl), ?_⟩
    walk_at "rd"
    refine ifB (fun _ => ?_) (fun _ => ?_) <;> walk_at "rd" <;> exact ⟨by show 3 ≤ sizeLine; decide, fun p hp => q p _ hp .new .upd⟩
  · walk_at "rd"
    exact ⟨by show 3 ≤ sizeLine; decide, fun p hp => q p _ hp .new .upd⟩
abbrev s_pick : Stmt := top 64
abbrev N_pick : List Str := ["_law_flow_here", "_law_size", "_law_digit", "_law_number"]
theorem sc_pick : FnScope N_pick ["_law_flow_here", "_law_size"] (defScope s_pick) := ⟨rfl, rfl, rfl, by decide +kernel, rfl, by decide +kernel, by decide +kernel⟩
theorem ok_pick (T : Blt mg) (D : DefAt K mg "_law_pick" s_pick ["_law_flow_here", "_law_size"]) : DefOk P w K mg base CX0 1 "_law_pick" spPick := by
  refine D.ok sc_pick (fun vs H Q E h => ?_) (fun f cdv A outer s H vs Q E hr h => ?_)
  · obtain ⟨a, size, rfl, _⟩ := h
    rfl
  obtain ⟨a, size, rfl, ⟨n, c, r, h0⟩, s1, s2, q⟩ := h
  refine ⟨_, (pss_cons (ps_if (PW.pt (pw_and (pt_cmpR op_ge (pe_ix (ixL K) (pv 0) pe_int (fun _ _ => rfl)) (pv 1) (nomark _)) (pw_and1 (pt_cmpR op_gt (pe_ix (ixL K) (pv 0) pe_int (fun _ _ => rfl)) pe_int (nomark _)))))
    (pss_cons (ps_set (i := 2) sc_pick.nd rfl (Or.inl rfl) (pe_op op_mod (pe_callTy call_int1 (by rfl) T.z_int (by decide +kernel) (pa_cons (pe_ix (ixL K) (pv 0) pe_int (fun _ _ => rfl)) pa_nil)) (pv 1)))
    (pss_cons (ps_asg (pe_op op_fdivW (pe_ix (ixL K) (pv 0) pe_int (fun _ _ => rfl)) (pv 1)) (pg_sub (pv 0) pe_int set_list))
    (pss_one (ps_ret (pv 2)))))
    pss_nil)
  (pss_cons (ps_augS (pv 0) pe_int (getL K) pe_int ip_add set_list)
  (pss_cons (ps_set (i := 3) sc_pick.nd rfl (Or.inl rfl) (pe_op op_mod (pe_callTy call_int1 (by rfl) T.z_int (by decide +kernel) (pa_cons (pe_op op_mul (pe_op op_add (pe_op op_add (pe_ix (ixL K) (pv 0) pe_int (fun _ _ => rfl)) (pe_op op_mul pe_int (pe_ix (ixL K) (pv 0) pe_int (fun _ _ => rfl)))) pe_int) pe_int) pa_nil)) pe_int))
  (pss_cons (ps_set (i := 3) sc_pick.nd rfl (Or.inl rfl) (pe_op op_mod (pe_callTy call_int1 (by rfl) T.z_int (by decide +kernel) (pa_cons (pe_op op_mul (pv 3) (pe_op op_add (pe_op op_fdiv (pv 3) pe_int) pe_int)) pa_nil)) pe_int))
  (pss_cons (ps_set (i := 3) sc_pick.nd rfl (Or.inl rfl) (pe_op op_mod (pe_callTy call_int1 (by rfl) T.z_int (by decide +kernel) (pa_cons (pe_op op_mul (pv 3) (pe_op op_add (pe_op op_fdiv (pv 3) pe_int) pe_int)) pa_nil)) pe_int))
  (pss_one (ps_ret (pe_op op_mod (pe_op op_fdiv (pv 3) pe_int) (pv 1))))))))), ?_⟩
  walk_at "rd"
  refine ifB (fun c1 => ?_) (fun c1 => ?_)
  · walk_at "rd"
    refine ifB (fun c2 => ?_) (fun c2 => ?_)
    · walk_at "rd"
      refine ⟨(by show 0 < size; omega), ?_⟩
      walk_at "rd"
      refine ⟨divW s1 s2, ?_⟩
      walk_at "rd"
      exact q _ _ (Int.emod_nonneg _ (by omega)) (Int.emod_lt_of_pos _ (by omega)) .new .upd
    · walk_at "rd"
      refine ⟨(by show 0 < size; omega), ?_⟩
      exact q _ _ (Int.emod_nonneg _ (by omega)) (Int.emod_lt_of_pos _ (by omega)) .new .upd
  · walk_at "rd"
    refine ⟨(by show 0 < size; omega), ?_⟩
    exact q _ _ (Int.emod_nonneg _ (by omega)) (Int.emod_lt_of_pos _ (by omega)) .new .upd
end
section
variable {P : Program} {w : World} {K : PySem.W.Frag} {mg : Str → Option Value} {base : Heap}
abbrev s_is_plain_int : Stmt := top 3
abbrev N_is_plain_int : List Str := ["value"]
theorem sc_is_plain_int : FnScope N_is_plain_int ["value"] (defScope s_is_plain_int) := ⟨rfl, rfl, rfl, by decide +kernel, rfl, by decide +kernel, by decide +kernel⟩
theorem ok_is_plain_int (T : Blt mg) (D : DefAt K mg "is_plain_int" s_is_plain_int ["value"]) : DefOk P w K mg base CX0 1 "is_plain_int" (spPlain K) := by
  refine D.ok sc_is_plain_int (fun vs H Q E h => ?_) (fun f cdv A outer s H vs Q E hr h => ?_)
  · obtain ⟨x, b, rfl, _⟩ := h
    rfl
  obtain ⟨x, b, rfl, ⟨t, b1, ty, k1, kF, kT⟩, q⟩ := h
  refine ⟨_, (pss_one (ps_ret (pe_and (pe_callB (cl_isi K) (by rfl) T.z_isinstance (by decide +kernel) (pa_cons (pv 0) (pa_cons (pe_bltn (v := .ty "int") (by rfl) T.z_int (by decide +kernel) rfl) pa_nil))) (pe_one (pe_not (pe_callB (cl_isi K) (by rfl) T.z_isinstance (by decide +kernel) (pa_cons (pv 0) (pa_cons (pe_bltn (v := .ty "bool") (by rfl) T.z_bool (by decide +kernel) rfl) pa_nil)))))))), ?_⟩
  refine ⟨_, rfl, x, _, t, _, b1, rfl, .ty "int", ty, k1, _, rfl, ?_⟩
  refine ifB (fun c => ?_) (fun c => ?_)
  · obtain ⟨b2, k2, rfl⟩ := kT c
    exact ⟨_, rfl, x, _, t, _, b2, rfl, .ty "bool", ty, k2, _, rfl, q⟩
  · rw [kF c] at q
    exact q
end
section
variable {P : Program} {w : World} {K : PySem.W.Frag} {mg : Str → Option Value} {base : Heap}
abbrev s_is_int_within : Stmt := top 4
abbrev N_is_int_within : List Str := ["value", "low", "high"]
theorem sc_is_int_within : FnScope N_is_int_within ["value", "low", "high"] (defScope s_is_int_within) := ⟨rfl, rfl, rfl, by decide +kernel, rfl, by decide +kernel, by decide +kernel⟩
theorem ok_is_int_within (T : Blt mg) (D_is_plain_int : DefOk P w K mg base CX0 1 "is_plain_int" (spPlain K)) (D : DefAt K mg "is_int_within" s_is_int_within ["value", "low", "high"]) : DefOk P w K mg base CX0 2 "is_int_within" (spWithin K) := by
  refine D.ok sc_is_int_within (fun vs H Q E h => ?_) (fun f cdv A outer s H vs Q E hr h => ?_)
  · obtain ⟨x, lo, hi, b, rfl, _⟩ := h
    rfl
  obtain ⟨x, lo, hi, b, rfl, hx, q⟩ := h
  refine ⟨_, (pss_one (ps_ret (pe_and (pe_def D_is_plain_int hr (by decide) pass0 (pa_cons (pv 0) pa_nil)) (pe_one (pe_chain op_le op_le (pv 1) (pv 0) (pv 2)))))), ?_⟩
  rcases hx with ⟨i, rfl, rfl⟩ | ⟨hp, rfl⟩
  · refine ⟨_, rfl, _, true, rfl, PlainI.int i, _, rfl, iteT ?_⟩
    walk_at "rd"
    refine ifB (fun c => ?_) (fun c => ?_)
    · walk_at "rd"
      rw [c] at q
      exact q
    · rw [c] at q
      exact q
  · refine ⟨_, rfl, _, false, rfl, hp, _, rfl, iteF ?_⟩
    exact q
end
section
variable {P : Program} {w : World} {K : PySem.W.Frag} {mg : Str → Option Value} {base : Heap}
abbrev s_is_side : Stmt := top 51
abbrev N_is_side : List Str := ["value", "doors"]
theorem sc_is_side : FnScope N_is_side ["value"] (defScope s_is_side) := ⟨rfl, rfl, rfl, by decide +kernel, rfl, by decide +kernel, by decide +kernel⟩
theorem ok_is_side (T : Blt mg) (D_is_int_within : DefOk P w K mg base CX0 2 "is_int_within" (spWithin K)) (D : DefAt K mg "_is_side" s_is_side ["value"]) : DefOk P w K mg base CX0 3 "_is_side" (spSide K) := by
  refine D.ok sc_is_side (fun vs H Q E h => ?_) (fun f cdv A outer s H vs Q E hr h => ?_)
  · obtain ⟨x, b, rfl, _⟩ := h
    rfl
  obtain ⟨x, b, rfl, hx, q⟩ := h
  obtain ⟨t1, c_MOST_SWITCHES⟩ := T.c_MOST_SWITCHES
  obtain ⟨t2, c_MOST_DOORS⟩ := T.c_MOST_DOORS
  refine ⟨_, (pss_cons (ps_if (PW.pt (pw_or (pt_not (pt_val (pe_callB (cl_isi K) (by rfl) T.z_isinstance (by decide +kernel) (pa_cons (pv 0) (pa_cons (pe_bltn (v := .ty "tuple") (by rfl) T.z_tuple (by decide +kernel) rfl) pa_nil))))) (pw_or1 (pt_not (pt_chain op_le op_le pe_int (pe_callB (cl_len K) (by rfl) T.z_len (by decide +kernel) (pa_cons (pv 0) pa_nil)) (pe_gint (by rfl) c_MOST_SWITCHES))))))
    (pss_one (ps_ret pe_bl))
    pss_nil)
  (pss_one (ps_ret (pe_callB (cl_all K) (by rfl) T.z_all (by decide +kernel) (pa_cons (pe_lc (own := [("doors", 1)]) (g := gName 1) (tt := tYes) rfl sc_is_side.nd (piT K (pv 0)) (blkOk_by (N := N_is_side) (sc := defScope s_is_side) (by decide +kernel)) (fun _ _ _ _ _ => (pg_name (i := 1) sc_is_side.nd rfl (Or.inl rfl))) (fun _ _ _ _ _ => pts_nil) (fun _ _ _ _ _ => (pe_def D_is_int_within hr (by decide) pass0 (pa_cons (pv 1) (pa_cons pe_int (pa_cons (pe_gint (by rfl) c_MOST_DOORS) pa_nil)))))) pa_nil))))), ?_⟩
  rcases hx with ⟨a, xs, bs, rfl, hxs, hl, hin, rfl⟩ | ⟨t, ty, k1, rfl⟩
  · refine ⟨_, rfl, _, _, .type "tuple", _, true, rfl, .ty "tuple", .base (.tup hxs), kit_ty (by decide +kernel), _, rfl, iteF ?_⟩
    walk_at "rd"
    refine ⟨a, xs, rfl, .inr (SqT.of hxs), ?_⟩
    walk_at "rd"
    refine ifB (fun c1 => ?_) (fun c1 => ?_)
    · walk_at "rd"
      have c1' := of_decide_eq_true c1
      by_cases c2 : xs.length ≤ 4
      · rw [show decide ((xs.length : Int) ≤ 4) = true from decide_eq_true (by omega)]
        refine iteF ?_
        refine ⟨_, rfl, a, rfl, ⟨_, SqT.of hxs⟩, fun D hD => lp_tup (K := K) (xs := xs) (fun i H' => H' D = some (.lst ((bs.take i).map V.bl)) ∧ But D H H')
          ⟨upd_same, .upd⟩ (fun i H' _ p => SqT.of (by rw [p.2 a (ne_of_none hxs hD)]; exact hxs)) ?_ ?_⟩
        · rintro i v H' hi ⟨h1, h2⟩
          have hib : i < bs.length := by rw [hl]; exact (List.getElem?_eq_some_iff.mp hi).1
          refine ⟨rfl, ?_⟩
          refine ⟨_, rfl, v, 1, 4, bs[i], rfl, (hin i v _ hi (List.getElem?_eq_getElem hib)).same (h2.same hD), _, h1, ?_, ?_⟩
          · rw [List.length_map, List.length_take]
            exact small1000 (by omega)
          · refine ⟨?_, fun b hb => ?_⟩
            · show upd H' D _ D = _
              rw [upd_same, List.take_add_one, List.map_append, List.getElem?_eq_getElem hib]
              rfl
            · rw [upd_ne hb]
              exact h2 b hb
        · rintro H' ⟨h1, h2⟩
          refine ⟨D, bs, rfl, SqL.of (by rw [h1, List.take_of_length_le (by omega)]), ?_⟩
          have := q H' (h2.same hD)
          rw [decide_eq_true (by omega : 1 ≤ xs.length), decide_eq_true c2] at this
          exact this
      · rw [show decide ((xs.length : Int) ≤ 4) = false from decide_eq_false (by omega)]
        refine iteT ?_
        have := q H (Same.refl H)
        rw [decide_eq_false c2, Bool.and_false, Bool.false_and] at this
        exact this
    · have c1' := of_decide_eq_false c1
      have := q H (Same.refl H)
      rw [decide_eq_false (by omega : ¬ 1 ≤ xs.length), Bool.false_and, Bool.false_and] at this
      exact ⟨_, rfl, this⟩
  · refine ⟨_, rfl, x, _, t, _, false, rfl, .ty "tuple", ty, k1, _, rfl, iteT ?_⟩
    exact q H (Same.refl H)
end
section
variable {P : Program} {w : World} {K : PySem.W.Frag} {mg : Str → Option Value} {base : Heap} {C : Addr}
abbrev s_Exchange___init : Stmt := inClass (top 52) 0
abbrev N_Exchange___init : List Str := ["self", "ins", "outs", "middles"]
theorem sc_Exchange___init : FnScope N_Exchange___init ["self", "ins", "outs", "middles"] (defScope s_Exchange___init) := ⟨rfl, rfl, rfl, by decide +kernel, rfl, by decide +kernel, by decide +kernel⟩
theorem ok_init (T : Blt mg) (X : ExT K mg C) (D_is_side : DefOk P w K mg base CX0 3 "_is_side" (spSide K)) (D_is_int_within : DefOk P w K mg base CX0 2 "is_int_within" (spWithin K))
    (D : MethAt K C "__init__" "Exchange.__init__" s_Exchange___init ["self", "ins", "outs", "middles"]) : MethOk P w K mg base CX0 4 C "__init__" (spInit C) := by
  refine D.fn sc_Exchange___init (fun vs H Q E h => ?_) (fun f cdv A outer s H vs Q E hr h => ?_)
  · obtain ⟨p, dx, i, o, ds, es, m, rfl, _⟩ := h
    rfl
  obtain ⟨p, dx, i, o, ds, es, m, rfl, hp, hi, gi, ho, go, m1, m2, q⟩ := h
  obtain ⟨t1, c_MOST_MIDDLES⟩ := T.c_MOST_MIDDLES
  refine ⟨_, (pss_cons (ps_if (pt_not (pt_val (pe_def D_is_side hr (by decide) pass0 (pa_cons (pv 1) pa_nil))))
    (pss_one ps_never)
    pss_nil)
  (pss_cons (ps_if (pt_not (pt_val (pe_def D_is_side hr (by decide) pass0 (pa_cons (pv 2) pa_nil))))
    (pss_one ps_never)
    pss_nil)
  (pss_cons (ps_if (pt_not (pt_val (pe_def D_is_int_within hr (by decide) pass0 (pa_cons (pv 3) (pa_cons pe_int (pa_cons (pe_gint (by rfl) c_MOST_MIDDLES) pa_nil))))))
    (pss_one ps_never)
    pss_nil)
  (pss_cons (ps_fldK K (pv 0) (pv 1))
  (pss_cons (ps_fldK K (pv 0) (pv 2))
  (pss_one (ps_fldK K (pv 0) (pv 3)))))))), ?_⟩
  refine ⟨_, rfl, _, true, rfl, gi.side hi, fun H1 s1 => ⟨_, rfl, ?_⟩⟩
  refine ⟨_, rfl, _, true, rfl, go.side (Same.tup s1 ho), fun H2 s2 => ⟨_, rfl, ?_⟩⟩
  refine ⟨_, rfl, _, _, _, true, rfl, InR.good m1 m2, _, rfl, ?_⟩
  have hp2 : H2 p = some (.ins C dx []) := s2 _ _ (s1 _ _ hp)
  refine ⟨_, rfl, _, rfl, p, C, dx, [], rfl, hp2, X.cl, X.nI, (by show 0 < 1000; decide), ?_⟩
  refine ⟨_, rfl, _, rfl, p, C, dx, _, rfl, upd_same, X.cl, X.nO, (by rw [putF_nil]; show 1 < 1000; decide), ?_⟩
  refine ⟨_, rfl, _, rfl, p, C, dx, _, rfl, upd_same, X.cl, X.nM, (by rw [putF_nil, putF_ne no1, putF_nil]; show 2 < 1000; decide), ?_⟩
  refine q _ ⟨dx, by rw [upd_same, exF_put]⟩ fun b u hb ne => ?_
  rw [upd_ne ne, upd_ne ne, upd_ne ne]
  exact s2 _ _ (s1 _ _ hb)
end
namespace Shr
def shF (n d : Int) : List (Str × V) := [("top", .int n), ("bottom", .int d)]
def ShO (C : Addr) (H : Hp) (p : Addr) (n d : Int) : Prop := ∃ dx, H p = some (.ins C dx (shF n d))
theorem ShO.same {C : Addr} {H H' : Hp} {p : Addr} {n d : Int} (s : Same H H') (h : ShO C H p n d) : ShO C H' p n d := let ⟨dx, e⟩ := h; ⟨dx, s _ _ e⟩
theorem tb : ¬ (("top" : Str) = "bottom") := by decide +kernel
theorem shF_put (n d : Int) : putF "bottom" (.int d) (putF "top" (.int n) []) = shF n d := by
  rw [putF_nil, putF_ne tb, putF_nil]
  rfl
/-- what the top has made of the class -/
structure ShT (K : PySem.W.Frag) (mg : Str → Option Value) (C : Addr) : Prop where
  cl : Cls K C
  nT : NoAttr K C "top"
  nB : NoAttr K C "bottom"
  ca : PySem.W.findIn K (.ref C) "__class__" = some (some (.builtin "object.__class__"))
  cn : PySem.W.specialIn K (.builtin "object.__class__") "__get__" = some (some (.builtin "getset_descriptor.__get__"))
  ct : PySem.W.takesIn K (.builtin "object.__class__") = some true
  cm : PySem.W.mroIn K C (.type "object") = some true
  kI : PySem.W.kitOne K (.type "int") (.ref C) = some false
  fS : PySem.W.notFirst K C (.ref C) = true
  g_Share : mg "Share" = some (.ref C)
def Old (p : Addr) (H H' : Hp) : Prop := ∀ b o, H b = some o → b ≠ p → H' b = some o
def spInit (C : Addr) : Sp := fun vs H Q _ => ∃ (p dx : Addr) (t b : Int), vs = [.ref p, .int t, .int b] ∧ H p = some (.ins C dx []) ∧ b ≠ 0 ∧ B b 8000 ∧ ∀ H', ShO C H' p (Num.nt t b) (Num.nb t b) → Old p H H' → Q .non H'
/-- an operand: a share, or an int -/
def Opd (C : Addr) (H : Hp) (x : V) (n d : Int) : Prop := (∃ p, x = .ref p ∧ ShO C H p n d) ∨ (x = .int n ∧ d = 1)
theorem Opd.same {C : Addr} {H H' : Hp} {x : V} {n d : Int} (s : Same H H') (h : Opd C H x n d) : Opd C H' x n d := h.elim (fun ⟨p, e, z⟩ => .inl ⟨p, e, z.same s⟩) .inr
theorem dec_int (i j : Int) : decide (V.int i = V.int j) = decide (i = j) := by simp
section
variable {P : Program} {w : World} {K : PySem.W.Frag} {mg : Str → Option Value} {base : Heap} {C : Addr}
abbrev s_Share___init : Stmt := inClass (top 61) 0
abbrev N_Share___init : List Str := ["self", "top", "bottom", "common"]
theorem sc_Share___init : FnScope N_Share___init ["self", "top", "bottom"] (defScope s_Share___init) := ⟨rfl, rfl, rfl, by decide +kernel, rfl, by decide +kernel, by decide +kernel⟩
theorem ok_init (T : Blt mg) (X : ShT K mg C) (D_is_plain_int : DefOk P w K mg base CX0 1 "is_plain_int" (spPlain K)) {f : Addr} {fd : FuncData} (F : FunD K "__init__" "Share.__init__" (defArgs s_Share___init) (defBody s_Share___init) (defScope s_Share___init) [.int 1] [] f fd) : FnOk P w K mg base CX0 2 f fd ["self", "top", "bottom"] (spInit C) := by
  refine F.ok sc_Share___init (fun vs H Q E h => ?_) (fun cdv A outer s H vs Q E hr h => ?_)
  · obtain ⟨p, dx, t, b, rfl, _⟩ := h
    rfl
  obtain ⟨p, dx, t, b, rfl, hp, hb, hB, q⟩ := h
  refine ⟨_, (pss_cons (ps_if (pt_not (pt_val (pe_def D_is_plain_int hr (by decide) pass0 (pa_cons (pv 1) pa_nil))))
    (pss_one ps_never)
    pss_nil)
  (pss_cons (ps_if (PW.pt (pw_or (pt_not (pt_val (pe_def D_is_plain_int hr (by decide) pass0 (pa_cons (pv 2) pa_nil)))) (pw_or1 (pt_cmpR op_eq (pv 2) pe_int (nomark _)))))
    (pss_one ps_never)
    pss_nil)
  (pss_cons (ps_set (i := 3) sc_Share___init.nd rfl (Or.inl rfl) (pe_gbfn cr_gcd T.g_gcd (pa_cons (pv 1) (pa_cons (pv 2) pa_nil))))
  (pss_cons (ps_if (pt_cmpR op_lt (pv 2) pe_int (nomark _))
    (pss_one (ps_set (i := 3) sc_Share___init.nd rfl (Or.inl rfl) (pe_un un_neg (pv 3))))
    pss_nil)
  (pss_cons (ps_fldK K (pv 0) (pe_op fdivX (pv 1) (pv 3)))
  (pss_one (ps_fldK K (pv 0) (pe_op fdivX (pv 2) (pv 3))))))))), ?_⟩
  refine ⟨_, rfl, _, true, rfl, PlainI.int t, _, rfl, ?_⟩
  refine ⟨_, rfl, _, true, rfl, PlainI.int b, _, rfl, ?_⟩
  refine ⟨_, rfl, rfl, _, rfl, ?_⟩
  have e0 : decide (V.int b = V.int 0) = false := by rw [dec_int]; exact decide_eq_false hb
  rw [e0]
  refine ⟨_, rfl, _, rfl, t, b, rfl, ?_⟩
  refine ⟨_, rfl, _, _, rfl, rfl, _, rfl, ?_⟩
  have hc : CDivX t (Num.cm t b) ∧ CDivX b (Num.cm t b) := ⟨⟨Num.cm_ne hb, (B.le hB (Num.cm_le t b hb)).mono (by decide)⟩, ⟨Num.cm_ne hb, (B.le hB (Num.cm_le t b hb)).mono (by decide)⟩⟩
  have fin : ∀ H', H' = upd (upd H p (.ins C dx (putF "top" (.int (Num.nt t b)) []))) p (.ins C dx (putF "bottom" (.int (Num.nb t b)) (putF "top" (.int (Num.nt t b)) []))) → Q .non H' := fun H' e => by
    subst e
    refine q _ ⟨dx, by rw [upd_same, shF_put]⟩ fun z u hz ne => ?_
    rw [upd_ne ne, upd_ne ne]
    exact hz
  refine ifB (fun c => ?_) (fun c => ?_)
  · have ec : Num.cm t b = -Num.gc t b := by unfold Num.cm; rw [if_pos (of_decide_eq_true c)]
    rw [ec] at hc
    refine ⟨_, rfl, _, rfl, ?_⟩
    refine ⟨_, rfl, _, rfl, _, _, rfl, rfl, hc.1, _, rfl, p, C, dx, [], rfl, hp, X.cl, X.nT, (by show 0 < 1000; decide), ?_⟩
    refine ⟨_, rfl, _, rfl, _, _, rfl, rfl, hc.2, _, rfl, p, C, dx, _, rfl, upd_same, X.cl, X.nB, (by rw [putF_nil]; show 1 < 1000; decide), ?_⟩
    refine fin _ ?_
    unfold Num.nt Num.nb
    rw [ec]
    rfl
  · have ec : Num.cm t b = Num.gc t b := by unfold Num.cm; rw [if_neg (of_decide_eq_false c)]
    rw [ec] at hc
    refine ⟨_, rfl, _, rfl, _, _, rfl, rfl, hc.1, _, rfl, p, C, dx, [], rfl, hp, X.cl, X.nT, (by show 0 < 1000; decide), ?_⟩
    refine ⟨_, rfl, _, rfl, _, _, rfl, rfl, hc.2, _, rfl, p, C, dx, _, rfl, upd_same, X.cl, X.nB, (by rw [putF_nil]; show 1 < 1000; decide), ?_⟩
    refine fin _ ?_
    unfold Num.nt Num.nb
    rw [ec]
    rfl
end
end Shr
def bsOf (L : List PP) (p : PP) : List Bool := L.map fun c => !decide (c.1 = p.1) && !decide (c.2 = p.2)
theorem bsOf_all (L : List PP) (p : PP) : (bsOf L p).all id = freeB L p := by
  unfold bsOf freeB
  rw [List.all_map]
  rfl
section
variable {P : Program} {w : World} {K : PySem.W.Frag} {mg : Str → Option Value} {base : Heap} {C : Addr}
abbrev s_free : Stmt := top 66
abbrev N_free : List Str := ["_law_load", "_law_pair", "_law_one"]
theorem sc_free : FnScope N_free ["_law_load", "_law_pair"] (defScope s_free) := ⟨rfl, rfl, rfl, by decide +kernel, rfl, by decide +kernel, by decide +kernel⟩
theorem ok_lfree (T : Blt mg) (D : DefAt K mg "_law_free" s_free ["_law_load", "_law_pair"]) : DefOk P w K mg base CX0 1 "_law_free" spIsFree := by
  refine D.ok sc_free (fun vs H Q E h => ?_) (fun f cdv A outer s H vs Q E hr h => ?_)
  · obtain ⟨v, u, L, p, rfl, _⟩ := h
    rfl
  obtain ⟨v, u, L, p, rfl, ⟨b, us, rfl, hb, hP⟩, hl, ⟨a, rfl, ha⟩, q⟩ := h
  have hlen := Paired.length hP
  refine ⟨_, (pss_one (ps_ret (pe_callB (cl_all K) (by rfl) T.z_all (by decide +kernel) (pa_cons (pe_lc (own := [("_law_one", 2)]) (g := gName 2) (tt := tYes) rfl sc_free.nd (pi_seq K (pv 0)) (blkOk_by (N := N_free) (sc := defScope s_free) (by decide +kernel)) (fun _ _ _ _ _ => (pg_name (i := 2) sc_free.nd rfl (Or.inl rfl))) (fun _ _ _ _ _ => pts_nil) (fun _ _ _ _ _ => (pe_and (pe_cmpR op_ne (pe_ix (ixT K) (pv 2) pe_int (fun _ _ => rfl)) (pe_ix (ixT K) (pv 1) pe_int (fun _ _ => rfl)) (nomark _)) (pe_one (pe_cmpR op_ne (pe_ix (ixT K) (pv 2) pe_int (fun _ _ => rfl)) (pe_ix (ixT K) (pv 1) pe_int (fun _ _ => rfl)) (nomark _)))))) pa_nil)))), ?_⟩
  have step : ∀ (D : Addr) (hD : H D = none) (i : Nat) (x : V) (H' : Hp), us[i]? = some x → (H' D = some (.lst (((bsOf L p).take i).map V.bl)) ∧ Same H H') → ∃ (c : PP) (cr : Addr), L[i]? = some c ∧ x = .ref cr ∧ H' cr = some (.tup [.int c.1, .int c.2]) ∧ H' a = some (.tup [.int p.1, .int p.2]) ∧ (((bsOf L p).take i).map V.bl).length < sizeLine ∧
      (((bsOf L p).take i).map V.bl) ++ [V.bl (!decide (c.1 = p.1) && !decide (c.2 = p.2))] = (((bsOf L p).take (i + 1)).map V.bl) := by
    rintro D hD i x H' hi ⟨h1, h2⟩
    obtain ⟨c, hc, cr, rfl, hcr⟩ := StV.paired_get hP hi
    refine ⟨c, cr, hc, rfl, h2 _ _ hcr, h2 _ _ ha, ?_, ?_⟩
    · rw [List.length_map, List.length_take]
      exact small1000 (by have : (bsOf L p).length = L.length := List.length_map ..; omega)
    · have e : (bsOf L p)[i]? = some (!decide (c.1 = p.1) && !decide (c.2 = p.2)) := by
        unfold bsOf
        rw [List.getElem?_map, hc]
        rfl
      rw [List.take_add_one, e, List.map_append]
      rfl
  have fin : ∀ (D : Addr) (H' : Hp), (H' D = some (.lst (((bsOf L p).take us.length).map V.bl)) ∧ Same H H') → ∃ (aa : Addr) (bs : List Bool), [V.ref D] = [V.ref aa] ∧ SqL K H' aa (bs.map V.bl) ∧ Q (.bl (bs.all id)) H' := by
    rintro D H' ⟨h1, h2⟩
    refine ⟨D, bsOf L p, rfl, SqL.of ?_, ?_⟩
    · rw [h1, List.take_of_length_le (by have : (bsOf L p).length = L.length := List.length_map ..; omega)]
    · rw [bsOf_all]
      exact q H' h2
  refine ⟨_, rfl, b, rfl, ?_⟩
  rcases hb with hb | hb
  · refine .inl ⟨_, SqL.of hb, fun D hD => lp_list (K := K) (xs := us) (fun i H' => H' D = some (.lst (((bsOf L p).take i).map V.bl)) ∧ Same H H') ⟨upd_same, Com.Same.upd hD⟩ (fun i H' _ p => SqL.of (p.2 _ _ hb)) ?_ (fun H' h => fin D H' h)⟩
    rintro i x H' hi hh
    obtain ⟨c, cr, hc, rfl, h3, h4, h5, h6⟩ := step D hD i x H' hi hh
    refine ⟨rfl, _, rfl, cr, _, 0, _, rfl, rfl, SqT.of h3, rfl, _, rfl, a, _, 0, _, rfl, rfl, SqT.of h4, rfl, rfl, _, rfl, ?_⟩
    rw [dV]
    rw [← h6]
    cases decide (c.1 = p.1) with
    | true => exact ⟨_, hh.1, h5, upd_same, Same.grow hD hh.2⟩
    | false =>
      refine ⟨_, rfl, cr, _, 1, _, rfl, rfl, SqT.of h3, rfl, _, rfl, a, _, 1, _, rfl, rfl, SqT.of h4, rfl, rfl, ?_⟩
      rw [dV]
      exact ⟨_, hh.1, h5, upd_same, Same.grow hD hh.2⟩
  · refine .inr ⟨_, SqT.of hb, fun D hD => lp_tup (K := K) (xs := us) (fun i H' => H' D = some (.lst (((bsOf L p).take i).map V.bl)) ∧ Same H H') ⟨upd_same, Com.Same.upd hD⟩ (fun i H' _ p => SqT.of (p.2 _ _ hb)) ?_ (fun H' h => fin D H' h)⟩
    rintro i x H' hi hh
    obtain ⟨c, cr, hc, rfl, h3, h4, h5, h6⟩ := step D hD i x H' hi hh
    refine ⟨rfl, _, rfl, cr, _, 0, _, rfl, rfl, SqT.of h3, rfl, _, rfl, a, _, 0, _, rfl, rfl, SqT.of h4, rfl, rfl, _, rfl, ?_⟩
    rw [dV]
    rw [← h6]
    cases decide (c.1 = p.1) with
    | true => exact ⟨_, hh.1, h5, upd_same, Same.grow hD hh.2⟩
    | false =>
      refine ⟨_, rfl, cr, _, 1, _, rfl, rfl, SqT.of h3, rfl, _, rfl, a, _, 1, _, rfl, rfl, SqT.of h4, rfl, rfl, ?_⟩
      rw [dV]
      exact ⟨_, hh.1, h5, upd_same, Same.grow hD hh.2⟩
end
section
variable {P : Program} {w : World} {K : PySem.W.Frag} {mg : Str → Option Value} {base : Heap} {C : Addr}
abbrev s_loads : Stmt := top 67
abbrev N_loads : List Str := ["_law_flow_here", "_law_ins", "_law_outs", "_law_middles", "_law_many", "_law_loads_here", "_law_k", "_law_left", "_law_turn", "_law_pair", "_law_load"]
theorem sc_loads : FnScope N_loads ["_law_flow_here", "_law_ins", "_law_outs", "_law_middles", "_law_many"] (defScope s_loads) := ⟨rfl, rfl, rfl, by decide +kernel, rfl, by decide +kernel, by decide +kernel⟩
theorem ok_lloads (T : Blt mg) (D_pick : DefOk P w K mg base CX0 1 "_law_pick" spPick) (D_free : DefOk P w K mg base CX0 1 "_law_free" spIsFree) (D : DefAt K mg "_law_loads" s_loads ["_law_flow_here", "_law_ins", "_law_outs", "_law_middles", "_law_many"]) : DefOk P w K mg base CX0 2 "_law_loads" spLoads := by
  refine D.ok sc_loads (fun vs H Q E h => ?_) (fun f cdv A outer s H vs Q E hr h => ?_)
  · obtain ⟨a, i, o, ds, es, m, many, rfl, _⟩ := h
    rfl
  obtain ⟨a, i, o, ds, es, m, many, rfl, f0, ti, gi, to, go, m1, m2, k1, k2, q⟩ := h
  have ld : (ds.map V.int).length = ds.length := List.length_map ..
  have le : (es.map V.int).length = es.length := List.length_map ..
  have gd1 := gi.1
  have gd2 := gi.2.1
  have ge1 := go.1
  have ge2 := go.2.1
  refine ⟨_, (pss_cons (ps_setLc (i := 5) (own := [("_law_k", 6)]) (g := gName 6) (tt := tYes) rfl sc_loads.nd rfl rfl (sw_true rfl rfl rfl (by decide +kernel)) (pi_range1 (by rfl) T.z_range (pa_cons (pv 3) pa_nil)) (blkOk_by (N := N_loads) (sc := defScope s_loads) (by decide +kernel)) (fun _ _ _ _ _ => (pg_name (i := 6) sc_loads.nd rfl (Or.inl rfl))) (fun _ _ _ _ _ => pts_nil) (fun _ _ _ _ _ => (pe_lst pa_nil)))
  (pss_cons (ps_set (i := 7) sc_loads.nd rfl (Or.inl rfl) (pe_lst (pa_cons (pe_callTy (cl_list K) (by rfl) T.z_list (by decide +kernel) (pa_cons (pv 1) pa_nil)) (pa_cons (pe_callTy (cl_list K) (by rfl) T.z_list (by decide +kernel) (pa_cons (pv 2) pa_nil)) pa_nil))))
  (pss_cons (ps_for PassesOwn.never rfl (pi_range1 (by rfl) T.z_range (pa_cons (pv 4) pa_nil)) (pg_name (i := 8) sc_loads.nd rfl (Or.inl rfl))
    (pss_cons (ps_set (i := 9) sc_loads.nd rfl (Or.inl rfl) (pe_tup (pa_cons (pe_def D_pick hr (by decide) pass0 (pa_cons (pv 0) (pa_cons (pe_callB (cl_len K) (by rfl) T.z_len (by decide +kernel) (pa_cons (pv 1) pa_nil)) pa_nil))) (pa_cons (pe_def D_pick hr (by decide) pass0 (pa_cons (pv 0) (pa_cons (pe_callB (cl_len K) (by rfl) T.z_len (by decide +kernel) (pa_cons (pv 2) pa_nil)) pa_nil))) pa_nil))))
    (pss_cons (ps_set (i := 6) sc_loads.nd rfl (Or.inl rfl) (pe_def D_pick hr (by decide) pass0 (pa_cons (pv 0) (pa_cons (pv 3) pa_nil))))
    (pss_one (ps_if (PW.pt (pw_and (pt_cmpR op_gt (pe_ix (ixL K) (pe_ix (ixL K) (pv 7) pe_int (fun _ _ => rfl)) (pe_ix (ixT K) (pv 9) pe_int (fun _ _ => rfl)) (fun _ _ => rfl)) pe_int (nomark _)) (pw_and (pt_cmpR op_gt (pe_ix (ixL K) (pe_ix (ixL K) (pv 7) pe_int (fun _ _ => rfl)) (pe_ix (ixT K) (pv 9) pe_int (fun _ _ => rfl)) (fun _ _ => rfl)) pe_int (nomark _)) (pw_and1 (pt_val (pe_def D_free hr (by decide) pass0 (pa_cons (pe_ix (ixL K) (pv 5) (pv 6) (fun _ _ => rfl)) (pa_cons (pv 9) pa_nil))))))))
      (pss_cons (ps_asg (pe_callB (cr_srtP K) (by rfl) T.z_sorted (by decide +kernel) (pa_cons (pe_op op_cat (pe_ix (ixL K) (pv 5) (pv 6) (fun _ _ => rfl)) (pe_lst (pa_cons (pv 9) pa_nil))) pa_nil)) (pg_sub (pv 5) (pv 6) set_list))
      (pss_cons (ps_augS (pe_ix (ixL K) (pv 7) pe_int (fun _ _ => rfl)) (pe_ix (ixT K) (pv 9) pe_int (fun _ _ => rfl)) (getL K) pe_int ip_sub set_list)
      (pss_one (ps_augS (pe_ix (ixL K) (pv 7) pe_int (fun _ _ => rfl)) (pe_ix (ixT K) (pv 9) pe_int (fun _ _ => rfl)) (getL K) pe_int ip_sub set_list))))
      pss_nil)))))
  (pss_one (ps_ret (pe_callTy (cl_tuple K) (by rfl) T.z_tuple (by decide +kernel) (pa_cons (pe_lc (own := [("_law_load", 10)]) (g := gName 10) (tt := tYes) rfl sc_loads.nd (piL K (pv 5)) (blkOk_by (N := N_loads) (sc := defScope s_loads) (by decide +kernel)) (fun _ _ _ _ _ => (pg_name (i := 10) sc_loads.nd rfl (Or.inl rfl))) (fun _ _ _ _ _ => pts_nil) (fun _ _ _ _ _ => (pe_callTy (cl_tuple K) (by rfl) T.z_tuple (by decide +kernel) (pa_cons (pv 10) pa_nil)))) pa_nil))))))), ?_⟩
  refine ⟨_, rfl, _, rfl, by omega, by omega, fun A hA => ?_⟩
  have aA : a ≠ A := (FlowAt.ne f0 hA).symm
  refine lp_range (lo := 0) (fun k H' => ∃ vs, H' A = some (.lst vs) ∧ Paired (fun v L => ∃ b us, v = .ref b ∧ H' b = some (.lst us) ∧ PairsV H' us L ∧ b ≠ a ∧ b ≠ A) vs (List.replicate k []) ∧ Same H H') ⟨[], upd_same, .nil, Com.Same.upd hA⟩ ?_ ?_
  · rintro k H' hk ⟨vs, h1, h2, h3⟩
    refine ⟨rfl, (by show 0 ≤ sizeLine; decide), fun b hb => ?_⟩
    have nb : A ≠ b := ne_of_none h1 hb
    have vl := Paired.length h2
    rw [List.length_replicate] at vl
    refine ⟨vs, by rw [upd_ne nb]; exact h1, small1000 (by omega), vs ++ [.ref b], upd_same, ?_, Same.grow hA (h3.trans (Com.Same.upd hb))⟩
    rw [List.replicate_succ']
    have ts : TupS H' (upd (upd H' b (.lst [])) A (.lst (vs ++ [V.ref b]))) := (TupS.new hb).trans (TupS.lset (by rw [upd_ne nb]; exact h1))
    refine Paired.snoc (paired_imp (fun v L ⟨c, us, e, hc, hp, n1, n2⟩ => ⟨c, us, e, ?hc, PairsV.mono ts hp, n1, n2⟩) h2) ⟨b, [], rfl, ?hn, .nil, FlowAt.ne (FlowAt.same f0 h3) hb, nb.symm⟩
    case hc =>
      rw [upd_ne n2, upd_ne (ne_of_none hc hb)]
      exact hc
    case hn => rw [upd_ne nb.symm, upd_same]
  · rintro H1 ⟨vs0, hA1, hV1, s1⟩
    dsimp only [gName]
    refine at_st (σ' := [some (.ref a), some (.ref i), some (.ref o), some (.int m), some (.int many), some (.ref A), none, none, none, none, none]) rfl ?_
    refine ⟨_, rfl, i, _, rfl, .inr (SqT.of (Same.tup s1 ti)), fun I0 hI0 => ?_⟩
    have s2 := Com.Same.upd (o := .lst (ds.map V.int)) hI0
    have h2 := upd_same (H := H1) (a := I0) (o := .lst (ds.map V.int))
    generalize upd H1 I0 (.lst (ds.map V.int)) = H2 at s2 h2 ⊢
    have s12 := s1.trans s2
    refine ⟨_, rfl, o, _, rfl, .inr (SqT.of (Same.tup s12 to)), fun I1 hI1 => ?_⟩
    have s3 := Com.Same.upd (o := .lst (es.map V.int)) hI1
    have h3 := upd_same (H := H2) (a := I1) (o := .lst (es.map V.int))
    generalize upd H2 I1 (.lst (es.map V.int)) = H3 at s3 h3 ⊢
    have s13 := s12.trans s3
    refine ⟨(by show 2 ≤ sizeLine; decide), fun L0 hL0 => ?_⟩
    have s4 := Com.Same.upd (o := .lst [.ref I0, .ref I1]) hL0
    have h4 := upd_same (H := H3) (a := L0) (o := .lst [.ref I0, .ref I1])
    generalize upd H3 L0 (.lst [.ref I0, .ref I1]) = H4 at s4 h4 ⊢
    have s14 := s13.trans s4
    have bk : ∀ {b : Addr} {H' : Hp}, Same H H' → H' b = none → H b = none := fun {b H'} s n => by
      cases e : H b with
      | none => rfl
      | some z => rw [s _ _ e] at n; cases n
    have Z : Apart H a A L0 I0 I1 := ⟨hA, bk s13 hL0, bk s1 hI0, bk s12 hI1, aA, (FlowAt.ne (FlowAt.same f0 s13) hL0).symm, (FlowAt.ne (FlowAt.same f0 s1) hI0).symm, (FlowAt.ne (FlowAt.same f0 s12) hI1).symm,
      ne_of_none (s3 _ _ (s2 _ _ hA1)) hL0, ne_of_none hA1 hI0, ne_of_none (s2 _ _ hA1) hI1, (ne_of_none (s3 _ _ h2) hL0).symm, (ne_of_none h3 hL0).symm, ne_of_none h2 hI1⟩
    obtain ⟨nm, rfl⟩ := Int.eq_ofNat_of_zero_le (show 0 ≤ m by omega)
    have LD : LdI a A L0 I0 I1 ds es (nm : Nat) H H4 (List.replicate nm []) vs0 := by
      refine ⟨FlowAt.same f0 s14, s4 _ _ (s3 _ _ (s2 _ _ hA1)), ?_, h4, ?_, ?_, StdOk.empty (fun d hd => (gi.2.2 d hd).1) (fun d hd => (go.2.2 d hd).1), same_old s14⟩
      · refine paired_imp (fun v L ⟨c, us, e, hc, hp, n1, n2⟩ => ⟨c, us, e, s4 _ _ (s3 _ _ (s2 _ _ hc)), PairsV.same (s2.trans (s3.trans s4)) hp, n1, n2, ne_of_none (s3 _ _ (s2 _ _ hc)) hL0, ne_of_none hc hI0, ne_of_none (s2 _ _ hc) hI1⟩) hV1
      · show H4 I0 = _
        rw [show fs (List.replicate nm ([] : List PP)) = [] by simp [fs], left_nil]
        exact s4 _ _ (s3 _ _ h2)
      · show H4 I1 = _
        rw [show sn (List.replicate nm ([] : List PP)) = [] by simp [sn], left_nil]
        exact s4 _ _ h3
    dsimp only [gName]
    refine at_st (σ' := [some (.ref a), some (.ref i), some (.ref o), some (.int (nm : Nat)), some (.int many), some (.ref A), none, some (.ref L0), none, none, none]) rfl ?_
    clear h2 h3 h4 hA1 hV1 s2 s3 s4 hL0 hI1 hI0 hA s12 s13 s1
    refine ⟨_, rfl, _, rfl, by omega, by omega, for_range (lo := 0) (fun j σ H' => ∃ w6 w8 w9 S vs, σ = [some (.ref a), some (.ref i), some (.ref o), some (.int (nm : Nat)), some (.int many), some (.ref A), w6, some (.ref L0), w8, w9, none] ∧ LdI a A L0 I0 I1 ds es (nm : Nat) H H' S vs) ⟨_, _, _, _, _, rfl, LD⟩ ?_ ?_⟩
    · rintro j σ H5 hj ⟨w6, w8, w9, S, vs, rfl, I⟩
      dsimp only [gName]
      have ti5 : Tup H5 i ds := I.old _ _ ti (tup_ne f0 ti)
      have to5 : Tup H5 o es := I.old _ _ to (tup_ne f0 to)
      refine ⟨_, rfl, _, rfl, i, _, rfl, .inr (SqT.of ti5), a, _, rfl, I.fl, by omega, small200 (by omega), fun d1 H6 d10 d11 f6 b6 => ?_⟩
      have I6 := I.but Z b6 f6
      have to6 : Tup H6 o es := I6.old _ _ to (tup_ne f0 to)
      refine ⟨_, rfl, _, rfl, o, _, rfl, .inr (SqT.of to6), a, _, rfl, f6, by omega, small200 (by omega), fun d2 H7 d20 d21 f7 b7 => ?_⟩
      have I7 := I6.but Z b7 f7
      refine ⟨(by show 2 ≤ sizeLine; decide), fun t ht => ?_⟩
      have s8 := Com.Same.upd (o := .tup [V.int d1, V.int d2]) ht
      have h8 := upd_same (H := H7) (a := t) (o := .tup [V.int d1, V.int d2])
      generalize upd H7 t (.tup [V.int d1, V.int d2]) = H8 at s8 h8 ⊢
      have I8 := I7.same s8
      dsimp only [gName]
      refine at_st (σ' := [some (.ref a), some (.ref i), some (.ref o), some (.int (nm : Nat)), some (.int many), some (.ref A), w6, some (.ref L0), some (.int (0 + (j : Nat))), some (.ref t), none]) rfl ?_
      refine ⟨_, rfl, _, rfl, a, _, rfl, I8.fl, by omega, small200 (by omega), fun k H9 k0 kn f9 b9 => ?_⟩
      have I9 := I8.but Z b9 f9
      have h9 : H9 t = some (.tup [V.int d1, V.int d2]) := by rw [b9 t (tup_ne I8.fl h8)]; exact h8
      dsimp only [gName]
      refine at_st (σ' := [some (.ref a), some (.ref i), some (.ref o), some (.int (nm : Nat)), some (.int many), some (.ref A), some (.int k), some (.ref L0), some (.int (0 + (j : Nat))), some (.ref t), none]) rfl ?_
      clear b9 f9 h8 s8 ht b7 f7 b6 f6 I6 I7 I8 to6 ti5 to5
      obtain ⟨n1, rfl⟩ := Int.eq_ofNat_of_zero_le d10
      obtain ⟨n2, rfl⟩ := Int.eq_ofNat_of_zero_le d20
      obtain ⟨kk, rfl⟩ := Int.eq_ofNat_of_zero_le k0
      have l1 := left_len ds (fs S)
      have l2 := left_len es (sn S)
      obtain ⟨x1, hx1⟩ : ∃ x1, (left ds (fs S))[n1]? = some x1 := ⟨_, List.getElem?_eq_getElem (by omega)⟩
      obtain ⟨x2, hx2⟩ : ∃ x2, (left es (sn S))[n2]? = some x2 := ⟨_, List.getElem?_eq_getElem (by omega)⟩
      have lm := I9.ok.len
      obtain ⟨L, hL⟩ : ∃ L, S[kk]? = some L := ⟨_, List.getElem?_eq_getElem (by omega)⟩
      obtain ⟨v, hv, b, us, rfl, hb, hP, nb⟩ := paired_get' I9.hS hL
      have lL := (I9.ok.ld L (List.mem_of_getElem? hL)).len
      have hin : InP ds.length es.length ((n1 : Int), (n2 : Int)) := ⟨by omega, by show (n1 : Int) < _; omega, by show (0 : Int) ≤ (n2 : Int); omega, by show (n2 : Int) < _; omega⟩
      refine ⟨_, rfl, L0, _, 0, _, rfl, rfl, SqL.of I9.hL, rfl, _, rfl, t, _, 0, _, rfl, rfl, SqT.of h9, rfl, I0, _, _, _, rfl, rfl, SqL.of I9.h0, atI_at rfl hx1, _, _, rfl, rfl, _, rfl, ?_⟩
      refine ifB (fun c1 => ?_) (fun c1 => ⟨_, _, _, S, vs, rfl, I9⟩)
      refine ⟨_, rfl, L0, _, 1, _, rfl, rfl, SqL.of I9.hL, rfl, _, rfl, t, _, 1, _, rfl, rfl, SqT.of h9, rfl, I1, _, _, _, rfl, rfl, SqL.of I9.h1, atI_at rfl hx2, _, _, rfl, rfl, _, rfl, ?_⟩
      refine ifB (fun c2 => ?_) (fun c2 => ⟨_, _, _, S, vs, rfl, I9⟩)
      refine ⟨_, rfl, _, rfl, A, _, _, .ref b, rfl, rfl, SqL.of I9.hA, atI_nat hv, _, rfl, .ref b, .ref t, L, ((n1 : Int), (n2 : Int)), rfl, ⟨b, us, rfl, .inl hb, hP⟩, by omega, ⟨t, rfl, h9⟩, fun H10 s10 => ⟨_, rfl, ?_⟩⟩
      have I10 := I9.same s10
      have hb10 := s10 _ _ hb
      have hP10 := PairsV.same s10 hP
      have h10 := s10 _ _ h9
      clear I9 hb hP h9 s10
      refine ifB (fun c3 => ?_) (fun c3 => ⟨_, _, _, S, vs, rfl, I10⟩)
      refine ⟨_, rfl, _, rfl, A, _, _, .ref b, rfl, rfl, SqL.of I10.hA, atI_nat hv, _, rfl, (by show 1 ≤ sizeLine; decide), fun l hl => ?_⟩
      have s11 := Com.Same.upd (o := .lst [V.ref t]) hl
      have h11 := upd_same (H := H10) (a := l) (o := .lst [V.ref t])
      generalize upd H10 l (.lst [V.ref t]) = H11 at s11 h11 ⊢
      have ul := Paired.length hP10
      refine ⟨b, l, us, [.ref t], rfl, rfl, s11 _ _ hb10, h11, len1 (by rw [List.length_singleton]; omega), fun c hc => ?_⟩
      have s12 := s11.trans (Com.Same.upd (o := .lst (us ++ [V.ref t])) hc)
      have h12 := upd_same (H := H11) (a := c) (o := .lst (us ++ [V.ref t]))
      generalize upd H11 c (.lst (us ++ [V.ref t])) = H12 at s12 h12 ⊢
      refine ⟨c, _, L ++ [((n1 : Int), (n2 : Int))], rfl, SqL.of h12, Paired.snoc (PairsV.same s12 hP10) ⟨t, rfl, s12 _ _ h10⟩, fun ws q1 hws hq1 => ?_⟩
      have I12 := I10.same s12
      have s13 := Com.Same.upd (o := .lst ws) hq1
      have h13 := upd_same (H := H12) (a := q1) (o := .lst ws)
      have nq : q1 ≠ a ∧ q1 ≠ A ∧ q1 ≠ L0 ∧ q1 ≠ I0 ∧ q1 ≠ I1 := ⟨FlowAt.ne I12.fl hq1, (ne_of_none I12.hA hq1).symm, (ne_of_none I12.hL hq1).symm, (ne_of_none I12.h0 hq1).symm, (ne_of_none I12.h1 hq1).symm⟩
      have hws13 := PairsV.same s13 hws
      have I13 := I12.same s13
      have ht13 := s13 _ _ (s12 _ _ h10)
      generalize upd H12 q1 (.lst ws) = H13 at s13 h13 hws13 I13 ht13 ⊢
      clear I12 I10 hws hq1 s13 h12 s12 h11 s11 hl hc hP10 hb10 h10
      have hkl : ixN vs.length (kk : Int) = some kk := by
        have := (List.getElem?_eq_some_iff.mp hv).1
        unfold ixN
        rw [if_pos (by omega), if_pos (by omega)]
        simp
      refine ⟨_, rfl, _, rfl, A, vs, (kk : Int), kk, rfl, rfl, I13.hA, hkl, ?_⟩
      have tA : upd H13 A (.lst (vs.set kk (.ref q1))) t = some (.tup [V.int n1, V.int n2]) := by
        rw [upd_ne (fun z => by rw [z, I13.hA] at ht13; cases ht13)]
        exact ht13
      refine ⟨_, rfl, L0, _, 0, _, rfl, rfl, SqL.of (by rw [upd_ne Z.AL.symm]; exact I13.hL), rfl, _, rfl, t, _, 0, _, rfl, rfl, SqT.of tA, rfl, I0, _, _, .int x1, rfl, rfl, SqL.of (by rw [upd_ne Z.A0.symm]; exact I13.h0), atI_at rfl hx1, _, _, rfl, rfl, I0, _, _, n1, rfl, rfl, (by rw [upd_ne Z.A0.symm]; exact I13.h0), ixN_at rfl hx1, ?_⟩
      rw [set_int]
      have tB : upd (upd H13 A (.lst (vs.set kk (.ref q1)))) I0 (.lst (((left ds (fs S)).set n1 (x1 - 1)).map V.int)) t = some (.tup [V.int n1, V.int n2]) := by
        rw [upd_ne (fun z => by rw [z, I13.h0] at ht13; cases ht13)]
        exact tA
      have hLB : upd (upd H13 A (.lst (vs.set kk (.ref q1)))) I0 (.lst (((left ds (fs S)).set n1 (x1 - 1)).map V.int)) L0 = some (.lst [.ref I0, .ref I1]) := by
        rw [upd_ne Z.L0', upd_ne Z.AL.symm]
        exact I13.hL
      have h1B : upd (upd H13 A (.lst (vs.set kk (.ref q1)))) I0 (.lst (((left ds (fs S)).set n1 (x1 - 1)).map V.int)) I1 = some (.lst ((left es (sn S)).map V.int)) := by
        rw [upd_ne Z.I01.symm, upd_ne Z.A1.symm]
        exact I13.h1
      refine ⟨_, rfl, L0, _, 1, _, rfl, rfl, SqL.of hLB, rfl, _, rfl, t, _, 1, _, rfl, rfl, SqT.of tB, rfl, I1, _, _, .int x2, rfl, rfl, SqL.of h1B, atI_at rfl hx2, _, _, rfl, rfl, I1, _, _, n2, rfl, rfl, h1B, ixN_at rfl hx2, ?_⟩
      rw [set_int]
      exact ⟨_, _, _, _, _, rfl, I13.put Z hL hin c3 hx1 (of_decide_eq_true c1) hx2 (of_decide_eq_true c2) h13 hws13 nq⟩
    · rintro σ H5 ⟨w6, w8, w9, S, vs, rfl, I⟩
      have vl := Paired.length I.hS
      have sl := I.ok.len
      refine ⟨_, rfl, A, rfl, ⟨_, SqL.of I.hA⟩, fun D hD => lp_list (K := K) (xs := vs) (fun k H' => ∃ ws, H' D = some (.lst ws) ∧ LoadsV H' ws (S.take k) ∧ Same H5 H') ⟨[], upd_same, by rw [List.take_zero]; exact .nil, Com.Same.upd hD⟩ (fun k H' _ p => SqL.of (p.choose_spec.2.2 _ _ I.hA)) ?_ ?_⟩
      · rintro k y H' hk ⟨ws, h1, h2, h3⟩
        obtain ⟨L, hL, b, us, rfl, hb, hP, _⟩ := StV.paired_get I.hS hk
        have hkl := (List.getElem?_eq_some_iff.mp hk).1
        have wl := Paired.length h2
        rw [List.length_take] at wl
        refine ⟨rfl, _, rfl, b, us, rfl, .inl ⟨SqL.of (h3 _ _ hb), fun t2 ht2 => ?_⟩⟩
        have nt : D ≠ t2 := ne_of_none h1 ht2
        refine ⟨ws, by rw [upd_ne nt]; exact h1, small1000 (by omega), ws ++ [.ref t2], upd_same, ?_, Same.grow hD (h3.trans (Com.Same.upd ht2))⟩
        have ts : TupS H' (upd (upd H' t2 (.tup us)) D (.lst (ws ++ [V.ref t2]))) := (TupS.new ht2).trans (TupS.lset (by rw [upd_ne nt]; exact h1))
        rw [List.take_add_one, hL]
        refine Paired.snoc (LoadsV.tupS ts h2) ⟨t2, us, rfl, ?_, PairsV.mono ts (PairsV.same h3 hP)⟩
        rw [upd_ne nt.symm, upd_same]
      · rintro H6 ⟨ws, h1, h2, h3⟩
        rw [List.take_of_length_le (by omega)] at h2
        refine ⟨D, ws, rfl, .inl ⟨SqL.of h1, fun t2 ht2 => ?_⟩⟩
        have s7 := Com.Same.upd (o := .tup ws) ht2
        refine q _ S _ ⟨t2, ws, rfl, upd_same, LoadsV.same s7 h2⟩ I.ok (FlowAt.same I.fl (h3.trans s7)) (Old.trans I.old (same_old (h3.trans s7)))
end
end K27o
set_option Elab.async false
set_option linter.all false
set_option maxRecDepth 100000
set_option maxHeartbeats 4000000
namespace Hz
open PySem PySem.Spec PyProof.Rows L2 He
section
variable {K : PySem.W.Frag} {h : Heap} {mg : Str → Option Value} {C f : Addr}
abbrev FnC : Type := Option (Str × Str × Arguments × FuncBody × Scope × Addr × List Str × Addr)
def fnC (K : PySem.W.Frag) (f : Addr) : FnC := match K.lookup f with
  | some ⟨_, _, .func fd, _⟩ => some (fd.name, fd.qualname, fd.params, fd.body, fd.scope, fd.globals, fd.closure.map (·.1), fd.builtins)
  | _ => none
structure DefC where
  cls : Str
  qual : Str
  st : Stmt
def DefC.val (d : DefC) : FnC := some ("__init__", d.qual, defArgs d.st, .stmts (defBody d.st), defScope d.st, mainGlobals, ["__class__"], builtinsNs)
def eiA (K : PySem.W.Frag) (x : Str) : Addr := ma K (ga K x) "__init__"
theorem raw {x q : Str} {a : Arguments} {b : List Stmt} {s : Scope} (F : ∃ fd, FunD K x q a b s [] [] f fd) : ∃ oc od osl kV doc pm an cdv ct, K.lookup f = some ⟨oc, od, .func (PySem.W.fnOf x q a b s .none kV doc pm an cdv ct), osl⟩ ∧ PySem.W.codeIn K cdv q = true ∧ PySem.W.keepIn K (.ref f) = true := by
  obtain ⟨fd, ⟨oc, od, dV, kV, doc, pm, an, cdv, ct, osl, rfl, hl, hc, hd, _⟩, hk⟩ := F
  rcases hd with ⟨_, rfl⟩ | ⟨h, _⟩
  · exact ⟨oc, od, osl, kV, doc, pm, an, cdv, ct, hl, hc, hk⟩
  · exact absurd rfl h
theorem raw1 {x q : Str} {a : Arguments} {b : List Stmt} {s : Scope} {i : Int} (F : ∃ fd, FunD K x q a b s [.int i] [] f fd) : ∃ oc od osl kV doc pm an cdv ct T ocT odT tk nT slT, K.lookup f = some ⟨oc, od, .func (PySem.W.fnOf x q a b s (.ref T) kV doc pm an cdv ct), osl⟩ ∧ PySem.W.codeIn K cdv q = true ∧ PySem.W.keepIn K (.ref f) = true ∧ K.lookup T = some ⟨ocT, odT, .seq #[.int i tk] nT, slT⟩ := by
  obtain ⟨fd, ⟨oc, od, dV, kV, doc, pm, an, cdv, ct, osl, rfl, hl, hc, hd, _⟩, hk⟩ := F
  rcases hd with ⟨h, _⟩ | ⟨_, T, o, its, n, rfl, ht, ho, hv⟩
  · cases h
  · obtain ⟨c, d, dt, sl⟩ := o
    dsimp only at ho
    subst ho
    cases hv with
    | cons h1 h2 =>
      cases h2
      obtain ⟨t, rfl⟩ := h1
      exact ⟨oc, od, osl, kV, doc, pm, an, cdv, ct, T, c, d, t, n, sl, hl, hc, hk, ht⟩
theorem int_raw {x : Str} {i : Int} (c : (Fa.int x i).ok K = true) : ∃ t, PySem.W.nsIn K mainGlobals x = some (some (.int i t)) := by
  have c2 : (match PySem.W.nsIn K mainGlobals x with
    | some (some (.int j _)) => decide (j = i)
    | _ => false) = true := c
  split at c2
  · rename_i j t e
    rw [of_decide_eq_true c2] at e
    exact ⟨t, e⟩
  · cases c2
def wdB (K : PySem.W.Frag) (C : Addr) (x : Str) (vs : List V) : Bool := match PySem.W.findCls K (.ref C) (.type "type") x with
  | some (.val (.ref a)) => (match K.lookup a with
    | some ⟨.type c, _, .seq its _, _⟩ => decide (c = "tuple") && (decide (its.size ≤ sizeLine) && relAll vs its.toList)
    | _ => false)
  | _ => false
theorem wdB_ok {x : Str} {vs : List V} (r : ClX.CRead K C (.type "type")) (h : wdB K C x vs = true) : ∃ mc v u p, ClX.CRead K C mc ∧ ClX.CVal K C mc x v u ∧ v = .ref p ∧ ∀ H, SqT K H p vs := by
  unfold wdB at h
  split at h
  · rename_i a e
    split at h
    · rename_i c od its n sl q
      obtain ⟨h1, h2⟩ := ba h
      obtain ⟨h3, h4⟩ := ba h2
      exact ⟨_, .ref a, .ref a, a, r, ⟨e, rfl⟩, rfl, fun H => .inr ⟨_, its, n, q, congrArg Value.type (of_decide_eq_true h1), rfl, of_decide_eq_true h3, relAll_ok h4⟩⟩
    · cases h
  · cases h
end
abbrev AlZ : Type := AlX × List FnC
def obsK (fa : List Fa) (fn : List DefD) (ts : List Tab) (tf : List Defn) (ex : PySem.W.Frag → Bool) (xs : List DefC) (g : Addr → Option Obj) (K : PySem.W.Frag) : AlZ := ((obsT fa fn ts K, ex K && tabsB g tf K), xs.map fun x => fnC K (eiA K x.cls))
def valZ (fn : List DefD) (ts : List Tab) (xs : List DefC) (w : World) : AlZ := (valX fn ts w, xs.map DefC.val)
structure SaysZ (fa : List Fa) (fn : List DefD) (ts : List Tab) (tf : List Defn) (ex : PySem.W.Frag → Bool) (xs : List DefC) (w : World) (h : Heap) (K : PySem.W.Frag) : Prop where
  x : SaysX fa fn ts tf ex w h K
  c : xs.map (fun x => fnC K (eiA K x.cls)) = xs.map DefC.val
theorem saysZ_of {fa : List Fa} {fn : List DefD} {ts : List Tab} {tf : List Defn} {ex : PySem.W.Frag → Bool} {xs : List DefC} {w : World} {h : Heap} {as : List Addr} (e : obsK fa fn ts tf ex xs h.get? (frT h.get? as) = valZ fn ts xs w) : SaysZ fa fn ts tf ex xs w h (frT h.get? as) := by
  have e1 : obsT fa fn ts (frT h.get? as) = valT fn ts w := congrArg (fun z : AlZ => z.1.1) e
  have e2 : (ex (frT h.get? as) && tabsB h.get? tf (frT h.get? as)) = true := congrArg (fun z : AlZ => z.1.2) e
  obtain ⟨h1, h2⟩ := ba e2
  have key : ∀ p ∈ tf, PySem.W.codeHdIn (frT h.get? as) (cT (frT h.get? as) p).1 (cT (frT h.get? as) p).2 = true ∧ ∃ o, h.get? (cT (frT h.get? as) p).2 = some o ∧ emptyTab o = true := fun p hp => by
    obtain ⟨h3, h4⟩ := ba (List.all_eq_true.mp h2 p hp)
    refine ⟨h3, ?_⟩
    cases q : h.get? (cT (frT h.get? as) p).2 with
    | none =>
      rw [q] at h4
      cases h4
    | some o =>
      rw [q] at h4
      exact ⟨o, rfl, h4⟩
  exact ⟨⟨e1, h1, fun p hp => (key p hp).1, fun p hp => by
    obtain ⟨_, o, q, z⟩ := key p hp
    exact frT_none q z, fun p hp => by
    obtain ⟨_, o, q, z⟩ := key p hp
    rw [q, emptyTab_eq z]⟩, congrArg (fun z : AlZ => z.2) e⟩
def obsA (as : List Addr) (fa : List Fa) (fn : List DefD) (ts : List Tab) (tf : List Defn) (ex : PySem.W.Frag → Bool) (xs : List DefC) (g : Addr → Option Obj) : AlZ := obsK fa fn ts tf ex xs g (frT g as)
def hookA (as : List Addr) (fa : List Fa) (fn : List DefD) (ts : List Tab) (tf : List Defn) (ex : PySem.W.Frag → Bool) (xs : List DefC) : PySem.W.Hook where
  α := AlZ
  obs := fun s => obsA as fa fn ts tf ex xs s.heap.get?
  val := fun w => valZ fn ts xs w
  says := fun w h => ∃ K : PySem.W.Frag, K.In h ∧ SaysZ fa fn ts tf ex xs w h K
  of := fun _ _ e => ⟨_, frT_in, saysZ_of e⟩
  keeps := fun _ _ _ ⟨K, hK, c⟩ k => ⟨K, PySem.W.Frag.In.keeps hK k, ⟨⟨c.x.t, c.x.more, c.x.hd, c.x.out, fun p hp => k _ _ (c.x.empty p hp)⟩, c.c⟩⟩
theorem obsA_eq {as : List Addr} {fa : List Fa} {fn : List DefD} {ts : List Tab} {tf : List Defn} {ex : PySem.W.Frag → Bool} {xs : List DefC} {g : Addr → Option Obj} {s : Shared} (h : ∀ a, g a = s.heap.get? a) : obsA as fa fn ts tf ex xs g = (hookA as fa fn ts tf ex xs).obs s := by
  have e : g = s.heap.get? := funext h
  rw [e] <;> rfl
section
variable {fa : List Fa} {fn : List DefD} {ts : List Tab} {tf : List Defn} {exs : List (PySem.W.Frag → Bool)} {xs : List DefC} {w : World} {h : Heap} {K : PySem.W.Frag}
theorem SaysZ.fact (c : SaysZ fa fn ts tf (fun K => exs.all fun t => t K) xs w h K) (i : Nat) {f : Fa} (hi : fa[i]? = some f := by rfl) : f.ok K = true := (SaysT.d c.x.t).fact i hi
theorem SaysZ.def_ (c : SaysZ fa fn ts tf (fun K => exs.all fun t => t K) xs w h K) (i : Nat) {d : DefD} (hi : fn[i]? = some d := by rfl) : ∃ fd, FunD K d.name d.qual d.params d.body d.scope (d.dvs K) (d.kws K) (fAd K d.at_) fd := (SaysT.d c.x.t).def_ i hi
theorem SaysZ.ex (c : SaysZ fa fn ts tf (fun K => exs.all fun t => t K) xs w h K) (i : Nat) {t : PySem.W.Frag → Bool} (hi : exs[i]? = some t := by rfl) : t K = true := List.all_eq_true.mp c.x.more t (List.mem_of_getElem? hi)
end
end Hz
set_option Elab.async false
set_option linter.all false
set_option maxRecDepth 100000
set_option maxHeartbeats 4000000
namespace K27
open PySem PySem.Spec PyProof.Rows L2 Com Sd StV Gn Ext Dt
theorem sh_newd {P : Program} {w : World} {K : PySem.W.Frag} {mg : Str → Option Value} {base : Heap} {C2 : Addr} {f : Addr} {fd : FuncData} {tk : Tok} (G : FnOk P w K mg base CX0 2 f fd ["self", "top", "bottom"] (K27o.Shr.spInit C2)) (b : Binds K fd ["self", "top", "bottom"] [.int 1 tk]) (mk : Mk K C2 f) (hm : mg "Share" = some (.ref C2)) : NewOk P w K mg base CX0 2 "Share" C2 (spSh1 C2) :=
  ⟨⟨f, (G.raw (dvs := [.int 1]) b (.cons ⟨tk, rfl⟩ .nil)).imp fun vs H Q E ⟨p, dx, i, e, hp, q⟩ => ⟨p, dx, i, 1, by rw [e]; rfl, hp, by decide, B.of (k := 1) (by decide) (Nat.one_lt_two_pow (by decide)), fun H' ⟨dx', e'⟩ old => q H' dx' _ _ e' old⟩, mk⟩, hm⟩
section
variable [Dt.Tb]
/-- the law's promise, its table told -/
def spLawT (Pt : Addr) (K : PySem.W.Frag) : Sp := fun vs H Q _ => ∃ (a : Addr) (ns : List Int), vs = [.ref a] ∧ SqL K H a (ns.map V.int) ∧ ns.length ≤ 63 ∧ H Pt = some (.tbl #[]) ∧ ∀ H', Q (.bl true) H'
theorem law_d {K : PySem.W.Frag} {Pt : Addr} {qn : Str} (hT : Dt.Tb.T = [(Pt, qn)]) {vs : List V} {H : Hp} {Q : VK} {E : XK} (h : spLawT Pt K vs H Q E) : spOf (sdLaw K) vs H Q E := by
  obtain ⟨a, ns, rfl, hS, hl, hP, q⟩ := h
  have hF : ∀ b o, (if b = Pt then none else H b) = some o → H b = some o := fun b o e => by
    by_cases z : b = Pt
    · rw [if_pos z] at e; cases e
    · rw [if_neg z] at e; exact e
  have hS' : SqL K (fun b => if b = Pt then none else H b) a (ns.map V.int) := by
    by_cases z : a = Pt
    · rcases hS with r | r
      · rcases r with r | ⟨_, r⟩ <;> (rw [z, hP] at r; cases r)
      · exact .inr r
    · rcases hS with r | r
      · refine .inl ?_
        rcases r with r | ⟨o, r⟩
        · exact .inl ((if_neg z).trans r)
        · exact .inr ⟨o, (if_neg z).trans r⟩
      · exact .inr r
  refine ⟨⟨fun b => if b = Pt then none else H b, fun b => b = Pt, [(Pt, qn)]⟩, [.scr K ns], fun d => d = .bl true, fun _ _ _ => False, ⟨hF, fun b e => ⟨if_pos e, .inr ⟨qn, by rw [e]; simp, #[], by rw [e]; exact hP, by trivial, fun pos cv z => ?_⟩⟩, hT.symm, fun p hp => by rw [List.mem_singleton.mp hp]⟩, .one (.scr fun H' e => sqlS hS' e), ⟨ns, rfl, hl, rfl⟩, fun W' v d H' _ hv hd => by subst hd; cases hv; exact q H', fun _ _ _ _ _ _ _ _ _ _ h => h.elim⟩
  cases z
end
theorem kN_of {K : PySem.W.Frag} {C : Addr} (h1 : PySem.W.subIn K (.ref C) (.type "int") = some false) (h2 : PySem.W.subIn K (.ref C) (.type "bool") = some false) (h3 : PySem.W.subIn K (.ref C) (.type "tuple") = some false) (h4 : PySem.W.subIn K (.ref C) (.type "list") = some false) (h5 : PySem.W.subIn K (.ref C) (.type "str") = some false) (h6 : PySem.W.subIn K (.ref C) (.type "dict") = some false) :
    ∀ n ∈ (["int", "bool", "tuple", "list", "str", "dict"] : List String), PySem.W.kitOne K (.ref C) (.type n) = some false := fun n hn => by
  have h : n = "int" ∨ n = "bool" ∨ n = "tuple" ∨ n = "list" ∨ n = "str" ∨ n = "dict" := by simpa using hn
  rcases h with rfl | rfl | rfl | rfl | rfl | rfl
  · exact kit_type (by decide +kernel) h1 rfl
  · exact kit_type (by decide +kernel) h2 rfl
  · exact kit_type (by decide +kernel) h3 rfl
  · exact kit_type (by decide +kernel) h4 rfl
  · exact kit_type (by decide +kernel) h5 rfl
  · exact kit_type (by decide +kernel) h6 rfl
open Et (SpU spU)
open K27o (s_is_side s_flow s_pick s_Exchange___init s_loads s_free)
theorem all_mk {P : Program} {w : World} {K : PySem.W.Frag} {h : Heap} {mg : Str → Option Value} {fa : Addr} (X : K.In h) (G : h.Ns mainGlobals mg) (hfa : mg "law" = some (.ref fa))
    {C_Exchange : Addr}
    {C_Share : Addr}
    {C_Rule : Addr}
    {f_is_plain_int : Addr} {od_is_plain_int an_is_plain_int : Option Addr} {sl_is_plain_int : Array (Option Value)} {oc_is_plain_int kV_is_plain_int dc_is_plain_int pm_is_plain_int cd_is_plain_int ct_is_plain_int : Value}
    {f_is_int_within : Addr} {od_is_int_within an_is_int_within : Option Addr} {sl_is_int_within : Array (Option Value)} {oc_is_int_within kV_is_int_within dc_is_int_within pm_is_int_within cd_is_int_within ct_is_int_within : Value}
    {f_is_pair : Addr} {od_is_pair an_is_pair : Option Addr} {sl_is_pair : Array (Option Value)} {oc_is_pair kV_is_pair dc_is_pair pm_is_pair cd_is_pair ct_is_pair : Value}
    {f_is_load : Addr} {od_is_load an_is_load : Option Addr} {sl_is_load : Array (Option Value)} {oc_is_load kV_is_load dc_is_load pm_is_load cd_is_load ct_is_load : Value}
    {f_is_side : Addr} {od_is_side an_is_side : Option Addr} {sl_is_side : Array (Option Value)} {oc_is_side kV_is_side dc_is_side pm_is_side cd_is_side ct_is_side : Value}
    {f_is_free : Addr} {od_is_free an_is_free : Option Addr} {sl_is_free : Array (Option Value)} {oc_is_free kV_is_free dc_is_free pm_is_free cd_is_free ct_is_free : Value}
    {f_with_pair : Addr} {od_with_pair an_with_pair : Option Addr} {sl_with_pair : Array (Option Value)} {oc_with_pair kV_with_pair dc_with_pair pm_with_pair cd_with_pair ct_with_pair : Value}
    {f_free_for : Addr} {od_free_for an_free_for : Option Addr} {sl_free_for : Array (Option Value)} {oc_free_for kV_free_for dc_free_for pm_free_for cd_free_for ct_free_for : Value}
    {f_doors_left : Addr} {od_doors_left an_doors_left : Option Addr} {sl_doors_left : Array (Option Value)} {oc_doors_left kV_doors_left dc_doors_left pm_doors_left cd_doors_left ct_doors_left : Value}
    {f_open_pairs : Addr} {od_open_pairs an_open_pairs : Option Addr} {sl_open_pairs : Array (Option Value)} {oc_open_pairs kV_open_pairs dc_open_pairs pm_open_pairs cd_open_pairs ct_open_pairs : Value}
    {f_placed : Addr} {od_placed an_placed : Option Addr} {sl_placed : Array (Option Value)} {oc_placed kV_placed dc_placed pm_placed cd_placed ct_placed : Value}
    {f_is_standing : Addr} {od_is_standing an_is_standing : Option Addr} {sl_is_standing : Array (Option Value)} {oc_is_standing kV_is_standing dc_is_standing pm_is_standing cd_is_standing ct_is_standing : Value}
    {f_empty : Addr} {od_empty an_empty : Option Addr} {sl_empty : Array (Option Value)} {oc_empty kV_empty dc_empty pm_empty cd_empty ct_empty : Value}
    {f_is_word : Addr} {od_is_word an_is_word : Option Addr} {sl_is_word : Array (Option Value)} {oc_is_word kV_is_word dc_is_word pm_is_word cd_is_word ct_is_word : Value}
    {f_pick_by_word : Addr} {od_pick_by_word an_pick_by_word : Option Addr} {sl_pick_by_word : Array (Option Value)} {oc_pick_by_word kV_pick_by_word dc_pick_by_word pm_pick_by_word cd_pick_by_word ct_pick_by_word : Value}
    {f_safe_fault : Addr} {od_safe_fault an_safe_fault : Option Addr} {sl_safe_fault : Array (Option Value)} {oc_safe_fault kV_safe_fault dc_safe_fault pm_safe_fault cd_safe_fault ct_safe_fault : Value}
    {f_call_fault : Addr} {od_call_fault an_call_fault : Option Addr} {sl_call_fault : Array (Option Value)} {oc_call_fault kV_call_fault dc_call_fault pm_call_fault cd_call_fault ct_call_fault : Value}
    {f_flow : Addr} {od_flow an_flow : Option Addr} {sl_flow : Array (Option Value)} {oc_flow kV_flow dc_flow pm_flow cd_flow ct_flow : Value}
    {f_pick : Addr} {od_pick an_pick : Option Addr} {sl_pick : Array (Option Value)} {oc_pick kV_pick dc_pick pm_pick cd_pick ct_pick : Value}
    {f_doors : Addr} {od_doors an_doors : Option Addr} {sl_doors : Array (Option Value)} {oc_doors kV_doors dc_doors pm_doors cd_doors ct_doors : Value}
    {f_free : Addr} {od_free an_free : Option Addr} {sl_free : Array (Option Value)} {oc_free kV_free dc_free pm_free cd_free ct_free : Value}
    {f_loads : Addr} {od_loads an_loads : Option Addr} {sl_loads : Array (Option Value)} {oc_loads kV_loads dc_loads pm_loads cd_loads ct_loads : Value}
    {f_exchange : Addr} {od_exchange an_exchange : Option Addr} {sl_exchange : Array (Option Value)} {oc_exchange kV_exchange dc_exchange pm_exchange cd_exchange ct_exchange : Value}
    {f_wrong : Addr} {od_wrong an_wrong : Option Addr} {sl_wrong : Array (Option Value)} {oc_wrong kV_wrong dc_wrong pm_wrong cd_wrong ct_wrong : Value}
    {f_law : Addr} {od_law an_law : Option Addr} {sl_law : Array (Option Value)} {oc_law kV_law dc_law pm_law cd_law ct_law : Value}
    {f_Exchange_init : Addr} {od_Exchange_init an_Exchange_init : Option Addr} {sl_Exchange_init : Array (Option Value)} {oc_Exchange_init kV_Exchange_init dc_Exchange_init pm_Exchange_init cd_Exchange_init ct_Exchange_init : Value}
    {f_Exchange_pairs : Addr} {od_Exchange_pairs an_Exchange_pairs : Option Addr} {sl_Exchange_pairs : Array (Option Value)} {oc_Exchange_pairs kV_Exchange_pairs dc_Exchange_pairs pm_Exchange_pairs cd_Exchange_pairs ct_Exchange_pairs : Value}
    {f_Rule_init : Addr} {od_Rule_init an_Rule_init : Option Addr} {sl_Rule_init : Array (Option Value)} {oc_Rule_init kV_Rule_init dc_Rule_init pm_Rule_init cd_Rule_init ct_Rule_init : Value}
    {f_Rule_pick : Addr} {od_Rule_pick an_Rule_pick : Option Addr} {sl_Rule_pick : Array (Option Value)} {oc_Rule_pick kV_Rule_pick dc_Rule_pick pm_Rule_pick cd_Rule_pick ct_Rule_pick : Value}
    {f_i T_i : Addr} {od_i an_i odT : Option Addr} {sl_i slT : Array (Option Value)} {oc_i kV_i dc_i pm_i cd_i ct_i ocT : Value} {tk : Tok} {nTt : Nat}
    {t_MOST_SWITCHES : Tok}
    {t_MOST_DOORS : Tok}
    {t_MOST_MIDDLES : Tok}
    {t_MOST_STANDINGS : Tok}
    (a_Exchange : PySem.W.nsIn K mainGlobals "Exchange" = some (some (.ref C_Exchange)))
    (a_Share : PySem.W.nsIn K mainGlobals "Share" = some (some (.ref C_Share)))
    (a_Rule : PySem.W.nsIn K mainGlobals "Rule" = some (some (.ref C_Rule)))
    (a_is_plain_int : PySem.W.nsIn K mainGlobals "is_plain_int" = some (some (.ref f_is_plain_int)))
    (l_is_plain_int : K.lookup f_is_plain_int = some ⟨oc_is_plain_int, od_is_plain_int, .func (PySem.W.fnOf "is_plain_int" "is_plain_int" (defArgs s_is_plain_int) (defBody s_is_plain_int) (defScope s_is_plain_int) .none kV_is_plain_int dc_is_plain_int pm_is_plain_int an_is_plain_int cd_is_plain_int ct_is_plain_int), sl_is_plain_int⟩)
    (c_is_plain_int : PySem.W.codeIn K cd_is_plain_int "is_plain_int" = true)
    (k_is_plain_int : PySem.W.keepIn K (.ref f_is_plain_int) = true)
    (a_is_int_within : PySem.W.nsIn K mainGlobals "is_int_within" = some (some (.ref f_is_int_within)))
    (l_is_int_within : K.lookup f_is_int_within = some ⟨oc_is_int_within, od_is_int_within, .func (PySem.W.fnOf "is_int_within" "is_int_within" (defArgs s_is_int_within) (defBody s_is_int_within) (defScope s_is_int_within) .none kV_is_int_within dc_is_int_within pm_is_int_within an_is_int_within cd_is_int_within ct_is_int_within), sl_is_int_within⟩)
    (c_is_int_within : PySem.W.codeIn K cd_is_int_within "is_int_within" = true)
    (k_is_int_within : PySem.W.keepIn K (.ref f_is_int_within) = true)
    (a_is_pair : PySem.W.nsIn K mainGlobals "is_pair" = some (some (.ref f_is_pair)))
    (l_is_pair : K.lookup f_is_pair = some ⟨oc_is_pair, od_is_pair, .func (PySem.W.fnOf "is_pair" "is_pair" (defArgs s_is_pair) (defBody s_is_pair) (defScope s_is_pair) .none kV_is_pair dc_is_pair pm_is_pair an_is_pair cd_is_pair ct_is_pair), sl_is_pair⟩)
    (c_is_pair : PySem.W.codeIn K cd_is_pair "is_pair" = true)
    (k_is_pair : PySem.W.keepIn K (.ref f_is_pair) = true)
    (a_is_load : PySem.W.nsIn K mainGlobals "is_load" = some (some (.ref f_is_load)))
    (l_is_load : K.lookup f_is_load = some ⟨oc_is_load, od_is_load, .func (PySem.W.fnOf "is_load" "is_load" (defArgs s_is_load) (defBody s_is_load) (defScope s_is_load) .none kV_is_load dc_is_load pm_is_load an_is_load cd_is_load ct_is_load), sl_is_load⟩)
    (c_is_load : PySem.W.codeIn K cd_is_load "is_load" = true)
    (k_is_load : PySem.W.keepIn K (.ref f_is_load) = true)
    (a_is_side : PySem.W.nsIn K mainGlobals "_is_side" = some (some (.ref f_is_side)))
    (l_is_side : K.lookup f_is_side = some ⟨oc_is_side, od_is_side, .func (PySem.W.fnOf "_is_side" "_is_side" (defArgs s_is_side) (defBody s_is_side) (defScope s_is_side) .none kV_is_side dc_is_side pm_is_side an_is_side cd_is_side ct_is_side), sl_is_side⟩)
    (c_is_side : PySem.W.codeIn K cd_is_side "_is_side" = true)
    (k_is_side : PySem.W.keepIn K (.ref f_is_side) = true)
    (a_is_free : PySem.W.nsIn K mainGlobals "is_free" = some (some (.ref f_is_free)))
    (l_is_free : K.lookup f_is_free = some ⟨oc_is_free, od_is_free, .func (PySem.W.fnOf "is_free" "is_free" (defArgs s_is_free) (defBody s_is_free) (defScope s_is_free) .none kV_is_free dc_is_free pm_is_free an_is_free cd_is_free ct_is_free), sl_is_free⟩)
    (c_is_free : PySem.W.codeIn K cd_is_free "is_free" = true)
    (k_is_free : PySem.W.keepIn K (.ref f_is_free) = true)
    (a_with_pair : PySem.W.nsIn K mainGlobals "with_pair" = some (some (.ref f_with_pair)))
    (l_with_pair : K.lookup f_with_pair = some ⟨oc_with_pair, od_with_pair, .func (PySem.W.fnOf "with_pair" "with_pair" (defArgs s_with_pair) (defBody s_with_pair) (defScope s_with_pair) .none kV_with_pair dc_with_pair pm_with_pair an_with_pair cd_with_pair ct_with_pair), sl_with_pair⟩)
    (c_with_pair : PySem.W.codeIn K cd_with_pair "with_pair" = true)
    (k_with_pair : PySem.W.keepIn K (.ref f_with_pair) = true)
    (a_free_for : PySem.W.nsIn K mainGlobals "free_for" = some (some (.ref f_free_for)))
    (l_free_for : K.lookup f_free_for = some ⟨oc_free_for, od_free_for, .func (PySem.W.fnOf "free_for" "free_for" (defArgs s_free_for) (defBody s_free_for) (defScope s_free_for) .none kV_free_for dc_free_for pm_free_for an_free_for cd_free_for ct_free_for), sl_free_for⟩)
    (c_free_for : PySem.W.codeIn K cd_free_for "free_for" = true)
    (k_free_for : PySem.W.keepIn K (.ref f_free_for) = true)
    (a_doors_left : PySem.W.nsIn K mainGlobals "doors_left" = some (some (.ref f_doors_left)))
    (l_doors_left : K.lookup f_doors_left = some ⟨oc_doors_left, od_doors_left, .func (PySem.W.fnOf "doors_left" "doors_left" (defArgs s_doors_left) (defBody s_doors_left) (defScope s_doors_left) .none kV_doors_left dc_doors_left pm_doors_left an_doors_left cd_doors_left ct_doors_left), sl_doors_left⟩)
    (c_doors_left : PySem.W.codeIn K cd_doors_left "doors_left" = true)
    (k_doors_left : PySem.W.keepIn K (.ref f_doors_left) = true)
    (a_open_pairs : PySem.W.nsIn K mainGlobals "open_pairs" = some (some (.ref f_open_pairs)))
    (l_open_pairs : K.lookup f_open_pairs = some ⟨oc_open_pairs, od_open_pairs, .func (PySem.W.fnOf "open_pairs" "open_pairs" (defArgs s_open_pairs) (defBody s_open_pairs) (defScope s_open_pairs) .none kV_open_pairs dc_open_pairs pm_open_pairs an_open_pairs cd_open_pairs ct_open_pairs), sl_open_pairs⟩)
    (c_open_pairs : PySem.W.codeIn K cd_open_pairs "open_pairs" = true)
    (k_open_pairs : PySem.W.keepIn K (.ref f_open_pairs) = true)
    (a_placed : PySem.W.nsIn K mainGlobals "placed" = some (some (.ref f_placed)))
    (l_placed : K.lookup f_placed = some ⟨oc_placed, od_placed, .func (PySem.W.fnOf "placed" "placed" (defArgs s_placed) (defBody s_placed) (defScope s_placed) .none kV_placed dc_placed pm_placed an_placed cd_placed ct_placed), sl_placed⟩)
    (c_placed : PySem.W.codeIn K cd_placed "placed" = true)
    (k_placed : PySem.W.keepIn K (.ref f_placed) = true)
    (a_is_standing : PySem.W.nsIn K mainGlobals "is_standing" = some (some (.ref f_is_standing)))
    (l_is_standing : K.lookup f_is_standing = some ⟨oc_is_standing, od_is_standing, .func (PySem.W.fnOf "is_standing" "is_standing" (defArgs s_is_standing) (defBody s_is_standing) (defScope s_is_standing) .none kV_is_standing dc_is_standing pm_is_standing an_is_standing cd_is_standing ct_is_standing), sl_is_standing⟩)
    (c_is_standing : PySem.W.codeIn K cd_is_standing "is_standing" = true)
    (k_is_standing : PySem.W.keepIn K (.ref f_is_standing) = true)
    (a_empty : PySem.W.nsIn K mainGlobals "empty" = some (some (.ref f_empty)))
    (l_empty : K.lookup f_empty = some ⟨oc_empty, od_empty, .func (PySem.W.fnOf "empty" "empty" (defArgs s_empty) (defBody s_empty) (defScope s_empty) .none kV_empty dc_empty pm_empty an_empty cd_empty ct_empty), sl_empty⟩)
    (c_empty : PySem.W.codeIn K cd_empty "empty" = true)
    (k_empty : PySem.W.keepIn K (.ref f_empty) = true)
    (a_is_word : PySem.W.nsIn K mainGlobals "is_word" = some (some (.ref f_is_word)))
    (l_is_word : K.lookup f_is_word = some ⟨oc_is_word, od_is_word, .func (PySem.W.fnOf "is_word" "is_word" (defArgs s_is_word) (defBody s_is_word) (defScope s_is_word) .none kV_is_word dc_is_word pm_is_word an_is_word cd_is_word ct_is_word), sl_is_word⟩)
    (c_is_word : PySem.W.codeIn K cd_is_word "is_word" = true)
    (k_is_word : PySem.W.keepIn K (.ref f_is_word) = true)
    (a_pick_by_word : PySem.W.nsIn K mainGlobals "_pick_by_word" = some (some (.ref f_pick_by_word)))
    (l_pick_by_word : K.lookup f_pick_by_word = some ⟨oc_pick_by_word, od_pick_by_word, .func (PySem.W.fnOf "_pick_by_word" "_pick_by_word" (defArgs s_pick_by_word) (defBody s_pick_by_word) (defScope s_pick_by_word) .none kV_pick_by_word dc_pick_by_word pm_pick_by_word an_pick_by_word cd_pick_by_word ct_pick_by_word), sl_pick_by_word⟩)
    (c_pick_by_word : PySem.W.codeIn K cd_pick_by_word "_pick_by_word" = true)
    (k_pick_by_word : PySem.W.keepIn K (.ref f_pick_by_word) = true)
    (a_safe_fault : PySem.W.nsIn K mainGlobals "safe_fault" = some (some (.ref f_safe_fault)))
    (l_safe_fault : K.lookup f_safe_fault = some ⟨oc_safe_fault, od_safe_fault, .func (PySem.W.fnOf "safe_fault" "safe_fault" (defArgs s_safe_fault) (defBody s_safe_fault) (defScope s_safe_fault) .none kV_safe_fault dc_safe_fault pm_safe_fault an_safe_fault cd_safe_fault ct_safe_fault), sl_safe_fault⟩)
    (c_safe_fault : PySem.W.codeIn K cd_safe_fault "safe_fault" = true)
    (k_safe_fault : PySem.W.keepIn K (.ref f_safe_fault) = true)
    (a_call_fault : PySem.W.nsIn K mainGlobals "_call_fault" = some (some (.ref f_call_fault)))
    (l_call_fault : K.lookup f_call_fault = some ⟨oc_call_fault, od_call_fault, .func (PySem.W.fnOf "_call_fault" "_call_fault" (defArgs s_call_fault) (defBody s_call_fault) (defScope s_call_fault) .none kV_call_fault dc_call_fault pm_call_fault an_call_fault cd_call_fault ct_call_fault), sl_call_fault⟩)
    (c_call_fault : PySem.W.codeIn K cd_call_fault "_call_fault" = true)
    (k_call_fault : PySem.W.keepIn K (.ref f_call_fault) = true)
    (a_flow : PySem.W.nsIn K mainGlobals "_law_flow" = some (some (.ref f_flow)))
    (l_flow : K.lookup f_flow = some ⟨oc_flow, od_flow, .func (PySem.W.fnOf "_law_flow" "_law_flow" (defArgs s_flow) (defBody s_flow) (defScope s_flow) .none kV_flow dc_flow pm_flow an_flow cd_flow ct_flow), sl_flow⟩)
    (c_flow : PySem.W.codeIn K cd_flow "_law_flow" = true)
    (k_flow : PySem.W.keepIn K (.ref f_flow) = true)
    (a_pick : PySem.W.nsIn K mainGlobals "_law_pick" = some (some (.ref f_pick)))
    (l_pick : K.lookup f_pick = some ⟨oc_pick, od_pick, .func (PySem.W.fnOf "_law_pick" "_law_pick" (defArgs s_pick) (defBody s_pick) (defScope s_pick) .none kV_pick dc_pick pm_pick an_pick cd_pick ct_pick), sl_pick⟩)
    (c_pick : PySem.W.codeIn K cd_pick "_law_pick" = true)
    (k_pick : PySem.W.keepIn K (.ref f_pick) = true)
    (a_doors : PySem.W.nsIn K mainGlobals "_law_doors" = some (some (.ref f_doors)))
    (l_doors : K.lookup f_doors = some ⟨oc_doors, od_doors, .func (PySem.W.fnOf "_law_doors" "_law_doors" (defArgs s_doors) (defBody s_doors) (defScope s_doors) .none kV_doors dc_doors pm_doors an_doors cd_doors ct_doors), sl_doors⟩)
    (c_doors : PySem.W.codeIn K cd_doors "_law_doors" = true)
    (k_doors : PySem.W.keepIn K (.ref f_doors) = true)
    (a_free : PySem.W.nsIn K mainGlobals "_law_free" = some (some (.ref f_free)))
    (l_free : K.lookup f_free = some ⟨oc_free, od_free, .func (PySem.W.fnOf "_law_free" "_law_free" (defArgs s_free) (defBody s_free) (defScope s_free) .none kV_free dc_free pm_free an_free cd_free ct_free), sl_free⟩)
    (c_free : PySem.W.codeIn K cd_free "_law_free" = true)
    (k_free : PySem.W.keepIn K (.ref f_free) = true)
    (a_loads : PySem.W.nsIn K mainGlobals "_law_loads" = some (some (.ref f_loads)))
    (l_loads : K.lookup f_loads = some ⟨oc_loads, od_loads, .func (PySem.W.fnOf "_law_loads" "_law_loads" (defArgs s_loads) (defBody s_loads) (defScope s_loads) .none kV_loads dc_loads pm_loads an_loads cd_loads ct_loads), sl_loads⟩)
    (c_loads : PySem.W.codeIn K cd_loads "_law_loads" = true)
    (k_loads : PySem.W.keepIn K (.ref f_loads) = true)
    (a_exchange : PySem.W.nsIn K mainGlobals "_law_exchange" = some (some (.ref f_exchange)))
    (l_exchange : K.lookup f_exchange = some ⟨oc_exchange, od_exchange, .func (PySem.W.fnOf "_law_exchange" "_law_exchange" (defArgs s_exchange) (defBody s_exchange) (defScope s_exchange) .none kV_exchange dc_exchange pm_exchange an_exchange cd_exchange ct_exchange), sl_exchange⟩)
    (c_exchange : PySem.W.codeIn K cd_exchange "_law_exchange" = true)
    (k_exchange : PySem.W.keepIn K (.ref f_exchange) = true)
    (a_wrong : PySem.W.nsIn K mainGlobals "_law_wrong" = some (some (.ref f_wrong)))
    (l_wrong : K.lookup f_wrong = some ⟨oc_wrong, od_wrong, .func (PySem.W.fnOf "_law_wrong" "_law_wrong" (defArgs s_wrong) (defBody s_wrong) (defScope s_wrong) .none kV_wrong dc_wrong pm_wrong an_wrong cd_wrong ct_wrong), sl_wrong⟩)
    (c_wrong : PySem.W.codeIn K cd_wrong "_law_wrong" = true)
    (k_wrong : PySem.W.keepIn K (.ref f_wrong) = true)
    (a_law : PySem.W.nsIn K mainGlobals "law" = some (some (.ref f_law)))
    (l_law : K.lookup f_law = some ⟨oc_law, od_law, .func (PySem.W.fnOf "law" "law" (defArgs s_law) (defBody s_law) (defScope s_law) .none kV_law dc_law pm_law an_law cd_law ct_law), sl_law⟩)
    (c_law : PySem.W.codeIn K cd_law "law" = true)
    (k_law : PySem.W.keepIn K (.ref f_law) = true)
    (a_Exchange_init : PySem.W.findIn K (.ref C_Exchange) "__init__" = some (some (.ref f_Exchange_init)))
    (i_Exchange_init : PySem.W.isFn K (.ref f_Exchange_init) = true)
    (l_Exchange_init : K.lookup f_Exchange_init = some ⟨oc_Exchange_init, od_Exchange_init, .func (PySem.W.fnOf "__init__" "Exchange.__init__" (defArgs s_Exchange___init) (defBody s_Exchange___init) (defScope s_Exchange___init) .none kV_Exchange_init dc_Exchange_init pm_Exchange_init an_Exchange_init cd_Exchange_init ct_Exchange_init), sl_Exchange_init⟩)
    (c_Exchange_init : PySem.W.codeIn K cd_Exchange_init "Exchange.__init__" = true)
    (k_Exchange_init : PySem.W.keepIn K (.ref f_Exchange_init) = true)
    (a_Exchange_pairs : PySem.W.findIn K (.ref C_Exchange) "pairs" = some (some (.ref f_Exchange_pairs)))
    (i_Exchange_pairs : PySem.W.isFn K (.ref f_Exchange_pairs) = true)
    (l_Exchange_pairs : K.lookup f_Exchange_pairs = some ⟨oc_Exchange_pairs, od_Exchange_pairs, .func (PySem.W.fnOf "pairs" "Exchange.pairs" (defArgs s_Exchange_pairs) (defBody s_Exchange_pairs) (defScope s_Exchange_pairs) .none kV_Exchange_pairs dc_Exchange_pairs pm_Exchange_pairs an_Exchange_pairs cd_Exchange_pairs ct_Exchange_pairs), sl_Exchange_pairs⟩)
    (c_Exchange_pairs : PySem.W.codeIn K cd_Exchange_pairs "Exchange.pairs" = true)
    (k_Exchange_pairs : PySem.W.keepIn K (.ref f_Exchange_pairs) = true)
    (a_Rule_init : PySem.W.findIn K (.ref C_Rule) "__init__" = some (some (.ref f_Rule_init)))
    (i_Rule_init : PySem.W.isFn K (.ref f_Rule_init) = true)
    (l_Rule_init : K.lookup f_Rule_init = some ⟨oc_Rule_init, od_Rule_init, .func (PySem.W.fnOf "__init__" "Rule.__init__" (defArgs s_Rule___init) (defBody s_Rule___init) (defScope s_Rule___init) .none kV_Rule_init dc_Rule_init pm_Rule_init an_Rule_init cd_Rule_init ct_Rule_init), sl_Rule_init⟩)
    (c_Rule_init : PySem.W.codeIn K cd_Rule_init "Rule.__init__" = true)
    (k_Rule_init : PySem.W.keepIn K (.ref f_Rule_init) = true)
    (a_Rule_pick : PySem.W.findIn K (.ref C_Rule) "pick" = some (some (.ref f_Rule_pick)))
    (i_Rule_pick : PySem.W.isFn K (.ref f_Rule_pick) = true)
    (l_Rule_pick : K.lookup f_Rule_pick = some ⟨oc_Rule_pick, od_Rule_pick, .func (PySem.W.fnOf "pick" "Rule.pick" (defArgs s_Rule_pick) (defBody s_Rule_pick) (defScope s_Rule_pick) .none kV_Rule_pick dc_Rule_pick pm_Rule_pick an_Rule_pick cd_Rule_pick ct_Rule_pick), sl_Rule_pick⟩)
    (c_Rule_pick : PySem.W.codeIn K cd_Rule_pick "Rule.pick" = true)
    (k_Rule_pick : PySem.W.keepIn K (.ref f_Rule_pick) = true)
    (x_pg : PySem.W.plainGet K C_Exchange Str.empty = true)
    (x_hd : PySem.W.hasDictIn K C_Exchange = true)
    (x_po : PySem.W.plainOver K C_Exchange = true)
    (x_sa : PySem.W.findIn K (.ref C_Exchange) "__setattr__" = some (some (.builtin "object.__setattr__")))
    (x_mk : PySem.W.makesIn K C_Exchange = true)
    (x_kc : PySem.W.keepIn K (.ref C_Exchange) = true)
    (x_ca : PySem.W.findIn K (.ref C_Exchange) "__class__" = some (some (.builtin "object.__class__")))
    (x_cm : PySem.W.mroIn K C_Exchange (.type "object") = some true)
    (x_ic : PySem.W.isClsIn K C_Exchange = true)
    (x_ty : PySem.W.typeIn K (.ref C_Exchange) = some (.type "type"))
    (x_sI : PySem.W.subIn K (.type "int") (.ref C_Exchange) = some false)
    (x_fS : PySem.W.notFirst K C_Exchange (.ref C_Exchange) = true)
    (x_n_ins : PySem.W.findIn K (.ref C_Exchange) "ins" = some none)
    (x_n_outs : PySem.W.findIn K (.ref C_Exchange) "outs" = some none)
    (x_n_middles : PySem.W.findIn K (.ref C_Exchange) "middles" = some none)
    (x_x_int : PySem.W.subIn K (.ref C_Exchange) (.type "int") = some false)
    (x_x_bool : PySem.W.subIn K (.ref C_Exchange) (.type "bool") = some false)
    (x_x_tuple : PySem.W.subIn K (.ref C_Exchange) (.type "tuple") = some false)
    (x_x_list : PySem.W.subIn K (.ref C_Exchange) (.type "list") = some false)
    (x_x_str : PySem.W.subIn K (.ref C_Exchange) (.type "str") = some false)
    (x_x_dict : PySem.W.subIn K (.ref C_Exchange) (.type "dict") = some false)
    (s_pg : PySem.W.plainGet K C_Share Str.empty = true)
    (s_hd : PySem.W.hasDictIn K C_Share = true)
    (s_po : PySem.W.plainOver K C_Share = true)
    (s_sa : PySem.W.findIn K (.ref C_Share) "__setattr__" = some (some (.builtin "object.__setattr__")))
    (s_mk : PySem.W.makesIn K C_Share = true)
    (s_kc : PySem.W.keepIn K (.ref C_Share) = true)
    (s_ca : PySem.W.findIn K (.ref C_Share) "__class__" = some (some (.builtin "object.__class__")))
    (s_cm : PySem.W.mroIn K C_Share (.type "object") = some true)
    (s_ic : PySem.W.isClsIn K C_Share = true)
    (s_ty : PySem.W.typeIn K (.ref C_Share) = some (.type "type"))
    (s_sI : PySem.W.subIn K (.type "int") (.ref C_Share) = some false)
    (s_fS : PySem.W.notFirst K C_Share (.ref C_Share) = true)
    (s_n_top : PySem.W.findIn K (.ref C_Share) "top" = some none)
    (s_n_bottom : PySem.W.findIn K (.ref C_Share) "bottom" = some none)
    (s_x_int : PySem.W.subIn K (.ref C_Share) (.type "int") = some false)
    (s_x_bool : PySem.W.subIn K (.ref C_Share) (.type "bool") = some false)
    (s_x_tuple : PySem.W.subIn K (.ref C_Share) (.type "tuple") = some false)
    (s_x_list : PySem.W.subIn K (.ref C_Share) (.type "list") = some false)
    (s_x_str : PySem.W.subIn K (.ref C_Share) (.type "str") = some false)
    (s_x_dict : PySem.W.subIn K (.ref C_Share) (.type "dict") = some false)
    (r_pg : PySem.W.plainGet K C_Rule Str.empty = true)
    (r_hd : PySem.W.hasDictIn K C_Rule = true)
    (r_po : PySem.W.plainOver K C_Rule = true)
    (r_sa : PySem.W.findIn K (.ref C_Rule) "__setattr__" = some (some (.builtin "object.__setattr__")))
    (r_mk : PySem.W.makesIn K C_Rule = true)
    (r_kc : PySem.W.keepIn K (.ref C_Rule) = true)
    (r_ca : PySem.W.findIn K (.ref C_Rule) "__class__" = some (some (.builtin "object.__class__")))
    (r_cm : PySem.W.mroIn K C_Rule (.type "object") = some true)
    (r_ic : PySem.W.isClsIn K C_Rule = true)
    (r_ty : PySem.W.typeIn K (.ref C_Rule) = some (.type "type"))
    (r_sI : PySem.W.subIn K (.type "int") (.ref C_Rule) = some false)
    (r_fS : PySem.W.notFirst K C_Rule (.ref C_Rule) = true)
    (r_n_exchange : PySem.W.findIn K (.ref C_Rule) "exchange" = some none)
    (r_n_word : PySem.W.findIn K (.ref C_Rule) "word" = some none)
    (r_n_table : PySem.W.findIn K (.ref C_Rule) "table" = some none)
    (r_x_int : PySem.W.subIn K (.ref C_Rule) (.type "int") = some false)
    (r_x_bool : PySem.W.subIn K (.ref C_Rule) (.type "bool") = some false)
    (r_x_tuple : PySem.W.subIn K (.ref C_Rule) (.type "tuple") = some false)
    (r_x_list : PySem.W.subIn K (.ref C_Rule) (.type "list") = some false)
    (r_x_str : PySem.W.subIn K (.ref C_Rule) (.type "str") = some false)
    (r_x_dict : PySem.W.subIn K (.ref C_Rule) (.type "dict") = some false)
    (r_wd : ∃ mc v u q, ClX.CRead K C_Rule mc ∧ ClX.CVal K C_Rule mc "WORDS" v u ∧ v = .ref q ∧ ∀ H, SqT K H q [.str "first", .str "last", .str "fullest", .str "emptiest", .str "busy"])
    (cn : PySem.W.specialIn K (.builtin "object.__class__") "__get__" = some (some (.builtin "getset_descriptor.__get__")))
    (ct : PySem.W.takesIn K (.builtin "object.__class__") = some true)
    (x_sT : PySem.W.subIn K (.type "tuple") (.ref C_Exchange) = some false)
    (x_fT : PySem.W.notFirst K C_Exchange (.type "tuple") = true)
    (x_fI : PySem.W.notFirst K C_Exchange (.type "int") = true)
    (i_a : PySem.W.findIn K (.ref C_Share) "__init__" = some (some (.ref f_i)))
    (i_f : PySem.W.isFn K (.ref f_i) = true)
    (i_l : K.lookup f_i = some ⟨oc_i, od_i, .func (PySem.W.fnOf "__init__" "Share.__init__" (defArgs K27o.Shr.s_Share___init) (defBody K27o.Shr.s_Share___init) (defScope K27o.Shr.s_Share___init) (.ref T_i) kV_i dc_i pm_i an_i cd_i ct_i), sl_i⟩)
    (i_c : PySem.W.codeIn K cd_i "Share.__init__" = true)
    (i_k : PySem.W.keepIn K (.ref f_i) = true)
    (i_t : K.lookup T_i = some ⟨ocT, odT, .seq #[.int 1 tk] nTt, slT⟩)
    (g_gcd : PySem.W.nsIn K mainGlobals "gcd" = some (some (.builtin "math.gcd")))
    (z_len : PySem.W.nsIn K mainGlobals "len" = some none)
    (z_abs : PySem.W.nsIn K mainGlobals "abs" = some none)
    (z_int : PySem.W.nsIn K mainGlobals "int" = some none)
    (z_bool : PySem.W.nsIn K mainGlobals "bool" = some none)
    (z_tuple : PySem.W.nsIn K mainGlobals "tuple" = some none)
    (z_list : PySem.W.nsIn K mainGlobals "list" = some none)
    (z_str : PySem.W.nsIn K mainGlobals "str" = some none)
    (z_dict : PySem.W.nsIn K mainGlobals "dict" = some none)
    (z_isinstance : PySem.W.nsIn K mainGlobals "isinstance" = some none)
    (z_all : PySem.W.nsIn K mainGlobals "all" = some none)
    (z_any : PySem.W.nsIn K mainGlobals "any" = some none)
    (z_sum : PySem.W.nsIn K mainGlobals "sum" = some none)
    (z_range : PySem.W.nsIn K mainGlobals "range" = some none)
    (z_set : PySem.W.nsIn K mainGlobals "set" = some none)
    (z_sorted : PySem.W.nsIn K mainGlobals "sorted" = some none)
    (z_min : PySem.W.nsIn K mainGlobals "min" = some none)
    (z_max : PySem.W.nsIn K mainGlobals "max" = some none)
    (z_enumerate : PySem.W.nsIn K mainGlobals "enumerate" = some none)
    (z_reversed : PySem.W.nsIn K mainGlobals "reversed" = some none)
    (y_MOST_SWITCHES : PySem.W.nsIn K mainGlobals "MOST_SWITCHES" = some (some (.int 4 t_MOST_SWITCHES)))
    (y_MOST_DOORS : PySem.W.nsIn K mainGlobals "MOST_DOORS" = some (some (.int 4 t_MOST_DOORS)))
    (y_MOST_MIDDLES : PySem.W.nsIn K mainGlobals "MOST_MIDDLES" = some (some (.int 7 t_MOST_MIDDLES)))
    (y_MOST_STANDINGS : PySem.W.nsIn K mainGlobals "MOST_STANDINGS" = some (some (.int 2000 t_MOST_STANDINGS)))
    (e_pick_by_word : cd_pick_by_word = .ref (He.cT K ("_pick_by_word", none)).1)
    : ∃ fd : FuncData, (∀ (s : Shared) (v : Value), BindsTo s fd ⟨[v], []⟩ [("_law_script", v)]) ∧ ∀ base : Heap, K.In base → base.Ns mainGlobals mg → LamX.TabB base mg (He.cT K ("_pick_by_word", none)).1 (He.cT K ("_pick_by_word", none)).2 → FnOk P w K mg base CX0 8 fa fd ["_law_script"] (spLawT (He.cT K ("_pick_by_word", none)).2 K) := by
  have efa := hfa.symm.trans (PySem.W.mg_of X G a_law)
  cases efa
  have D_is_plain_int : DefAt K mg "is_plain_int" s_is_plain_int ["value"] := DefAt.of X G a_is_plain_int l_is_plain_int c_is_plain_int k_is_plain_int fun _ _ _ _ _ _ us hl => match us, hl with | [_], _ => rfl
  have D_is_int_within : DefAt K mg "is_int_within" s_is_int_within ["value", "low", "high"] := DefAt.of X G a_is_int_within l_is_int_within c_is_int_within k_is_int_within fun _ _ _ _ _ _ us hl => match us, hl with | [_, _, _], _ => rfl
  have D_is_pair : DefAt K mg "is_pair" s_is_pair ["exchange", "thing"] := DefAt.of X G a_is_pair l_is_pair c_is_pair k_is_pair fun _ _ _ _ _ _ us hl => match us, hl with | [_, _], _ => rfl
  have D_is_load : DefAt K mg "is_load" s_is_load ["exchange", "thing"] := DefAt.of X G a_is_load l_is_load c_is_load k_is_load fun _ _ _ _ _ _ us hl => match us, hl with | [_, _], _ => rfl
  have D_is_side : DefAt K mg "_is_side" s_is_side ["value"] := DefAt.of X G a_is_side l_is_side c_is_side k_is_side fun _ _ _ _ _ _ us hl => match us, hl with | [_], _ => rfl
  have D_is_free : DefAt K mg "is_free" s_is_free ["load", "pair"] := DefAt.of X G a_is_free l_is_free c_is_free k_is_free fun _ _ _ _ _ _ us hl => match us, hl with | [_, _], _ => rfl
  have D_with_pair : DefAt K mg "with_pair" s_with_pair ["load", "pair"] := DefAt.of X G a_with_pair l_with_pair c_with_pair k_with_pair fun _ _ _ _ _ _ us hl => match us, hl with | [_, _], _ => rfl
  have D_free_for : DefAt K mg "free_for" s_free_for ["standing", "pair"] := DefAt.of X G a_free_for l_free_for c_free_for k_free_for fun _ _ _ _ _ _ us hl => match us, hl with | [_, _], _ => rfl
  have D_doors_left : DefAt K mg "doors_left" s_doors_left ["exchange", "standing"] := DefAt.of X G a_doors_left l_doors_left c_doors_left k_doors_left fun _ _ _ _ _ _ us hl => match us, hl with | [_, _], _ => rfl
  have D_open_pairs : DefAt K mg "open_pairs" s_open_pairs ["exchange", "standing"] := DefAt.of X G a_open_pairs l_open_pairs c_open_pairs k_open_pairs fun _ _ _ _ _ _ us hl => match us, hl with | [_, _], _ => rfl
  have D_placed : DefAt K mg "placed" s_placed ["standing", "pair", "k"] := DefAt.of X G a_placed l_placed c_placed k_placed fun _ _ _ _ _ _ us hl => match us, hl with | [_, _, _], _ => rfl
  have D_is_standing : DefAt K mg "is_standing" s_is_standing ["exchange", "thing"] := DefAt.of X G a_is_standing l_is_standing c_is_standing k_is_standing fun _ _ _ _ _ _ us hl => match us, hl with | [_, _], _ => rfl
  have D_empty : DefAt K mg "empty" s_empty ["exchange"] := DefAt.of X G a_empty l_empty c_empty k_empty fun _ _ _ _ _ _ us hl => match us, hl with | [_], _ => rfl
  have D_is_word : DefAt K mg "is_word" s_is_word ["choice"] := DefAt.of X G a_is_word l_is_word c_is_word k_is_word fun _ _ _ _ _ _ us hl => match us, hl with | [_], _ => rfl
  have D_pick_by_word : DefAt K mg "_pick_by_word" s_pick_by_word ["word", "standing", "free"] := DefAt.of X G a_pick_by_word l_pick_by_word c_pick_by_word k_pick_by_word fun _ _ _ _ _ _ us hl => match us, hl with | [_, _, _], _ => rfl
  have D_safe_fault : DefAt K mg "safe_fault" s_safe_fault ["rule", "standings"] := DefAt.of X G a_safe_fault l_safe_fault c_safe_fault k_safe_fault fun _ _ _ _ _ _ us hl => match us, hl with | [_, _], _ => rfl
  have D_call_fault : DefAt K mg "_call_fault" s_call_fault ["rule", "standing", "k", "listed"] := DefAt.of X G a_call_fault l_call_fault c_call_fault k_call_fault fun _ _ _ _ _ _ us hl => match us, hl with | [_, _, _, _], _ => rfl
  have D_flow : DefAt K mg "_law_flow" s_flow ["_law_script", "_law_k"] := DefAt.of X G a_flow l_flow c_flow k_flow fun _ _ _ _ _ _ us hl => match us, hl with | [_, _], _ => rfl
  have D_pick : DefAt K mg "_law_pick" s_pick ["_law_flow_here", "_law_size"] := DefAt.of X G a_pick l_pick c_pick k_pick fun _ _ _ _ _ _ us hl => match us, hl with | [_, _], _ => rfl
  have D_doors : DefAt K mg "_law_doors" s_doors ["_law_flow_here", "_law_most", "_law_doors_here"] := DefAt.of X G a_doors l_doors c_doors k_doors fun _ _ _ _ _ _ us hl => match us, hl with | [_, _, _], _ => rfl
  have D_free : DefAt K mg "_law_free" s_free ["_law_load", "_law_pair"] := DefAt.of X G a_free l_free c_free k_free fun _ _ _ _ _ _ us hl => match us, hl with | [_, _], _ => rfl
  have D_loads : DefAt K mg "_law_loads" s_loads ["_law_flow_here", "_law_ins", "_law_outs", "_law_middles", "_law_many"] := DefAt.of X G a_loads l_loads c_loads k_loads fun _ _ _ _ _ _ us hl => match us, hl with | [_, _, _, _, _], _ => rfl
  have D_exchange : DefAt K mg "_law_exchange" s_exchange ["_law_flow_here", "_law_most", "_law_doors_here", "_law_middles"] := DefAt.of X G a_exchange l_exchange c_exchange k_exchange fun _ _ _ _ _ _ us hl => match us, hl with | [_, _, _, _], _ => rfl
  have D_wrong : DefAt K mg "_law_wrong" s_wrong ["_law_flow_here", "_law_standing"] := DefAt.of X G a_wrong l_wrong c_wrong k_wrong fun _ _ _ _ _ _ us hl => match us, hl with | [_, _], _ => rfl
  have D_law : DefAt K mg "law" s_law ["_law_script"] := DefAt.of X G a_law l_law c_law k_law fun _ _ _ _ _ _ us hl => match us, hl with | [_], _ => rfl
  have D_Exchange_init : MethAt K C_Exchange "__init__" "Exchange.__init__" s_Exchange___init ["self", "ins", "outs", "middles"] := MethAt.of a_Exchange_init i_Exchange_init l_Exchange_init c_Exchange_init k_Exchange_init fun _ _ _ _ _ _ us hl => match us, hl with | [_, _, _, _], _ => rfl
  have D_Exchange_pairs : MethAt K C_Exchange "pairs" "Exchange.pairs" s_Exchange_pairs ["self"] := MethAt.of a_Exchange_pairs i_Exchange_pairs l_Exchange_pairs c_Exchange_pairs k_Exchange_pairs fun _ _ _ _ _ _ us hl => match us, hl with | [_], _ => rfl
  have D_Rule_init : MethAt K C_Rule "__init__" "Rule.__init__" s_Rule___init ["self", "exchange", "choice"] := MethAt.of a_Rule_init i_Rule_init l_Rule_init c_Rule_init k_Rule_init fun _ _ _ _ _ _ us hl => match us, hl with | [_, _, _], _ => rfl
  have D_Rule_pick : MethAt K C_Rule "pick" "Rule.pick" s_Rule_pick ["self", "standing", "pair"] := MethAt.of a_Rule_pick i_Rule_pick l_Rule_pick c_Rule_pick k_Rule_pick fun _ _ _ _ _ _ us hl => match us, hl with | [_, _, _], _ => rfl
  have To : K27o.Blt mg := ⟨PySem.W.mg_none_of X G z_len, PySem.W.mg_none_of X G z_abs, PySem.W.mg_none_of X G z_int, PySem.W.mg_none_of X G z_bool, PySem.W.mg_none_of X G z_tuple, PySem.W.mg_none_of X G z_list, PySem.W.mg_none_of X G z_isinstance, PySem.W.mg_none_of X G z_all, PySem.W.mg_none_of X G z_range, PySem.W.mg_none_of X G z_set, PySem.W.mg_none_of X G z_sorted, PySem.W.mg_none_of X G z_min, PySem.W.mg_none_of X G z_max, PySem.W.mg_none_of X G z_enumerate, ⟨_, PySem.W.mg_of X G y_MOST_SWITCHES⟩, ⟨_, PySem.W.mg_of X G y_MOST_DOORS⟩, ⟨_, PySem.W.mg_of X G y_MOST_MIDDLES⟩, PySem.W.mg_of X G g_gcd⟩
  have T : Blt mg := ⟨PySem.W.mg_none_of X G z_len, PySem.W.mg_none_of X G z_abs, PySem.W.mg_none_of X G z_int, PySem.W.mg_none_of X G z_bool, PySem.W.mg_none_of X G z_tuple, PySem.W.mg_none_of X G z_list, PySem.W.mg_none_of X G z_str, PySem.W.mg_none_of X G z_dict, PySem.W.mg_none_of X G z_isinstance, PySem.W.mg_none_of X G z_all, PySem.W.mg_none_of X G z_any, PySem.W.mg_none_of X G z_sum, PySem.W.mg_none_of X G z_range, PySem.W.mg_none_of X G z_set, PySem.W.mg_none_of X G z_sorted, PySem.W.mg_none_of X G z_min, PySem.W.mg_none_of X G z_max, PySem.W.mg_none_of X G z_enumerate, PySem.W.mg_none_of X G z_reversed, ⟨_, PySem.W.mg_of X G y_MOST_SWITCHES⟩, ⟨_, PySem.W.mg_of X G y_MOST_DOORS⟩, ⟨_, PySem.W.mg_of X G y_MOST_MIDDLES⟩, ⟨_, PySem.W.mg_of X G y_MOST_STANDINGS⟩⟩
  have XT : Gn.ExT K mg C_Exchange := ⟨⟨x_pg, x_hd, x_po, x_sa⟩, x_n_ins, x_n_outs, x_n_middles, x_ca, cn, ct, x_cm, kit_self, kit_own x_ic x_ty x_sT rfl, kit_own x_ic x_ty x_sI rfl, x_fS, x_fT, x_fI, PySem.W.mg_of X G a_Exchange⟩
  have XC : ExC K mg C_Exchange := ⟨⟨⟨x_pg, x_hd, x_po, x_sa⟩, x_ca, cn, ct, x_cm, kN_of x_x_int x_x_bool x_x_tuple x_x_list x_x_str x_x_dict⟩, x_n_ins, x_n_outs, x_n_middles⟩
  have SC : ClsT K C_Share := ⟨⟨s_pg, s_hd, s_po, s_sa⟩, s_ca, cn, ct, s_cm, kN_of s_x_int s_x_bool s_x_tuple s_x_list s_x_str s_x_dict⟩
  have ST : K27o.Shr.ShT K mg C_Share := ⟨⟨s_pg, s_hd, s_po, s_sa⟩, s_n_top, s_n_bottom, s_ca, cn, ct, s_cm, kit_own s_ic s_ty s_sI rfl, s_fS, PySem.W.mg_of X G a_Share⟩
  have FI : FunD K "__init__" "Share.__init__" (defArgs K27o.Shr.s_Share___init) (defBody K27o.Shr.s_Share___init) (defScope K27o.Shr.s_Share___init) [.int 1] [] f_i _ := ⟨⟨oc_i, od_i, .ref T_i, kV_i, dc_i, pm_i, an_i, cd_i, ct_i, sl_i, rfl, i_l, i_c, .inr ⟨(fun h => nomatch h), T_i, _, [.int 1 tk], nTt, rfl, i_t, rfl, .cons ⟨tk, rfl⟩ .nil⟩, .inl rfl⟩, i_k⟩
  obtain ⟨dsI, rI, bI⟩ := FI.binds1 (ps := ["self", "top", "bottom"]) 2 0 (fun h => nomatch h) rfl fun _ _ _ _ _ _ _ us its hu hi => match us, its, hu, hi with | [_, _], [_], _, _ => ⟨_, rfl, rfl⟩
  obtain ⟨tk2, eI⟩ : ∃ tk2, dsI = [.int 1 tk2] := by
    cases rI with
    | cons a r =>
      cases r
      obtain ⟨t2, e⟩ := a
      exact ⟨t2, by rw [e]⟩
  subst eI
  refine ⟨PySem.W.fnOf "law" "law" (defArgs s_law) (defBody s_law) (defScope s_law) .none kV_law dc_law pm_law an_law cd_law ct_law, fun s v => .of_eq rfl, fun base _ _ TBt => ?_⟩
  letI : Dt.Tb := ⟨[((He.cT K ("_pick_by_word", none)).2, ("_pick_by_word" ++ ".<locals>." : Str) ++ "<lambda>")]⟩
  have O1 : DefOk P w K mg base CX0 1 "is_plain_int" (spPlain K) := K27o.ok_is_plain_int To D_is_plain_int
  have O2 : DefOk P w K mg base CX0 2 "is_int_within" (spWithin K) := K27o.ok_is_int_within To O1 D_is_int_within
  have O3 : DefOk P w K mg base CX0 3 "_is_side" (spSide K) := K27o.ok_is_side To O2 D_is_side
  have I1 : MethOk P w K mg base CX0 4 C_Exchange "__init__" (spInit C_Exchange) := K27o.ok_init To XT O3 O2 D_Exchange_init
  have N1 : NewOk P w K mg base CX0 4 "Exchange" C_Exchange (spInit C_Exchange) := I1.new x_mk x_kc (PySem.W.mg_of X G a_Exchange)
  have NS : NewOk P w K mg base CX0 2 "Share" C_Share (spSh1 C_Share) := sh_newd (K27o.Shr.ok_init To ST O1 FI) bI ⟨s_mk, i_a, i_f, s_kc⟩ (PySem.W.mg_of X G a_Share)
  have FL0 : DefOk P w K mg base CX0 1 "_law_flow" (spFlow K) := K27o.ok_flow To D_flow
  have PI0 : DefOk P w K mg base CX0 1 "_law_pick" spPick := K27o.ok_pick To D_pick
  have FL : DefOk P w K mg base CX0 1 "_law_flow" (spOf (spFlowD K)) := defok_imp FL0 fun _ _ _ _ => flow_d
  have PI : DefOk P w K mg base CX0 1 "_law_pick" (spOf spPickD) := defok_imp PI0 fun _ _ _ _ => pick_d
  have LF0 : DefOk P w K mg base CX0 1 "_law_free" spIsFree := K27o.ok_lfree To D_free
  have LO0 : DefOk P w K mg base CX0 2 "_law_loads" spLoads := K27o.ok_lloads To PI0 LF0 D_loads
  have LO : DefOk P w K mg base CX0 2 "_law_loads" (spOf sdLoads) := defok_imp LO0 fun _ _ _ _ => loads_d
  have P2 : DefOk P w K mg base CX0 2 "is_int_within" (spOf (sdWithin K)) := ok_is_int_within T (ok_is_plain_int T D_is_plain_int) D_is_int_within
  have P3 : DefOk P w K mg base CX0 3 "is_pair" (spOf (sdIsPair K C_Exchange)) := ok_is_pair T XC P2 D_is_pair
  have L4 := ok_is_load T XC P3 D_is_load
  have DL : DefOk P w K mg base CX0 1 "doors_left" (spOf (sdDoorsLeft C_Exchange)) := ok_doors_left T XC D_doors_left
  have S5 := ok_is_standing T XC L4 DL D_is_standing
  have LD := ok_doors T PI D_doors
  have LE : DefOk P w K mg base CX0 6 "_law_exchange" (spOf (sdExch C_Exchange)) := ok_exchange T PI LD N1 D_exchange
  have RU : RuC K C_Rule := ⟨⟨r_pg, r_hd, r_po, r_sa⟩, r_n_exchange, r_n_word, r_n_table, r_wd⟩
  have RT : ClsT K C_Rule := ⟨⟨r_pg, r_hd, r_po, r_sa⟩, r_ca, cn, ct, r_cm, kN_of r_x_int r_x_bool r_x_tuple r_x_list r_x_str r_x_dict⟩
  have IW : DefOk P w K mg base CX0 1 "is_word" (spOf sdIsWord) := ok_is_word T RU (PySem.W.mg_of X G a_Rule) D_is_word
  have NR : NewOk P w K mg base CX0 2 "Rule" C_Rule (spU (spRule C_Exchange C_Rule)) := (ok_rule_init T RU IW D_Rule_init).new r_mk r_kc (PySem.W.mg_of X G a_Rule)
  cases e_pick_by_word
  have DW : Lk.DefAtC K mg "_pick_by_word" s_pick_by_word ["word", "standing", "free"] (He.cT K ("_pick_by_word", none)).1 := ⟨f_pick_by_word, _, _, _, _, _, _, _, _, l_pick_by_word, c_pick_by_word, k_pick_by_word, PySem.W.mg_of X G a_pick_by_word, (fun_mk (st := s_pick_by_word) l_pick_by_word c_pick_by_word k_pick_by_word).binds fun _ _ _ _ _ _ us hl => match us, hl with | [_, _, _], _ => rfl⟩
  have BW : DefOk P w K mg base CX0 1 "_pick_by_word" (spOf sdByWord) := ok_by_word T TBt rfl DW
  have RP : MethOk P w K mg base CX0 3 C_Rule "pick" (spOf (sdPick C_Rule)) := ok_pick T RU (ok_free_for T (ok_is_free T D_is_free) D_free_for) BW D_Rule_pick
  have MP : MethOk P w K mg base CX0 1 C_Exchange "pairs" (spOf (sdPairs C_Exchange)) := ok_pairs T XC D_Exchange_pairs
  have OP := ok_open_pairs T XC MP DL D_open_pairs
  have WP : DefOk P w K mg base CX0 1 "with_pair" (spOf sdWithP) := ok_with_pair T D_with_pair
  have PL := ok_placed T WP D_placed
  have EM : DefOk P w K mg base CX0 1 "empty" (spOf (sdEmpty C_Exchange)) := ok_empty T XC D_empty
  have CF : DefOk P w K mg base CX0 4 "_call_fault" (spOf (sdCallF w C_Exchange C_Rule)) := ok_call_fault T RU OP RP PL D_call_fault
  have SF := ok_safe_fault T RU S5 EM CF D_safe_fault
  have LW := ok_wrong T SC PI NS D_wrong
  exact (ok_law_fn T XC RU RT SC FL PI LE LO NR NS LW SF (fun_mk (st := s_law) l_law c_law k_law)).imp fun _ _ _ _ => law_d rfl
def hfaL_0 : List He.Fa := [.glo "Exchange",
  .glo "Share",
  .glo "Rule",
  .glo "is_plain_int",
  .glo "is_int_within",
  .glo "is_pair",
  .glo "is_load",
  .glo "_is_side",
  .glo "is_free",
  .glo "with_pair",
  .glo "free_for",
  .glo "doors_left",
  .glo "open_pairs",
  .glo "placed",
  .glo "is_standing",
  .glo "empty",
  .glo "is_word",
  .glo "_pick_by_word",
  .glo "safe_fault",
  .glo "_call_fault",
  .glo "_law_flow",
  .glo "_law_pick",
  .glo "_law_doors",
  .glo "_law_free",
  .glo "_law_loads"]
def hfaL_1 : List He.Fa := [.glo "_law_exchange",
  .glo "_law_wrong",
  .glo "law",
  .meth "Exchange" "__init__",
  .meth "Exchange" "pairs",
  .meth "Rule" "__init__",
  .meth "Rule" "pick",
  .meth "Share" "__init__",
  .free "len",
  .free "abs",
  .free "int",
  .free "bool",
  .free "tuple",
  .free "list",
  .free "str",
  .free "dict",
  .free "isinstance",
  .free "all",
  .free "any",
  .free "sum",
  .free "range",
  .free "set",
  .free "sorted",
  .free "min",
  .free "max"]
def hfaL_2 : List He.Fa := [.free "enumerate",
  .free "reversed",
  .int "MOST_SWITCHES" 4,
  .int "MOST_DOORS" 4,
  .int "MOST_MIDDLES" 7,
  .int "MOST_STANDINGS" 2000]
def hfaL : List He.Fa := hfaL_0 ++ hfaL_1 ++ hfaL_2
def hfnL_0 : List He.DefD := [⟨("is_plain_int", none), "is_plain_int", "is_plain_int", defArgs s_is_plain_int, defBody s_is_plain_int, defScope s_is_plain_int, [], []⟩,
  ⟨("is_int_within", none), "is_int_within", "is_int_within", defArgs s_is_int_within, defBody s_is_int_within, defScope s_is_int_within, [], []⟩,
  ⟨("is_pair", none), "is_pair", "is_pair", defArgs s_is_pair, defBody s_is_pair, defScope s_is_pair, [], []⟩,
  ⟨("is_load", none), "is_load", "is_load", defArgs s_is_load, defBody s_is_load, defScope s_is_load, [], []⟩,
  ⟨("_is_side", none), "_is_side", "_is_side", defArgs s_is_side, defBody s_is_side, defScope s_is_side, [], []⟩,
  ⟨("is_free", none), "is_free", "is_free", defArgs s_is_free, defBody s_is_free, defScope s_is_free, [], []⟩,
  ⟨("with_pair", none), "with_pair", "with_pair", defArgs s_with_pair, defBody s_with_pair, defScope s_with_pair, [], []⟩,
  ⟨("free_for", none), "free_for", "free_for", defArgs s_free_for, defBody s_free_for, defScope s_free_for, [], []⟩,
  ⟨("doors_left", none), "doors_left", "doors_left", defArgs s_doors_left, defBody s_doors_left, defScope s_doors_left, [], []⟩,
  ⟨("open_pairs", none), "open_pairs", "open_pairs", defArgs s_open_pairs, defBody s_open_pairs, defScope s_open_pairs, [], []⟩,
  ⟨("placed", none), "placed", "placed", defArgs s_placed, defBody s_placed, defScope s_placed, [], []⟩,
  ⟨("is_standing", none), "is_standing", "is_standing", defArgs s_is_standing, defBody s_is_standing, defScope s_is_standing, [], []⟩,
  ⟨("empty", none), "empty", "empty", defArgs s_empty, defBody s_empty, defScope s_empty, [], []⟩,
  ⟨("is_word", none), "is_word", "is_word", defArgs s_is_word, defBody s_is_word, defScope s_is_word, [], []⟩,
  ⟨("_pick_by_word", none), "_pick_by_word", "_pick_by_word", defArgs s_pick_by_word, defBody s_pick_by_word, defScope s_pick_by_word, [], []⟩,
  ⟨("safe_fault", none), "safe_fault", "safe_fault", defArgs s_safe_fault, defBody s_safe_fault, defScope s_safe_fault, [], []⟩,
  ⟨("_call_fault", none), "_call_fault", "_call_fault", defArgs s_call_fault, defBody s_call_fault, defScope s_call_fault, [], []⟩,
  ⟨("_law_flow", none), "_law_flow", "_law_flow", defArgs s_flow, defBody s_flow, defScope s_flow, [], []⟩,
  ⟨("_law_pick", none), "_law_pick", "_law_pick", defArgs s_pick, defBody s_pick, defScope s_pick, [], []⟩,
  ⟨("_law_doors", none), "_law_doors", "_law_doors", defArgs s_doors, defBody s_doors, defScope s_doors, [], []⟩,
  ⟨("_law_free", none), "_law_free", "_law_free", defArgs s_free, defBody s_free, defScope s_free, [], []⟩,
  ⟨("_law_loads", none), "_law_loads", "_law_loads", defArgs s_loads, defBody s_loads, defScope s_loads, [], []⟩,
  ⟨("_law_exchange", none), "_law_exchange", "_law_exchange", defArgs s_exchange, defBody s_exchange, defScope s_exchange, [], []⟩,
  ⟨("_law_wrong", none), "_law_wrong", "_law_wrong", defArgs s_wrong, defBody s_wrong, defScope s_wrong, [], []⟩,
  ⟨("law", none), "law", "law", defArgs s_law, defBody s_law, defScope s_law, [], []⟩]
def hfnL_1 : List He.DefD := [⟨("Exchange", some "__init__"), "__init__", "Exchange.__init__", defArgs s_Exchange___init, defBody s_Exchange___init, defScope s_Exchange___init, [], []⟩,
  ⟨("Exchange", some "pairs"), "pairs", "Exchange.pairs", defArgs s_Exchange_pairs, defBody s_Exchange_pairs, defScope s_Exchange_pairs, [], []⟩,
  ⟨("Rule", some "__init__"), "__init__", "Rule.__init__", defArgs s_Rule___init, defBody s_Rule___init, defScope s_Rule___init, [], []⟩,
  ⟨("Rule", some "pick"), "pick", "Rule.pick", defArgs s_Rule_pick, defBody s_Rule_pick, defScope s_Rule_pick, [], []⟩,
  ⟨("Share", some "__init__"), "__init__", "Share.__init__", defArgs K27o.Shr.s_Share___init, defBody K27o.Shr.s_Share___init, defScope K27o.Shr.s_Share___init, [.int 1], []⟩]
def hfnL : List He.DefD := hfnL_0 ++ hfnL_1
def hxsL_0 : List Hz.DefC := []
def hxsL : List Hz.DefC := hxsL_0
def hexL_0 : List (PySem.W.Frag → Bool) := [fun K => decide (PySem.W.plainGet K (He.ga K "Exchange") Str.empty = true),
  fun K => decide (PySem.W.hasDictIn K (He.ga K "Exchange") = true),
  fun K => decide (PySem.W.plainOver K (He.ga K "Exchange") = true),
  fun K => decide (PySem.W.findIn K (.ref (He.ga K "Exchange")) "__setattr__" = some (some (.builtin "object.__setattr__"))),
  fun K => decide (PySem.W.makesIn K (He.ga K "Exchange") = true),
  fun K => decide (PySem.W.keepIn K (.ref (He.ga K "Exchange")) = true),
  fun K => decide (PySem.W.findIn K (.ref (He.ga K "Exchange")) "__class__" = some (some (.builtin "object.__class__"))),
  fun K => decide (PySem.W.mroIn K (He.ga K "Exchange") (.type "object") = some true),
  fun K => decide (PySem.W.isClsIn K (He.ga K "Exchange") = true),
  fun K => decide (PySem.W.typeIn K (.ref (He.ga K "Exchange")) = some (.type "type")),
  fun K => decide (PySem.W.subIn K (.type "int") (.ref (He.ga K "Exchange")) = some false),
  fun K => decide (PySem.W.notFirst K (He.ga K "Exchange") (.ref (He.ga K "Exchange")) = true),
  fun K => decide (PySem.W.findIn K (.ref (He.ga K "Exchange")) "ins" = some none),
  fun K => decide (PySem.W.findIn K (.ref (He.ga K "Exchange")) "outs" = some none),
  fun K => decide (PySem.W.findIn K (.ref (He.ga K "Exchange")) "middles" = some none),
  fun K => decide (PySem.W.subIn K (.ref (He.ga K "Exchange")) (.type "int") = some false),
  fun K => decide (PySem.W.subIn K (.ref (He.ga K "Exchange")) (.type "bool") = some false),
  fun K => decide (PySem.W.subIn K (.ref (He.ga K "Exchange")) (.type "tuple") = some false),
  fun K => decide (PySem.W.subIn K (.ref (He.ga K "Exchange")) (.type "list") = some false),
  fun K => decide (PySem.W.subIn K (.ref (He.ga K "Exchange")) (.type "str") = some false),
  fun K => decide (PySem.W.subIn K (.ref (He.ga K "Exchange")) (.type "dict") = some false),
  fun K => decide (PySem.W.plainGet K (He.ga K "Share") Str.empty = true),
  fun K => decide (PySem.W.hasDictIn K (He.ga K "Share") = true),
  fun K => decide (PySem.W.plainOver K (He.ga K "Share") = true),
  fun K => decide (PySem.W.findIn K (.ref (He.ga K "Share")) "__setattr__" = some (some (.builtin "object.__setattr__")))]
def hexL_1 : List (PySem.W.Frag → Bool) := [fun K => decide (PySem.W.makesIn K (He.ga K "Share") = true),
  fun K => decide (PySem.W.keepIn K (.ref (He.ga K "Share")) = true),
  fun K => decide (PySem.W.findIn K (.ref (He.ga K "Share")) "__class__" = some (some (.builtin "object.__class__"))),
  fun K => decide (PySem.W.mroIn K (He.ga K "Share") (.type "object") = some true),
  fun K => decide (PySem.W.isClsIn K (He.ga K "Share") = true),
  fun K => decide (PySem.W.typeIn K (.ref (He.ga K "Share")) = some (.type "type")),
  fun K => decide (PySem.W.subIn K (.type "int") (.ref (He.ga K "Share")) = some false),
  fun K => decide (PySem.W.notFirst K (He.ga K "Share") (.ref (He.ga K "Share")) = true),
  fun K => decide (PySem.W.findIn K (.ref (He.ga K "Share")) "top" = some none),
  fun K => decide (PySem.W.findIn K (.ref (He.ga K "Share")) "bottom" = some none),
  fun K => decide (PySem.W.subIn K (.ref (He.ga K "Share")) (.type "int") = some false),
  fun K => decide (PySem.W.subIn K (.ref (He.ga K "Share")) (.type "bool") = some false),
  fun K => decide (PySem.W.subIn K (.ref (He.ga K "Share")) (.type "tuple") = some false),
  fun K => decide (PySem.W.subIn K (.ref (He.ga K "Share")) (.type "list") = some false),
  fun K => decide (PySem.W.subIn K (.ref (He.ga K "Share")) (.type "str") = some false),
  fun K => decide (PySem.W.subIn K (.ref (He.ga K "Share")) (.type "dict") = some false),
  fun K => decide (PySem.W.plainGet K (He.ga K "Rule") Str.empty = true),
  fun K => decide (PySem.W.hasDictIn K (He.ga K "Rule") = true),
  fun K => decide (PySem.W.plainOver K (He.ga K "Rule") = true),
  fun K => decide (PySem.W.findIn K (.ref (He.ga K "Rule")) "__setattr__" = some (some (.builtin "object.__setattr__"))),
  fun K => decide (PySem.W.makesIn K (He.ga K "Rule") = true),
  fun K => decide (PySem.W.keepIn K (.ref (He.ga K "Rule")) = true),
  fun K => decide (PySem.W.findIn K (.ref (He.ga K "Rule")) "__class__" = some (some (.builtin "object.__class__"))),
  fun K => decide (PySem.W.mroIn K (He.ga K "Rule") (.type "object") = some true),
  fun K => decide (PySem.W.isClsIn K (He.ga K "Rule") = true)]
def hexL_2 : List (PySem.W.Frag → Bool) := [fun K => decide (PySem.W.typeIn K (.ref (He.ga K "Rule")) = some (.type "type")),
  fun K => decide (PySem.W.subIn K (.type "int") (.ref (He.ga K "Rule")) = some false),
  fun K => decide (PySem.W.notFirst K (He.ga K "Rule") (.ref (He.ga K "Rule")) = true),
  fun K => decide (PySem.W.findIn K (.ref (He.ga K "Rule")) "exchange" = some none),
  fun K => decide (PySem.W.findIn K (.ref (He.ga K "Rule")) "word" = some none),
  fun K => decide (PySem.W.findIn K (.ref (He.ga K "Rule")) "table" = some none),
  fun K => decide (PySem.W.subIn K (.ref (He.ga K "Rule")) (.type "int") = some false),
  fun K => decide (PySem.W.subIn K (.ref (He.ga K "Rule")) (.type "bool") = some false),
  fun K => decide (PySem.W.subIn K (.ref (He.ga K "Rule")) (.type "tuple") = some false),
  fun K => decide (PySem.W.subIn K (.ref (He.ga K "Rule")) (.type "list") = some false),
  fun K => decide (PySem.W.subIn K (.ref (He.ga K "Rule")) (.type "str") = some false),
  fun K => decide (PySem.W.subIn K (.ref (He.ga K "Rule")) (.type "dict") = some false),
  fun K => decide (PySem.W.readsIn K (He.ga K "Rule") (.type "type") = true),
  fun K => decide (PySem.W.specialIn K (.ref (He.ga K "Rule")) "__getattribute__" = some (some (.builtin "type.__getattribute__"))),
  fun K => Hz.wdB K (He.ga K "Rule") "WORDS" [.str "first", .str "last", .str "fullest", .str "emptiest", .str "busy"],
  fun K => decide (PySem.W.specialIn K (.builtin "object.__class__") "__get__" = some (some (.builtin "getset_descriptor.__get__"))),
  fun K => decide (PySem.W.takesIn K (.builtin "object.__class__") = some true),
  fun K => decide (PySem.W.subIn K (.type "tuple") (.ref (He.ga K "Exchange")) = some false),
  fun K => decide (PySem.W.notFirst K (He.ga K "Exchange") (.type "tuple") = true),
  fun K => decide (PySem.W.notFirst K (He.ga K "Exchange") (.type "int") = true),
  fun K => decide (PySem.W.nsIn K mainGlobals "gcd" = some (some (.builtin "math.gcd")))]
def hexL : List (PySem.W.Frag → Bool) := hexL_0 ++ hexL_1 ++ hexL_2
def addrL_0 : List Addr := [2,
  3,
  43,
  45,
  46,
  48,
  49,
  50,
  52,
  53,
  55,
  56,
  57,
  59,
  60,
  62,
  63,
  64,
  66,
  67,
  69,
  70,
  71,
  74,
  75,
  76,
  79,
  80,
  81,
  83,
  84,
  86,
  87,
  88,
  91,
  92,
  93,
  95,
  96,
  98]
def addrL_1 : List Addr := [99,
  100,
  103,
  104,
  105,
  108,
  109,
  110,
  112,
  113,
  115,
  116,
  117,
  120,
  121,
  122,
  125,
  126,
  127,
  129,
  130,
  132,
  133,
  134,
  136,
  137,
  139,
  140,
  141,
  144,
  145,
  146,
  153,
  154,
  155,
  156,
  159,
  162,
  167,
  168]
def addrL_2 : List Addr := [170,
  171,
  173,
  174,
  175,
  176,
  177,
  180,
  183,
  188,
  189,
  191,
  192,
  194,
  195,
  196,
  197,
  198,
  201,
  204,
  209,
  210,
  212,
  213,
  215,
  216,
  217,
  218,
  219,
  222,
  225,
  230,
  231,
  233,
  234,
  236,
  237,
  238,
  239,
  240]
def addrL_3 : List Addr := [243,
  246,
  251,
  252,
  254,
  255,
  257,
  258,
  259,
  260,
  261,
  264,
  267,
  272,
  273,
  275,
  276,
  278,
  279,
  280,
  281,
  282,
  285,
  288,
  293,
  294,
  296,
  297,
  299,
  300,
  301,
  302,
  303,
  306,
  309,
  310,
  311,
  313,
  314,
  316]
def addrL_4 : List Addr := [317,
  318,
  320,
  321,
  323,
  324,
  325,
  327,
  328,
  330,
  331,
  332,
  334,
  335,
  337,
  338,
  339,
  341,
  342,
  344,
  345,
  346,
  349,
  350,
  351,
  353,
  354,
  356,
  357,
  358,
  361,
  362,
  363,
  365,
  366,
  368,
  369,
  370,
  373,
  374]
def addrL_5 : List Addr := [375,
  377,
  378,
  380,
  381,
  382,
  384,
  385,
  387,
  388,
  389,
  392,
  393,
  401,
  403,
  404,
  406,
  407,
  408,
  410,
  411,
  413,
  414,
  415,
  417,
  418,
  420,
  421,
  422,
  424,
  425,
  427,
  428,
  429,
  432,
  433,
  434,
  436,
  437,
  439]
def addrL_6 : List Addr := [440,
  441,
  442,
  443,
  444,
  445,
  446,
  447,
  448,
  458,
  459,
  461,
  462,
  464,
  465,
  466,
  468,
  469,
  471,
  472,
  473,
  476,
  477,
  478,
  479,
  480,
  481,
  482,
  485,
  487,
  488,
  490,
  491,
  492,
  495,
  496,
  497,
  500,
  501,
  502]
def addrL_7 : List Addr := [504,
  505,
  507,
  508,
  509,
  511,
  512,
  514,
  515,
  523,
  524,
  526,
  527,
  529,
  530,
  531,
  533,
  534,
  536,
  537,
  538,
  540,
  541,
  543,
  544,
  545,
  547,
  548,
  550,
  551,
  552,
  554,
  555,
  557,
  558,
  559,
  561,
  562,
  564,
  565]
def addrL_8 : List Addr := [566,
  568,
  569,
  571,
  572,
  573,
  575,
  576,
  578,
  579,
  580,
  582,
  583,
  585,
  586,
  587,
  589,
  590,
  592,
  593,
  594,
  595,
  596,
  597,
  598,
  601,
  603,
  604,
  606,
  607,
  608,
  610,
  611,
  613,
  614,
  615,
  618,
  619,
  620,
  623]
def addrL_9 : List Addr := [624,
  625,
  628,
  629,
  630,
  632,
  633,
  635,
  636,
  637,
  639,
  640,
  642,
  643,
  644,
  647,
  648]
def addrL : List Addr := addrL_0 ++ addrL_1 ++ addrL_2 ++ addrL_3 ++ addrL_4 ++ addrL_5 ++ addrL_6 ++ addrL_7 ++ addrL_8 ++ addrL_9
def looseL_0 : List Str := ["_wall",
  "is_plain_int",
  "is_int_within",
  "is_pair",
  "is_load",
  "is_free",
  "with_pair",
  "without_pair",
  "call_at",
  "loads_out_of",
  "_has_outs",
  "doors_left",
  "open_pairs",
  "free_for",
  "placed",
  "unplaced",
  "places",
  "CallError",
  "BadShare",
  "BadExchange",
  "NoStanding",
  "NoPair",
  "NoDoor",
  "BadRule",
  "TooMany"]
def looseL_1 : List Str := ["MOST_SHAPES",
  "is_standing",
  "empty",
  "check_standing",
  "check_pair",
  "check_doors",
  "all_shapes",
  "shapes_up_to",
  "_add_lots",
  "_has_doors",
  "_less_doors",
  "MOST_STANDINGS",
  "safe_fault",
  "_call_fault",
  "_end_fault",
  "MOST_SWITCHES",
  "MOST_DOORS",
  "MOST_MIDDLES",
  "_is_side",
  "Exchange",
  "Rule",
  "is_word",
  "_pick_by_word",
  "_copied_table",
  "_is_operand"]
def looseL_2 : List Str := ["_parts",
  "Share",
  "_law_flow",
  "_law_pick",
  "_law_doors",
  "_law_free",
  "_law_loads",
  "_law_exchange",
  "_law_wrong"]
def looseL : List Str := looseL_0 ++ looseL_1 ++ looseL_2
abbrev hR : PySem.W.OpenRow := PySem.W.OpenLaw.row PySem.Challenge.rw_callsthrough_k27_safe_lists_are_judged
abbrev hk : PySem.W.Hook := Hz.hookA addrL hfaL hfnL [] [("_pick_by_word", none)] (fun K => hexL.all fun t => t K) hxsL
def ob (s : PySem.W.SharedT) : Hz.AlZ := Hz.obsA addrL hfaL hfnL [] [("_pick_by_word", none)] (fun K => hexL.all fun t => t K) hxsL (HandSHeadRun.getT s)
theorem ob_eq (s : PySem.W.SharedT) : ob s = hk.obs s.abs := Hz.obsA_eq (HandSHeadRun.getT_eq s)
theorem head_run (w : World) : HandSHeadRun.RunEqI hR (PySem.W.view hR.prog [0, 70]) hk ob 9000 looseL w := by
  unfold HandSHeadRun.RunEqI
  kernel_rfl
theorem facts {w : World} {K : PySem.W.Frag} {h : Heap} {mg : Str → Option Value} {fa : Addr} (X : K.In h) (G : h.Ns mainGlobals mg) (hfa : mg "law" = some (.ref fa)) (c : Hz.SaysZ hfaL hfnL [] [("_pick_by_word", none)] (fun K => hexL.all fun t => t K) hxsL w h K) : ∃ fd : FuncData, (∀ (s : Shared) (v : Value), BindsTo s fd ⟨[v], []⟩ [("_law_script", v)]) ∧ ∀ base : Heap, K.In base → base.Ns mainGlobals mg → LamX.TabB base mg (He.cT K ("_pick_by_word", none)).1 (He.cT K ("_pick_by_word", none)).2 → FnOk (PySem.Challenge.rw_callsthrough_k27_safe_lists_are_judged).prog w K mg base CX0 8 fa fd ["_law_script"] (spLawT (He.cT K ("_pick_by_word", none)).2 K) := by
  obtain ⟨oc_is_plain_int, od_is_plain_int, sl_is_plain_int, kV_is_plain_int, dc_is_plain_int, pm_is_plain_int, an_is_plain_int, cd_is_plain_int, ct_is_plain_int, l_is_plain_int, c_is_plain_int, k_is_plain_int⟩ := Hz.raw (c.def_ 0 rfl)
  obtain ⟨oc_is_int_within, od_is_int_within, sl_is_int_within, kV_is_int_within, dc_is_int_within, pm_is_int_within, an_is_int_within, cd_is_int_within, ct_is_int_within, l_is_int_within, c_is_int_within, k_is_int_within⟩ := Hz.raw (c.def_ 1 rfl)
  obtain ⟨oc_is_pair, od_is_pair, sl_is_pair, kV_is_pair, dc_is_pair, pm_is_pair, an_is_pair, cd_is_pair, ct_is_pair, l_is_pair, c_is_pair, k_is_pair⟩ := Hz.raw (c.def_ 2 rfl)
  obtain ⟨oc_is_load, od_is_load, sl_is_load, kV_is_load, dc_is_load, pm_is_load, an_is_load, cd_is_load, ct_is_load, l_is_load, c_is_load, k_is_load⟩ := Hz.raw (c.def_ 3 rfl)
  obtain ⟨oc_is_side, od_is_side, sl_is_side, kV_is_side, dc_is_side, pm_is_side, an_is_side, cd_is_side, ct_is_side, l_is_side, c_is_side, k_is_side⟩ := Hz.raw (c.def_ 4 rfl)
  obtain ⟨oc_is_free, od_is_free, sl_is_free, kV_is_free, dc_is_free, pm_is_free, an_is_free, cd_is_free, ct_is_free, l_is_free, c_is_free, k_is_free⟩ := Hz.raw (c.def_ 5 rfl)
  obtain ⟨oc_with_pair, od_with_pair, sl_with_pair, kV_with_pair, dc_with_pair, pm_with_pair, an_with_pair, cd_with_pair, ct_with_pair, l_with_pair, c_with_pair, k_with_pair⟩ := Hz.raw (c.def_ 6 rfl)
  obtain ⟨oc_free_for, od_free_for, sl_free_for, kV_free_for, dc_free_for, pm_free_for, an_free_for, cd_free_for, ct_free_for, l_free_for, c_free_for, k_free_for⟩ := Hz.raw (c.def_ 7 rfl)
  obtain ⟨oc_doors_left, od_doors_left, sl_doors_left, kV_doors_left, dc_doors_left, pm_doors_left, an_doors_left, cd_doors_left, ct_doors_left, l_doors_left, c_doors_left, k_doors_left⟩ := Hz.raw (c.def_ 8 rfl)
  obtain ⟨oc_open_pairs, od_open_pairs, sl_open_pairs, kV_open_pairs, dc_open_pairs, pm_open_pairs, an_open_pairs, cd_open_pairs, ct_open_pairs, l_open_pairs, c_open_pairs, k_open_pairs⟩ := Hz.raw (c.def_ 9 rfl)
  obtain ⟨oc_placed, od_placed, sl_placed, kV_placed, dc_placed, pm_placed, an_placed, cd_placed, ct_placed, l_placed, c_placed, k_placed⟩ := Hz.raw (c.def_ 10 rfl)
  obtain ⟨oc_is_standing, od_is_standing, sl_is_standing, kV_is_standing, dc_is_standing, pm_is_standing, an_is_standing, cd_is_standing, ct_is_standing, l_is_standing, c_is_standing, k_is_standing⟩ := Hz.raw (c.def_ 11 rfl)
  obtain ⟨oc_empty, od_empty, sl_empty, kV_empty, dc_empty, pm_empty, an_empty, cd_empty, ct_empty, l_empty, c_empty, k_empty⟩ := Hz.raw (c.def_ 12 rfl)
  obtain ⟨oc_is_word, od_is_word, sl_is_word, kV_is_word, dc_is_word, pm_is_word, an_is_word, cd_is_word, ct_is_word, l_is_word, c_is_word, k_is_word⟩ := Hz.raw (c.def_ 13 rfl)
  obtain ⟨oc_pick_by_word, od_pick_by_word, sl_pick_by_word, kV_pick_by_word, dc_pick_by_word, pm_pick_by_word, an_pick_by_word, cd_pick_by_word, ct_pick_by_word, l_pick_by_word, c_pick_by_word, k_pick_by_word⟩ := Hz.raw (c.def_ 14 rfl)
  obtain ⟨oc_safe_fault, od_safe_fault, sl_safe_fault, kV_safe_fault, dc_safe_fault, pm_safe_fault, an_safe_fault, cd_safe_fault, ct_safe_fault, l_safe_fault, c_safe_fault, k_safe_fault⟩ := Hz.raw (c.def_ 15 rfl)
  obtain ⟨oc_call_fault, od_call_fault, sl_call_fault, kV_call_fault, dc_call_fault, pm_call_fault, an_call_fault, cd_call_fault, ct_call_fault, l_call_fault, c_call_fault, k_call_fault⟩ := Hz.raw (c.def_ 16 rfl)
  obtain ⟨oc_flow, od_flow, sl_flow, kV_flow, dc_flow, pm_flow, an_flow, cd_flow, ct_flow, l_flow, c_flow, k_flow⟩ := Hz.raw (c.def_ 17 rfl)
  obtain ⟨oc_pick, od_pick, sl_pick, kV_pick, dc_pick, pm_pick, an_pick, cd_pick, ct_pick, l_pick, c_pick, k_pick⟩ := Hz.raw (c.def_ 18 rfl)
  obtain ⟨oc_doors, od_doors, sl_doors, kV_doors, dc_doors, pm_doors, an_doors, cd_doors, ct_doors, l_doors, c_doors, k_doors⟩ := Hz.raw (c.def_ 19 rfl)
  obtain ⟨oc_free, od_free, sl_free, kV_free, dc_free, pm_free, an_free, cd_free, ct_free, l_free, c_free, k_free⟩ := Hz.raw (c.def_ 20 rfl)
  obtain ⟨oc_loads, od_loads, sl_loads, kV_loads, dc_loads, pm_loads, an_loads, cd_loads, ct_loads, l_loads, c_loads, k_loads⟩ := Hz.raw (c.def_ 21 rfl)
  obtain ⟨oc_exchange, od_exchange, sl_exchange, kV_exchange, dc_exchange, pm_exchange, an_exchange, cd_exchange, ct_exchange, l_exchange, c_exchange, k_exchange⟩ := Hz.raw (c.def_ 22 rfl)
  obtain ⟨oc_wrong, od_wrong, sl_wrong, kV_wrong, dc_wrong, pm_wrong, an_wrong, cd_wrong, ct_wrong, l_wrong, c_wrong, k_wrong⟩ := Hz.raw (c.def_ 23 rfl)
  obtain ⟨oc_law, od_law, sl_law, kV_law, dc_law, pm_law, an_law, cd_law, ct_law, l_law, c_law, k_law⟩ := Hz.raw (c.def_ 24 rfl)
  obtain ⟨oc_Exchange_init, od_Exchange_init, sl_Exchange_init, kV_Exchange_init, dc_Exchange_init, pm_Exchange_init, an_Exchange_init, cd_Exchange_init, ct_Exchange_init, l_Exchange_init, c_Exchange_init, k_Exchange_init⟩ := Hz.raw (c.def_ 25 rfl)
  obtain ⟨a_Exchange_init, i_Exchange_init, _⟩ := He.meth_ok (c.fact 28 (f := .meth "Exchange" "__init__") rfl)
  obtain ⟨oc_Exchange_pairs, od_Exchange_pairs, sl_Exchange_pairs, kV_Exchange_pairs, dc_Exchange_pairs, pm_Exchange_pairs, an_Exchange_pairs, cd_Exchange_pairs, ct_Exchange_pairs, l_Exchange_pairs, c_Exchange_pairs, k_Exchange_pairs⟩ := Hz.raw (c.def_ 26 rfl)
  obtain ⟨a_Exchange_pairs, i_Exchange_pairs, _⟩ := He.meth_ok (c.fact 29 (f := .meth "Exchange" "pairs") rfl)
  obtain ⟨oc_Rule_init, od_Rule_init, sl_Rule_init, kV_Rule_init, dc_Rule_init, pm_Rule_init, an_Rule_init, cd_Rule_init, ct_Rule_init, l_Rule_init, c_Rule_init, k_Rule_init⟩ := Hz.raw (c.def_ 27 rfl)
  obtain ⟨a_Rule_init, i_Rule_init, _⟩ := He.meth_ok (c.fact 30 (f := .meth "Rule" "__init__") rfl)
  obtain ⟨oc_Rule_pick, od_Rule_pick, sl_Rule_pick, kV_Rule_pick, dc_Rule_pick, pm_Rule_pick, an_Rule_pick, cd_Rule_pick, ct_Rule_pick, l_Rule_pick, c_Rule_pick, k_Rule_pick⟩ := Hz.raw (c.def_ 28 rfl)
  obtain ⟨a_Rule_pick, i_Rule_pick, _⟩ := He.meth_ok (c.fact 31 (f := .meth "Rule" "pick") rfl)
  obtain ⟨oc_i, od_i, sl_i, kV_i, dc_i, pm_i, an_i, cd_i, ct_i, T_i, ocT, odT, tk, nTt, slT, i_l, i_c, i_k, i_t⟩ := Hz.raw1 (c.def_ 29 rfl)
  obtain ⟨i_a, i_f, _⟩ := He.meth_ok (c.fact 32 (f := .meth "Share" "__init__") rfl)
  obtain ⟨t_MOST_SWITCHES, y_MOST_SWITCHES⟩ := Hz.int_raw (c.fact 52 (f := .int "MOST_SWITCHES" 4) rfl)
  obtain ⟨t_MOST_DOORS, y_MOST_DOORS⟩ := Hz.int_raw (c.fact 53 (f := .int "MOST_DOORS" 4) rfl)
  obtain ⟨t_MOST_MIDDLES, y_MOST_MIDDLES⟩ := Hz.int_raw (c.fact 54 (f := .int "MOST_MIDDLES" 7) rfl)
  obtain ⟨t_MOST_STANDINGS, y_MOST_STANDINGS⟩ := Hz.int_raw (c.fact 55 (f := .int "MOST_STANDINGS" 2000) rfl)
  obtain ⟨cc_pick_by_word, ec_pick_by_word⟩ := He.codeIn_ref c_pick_by_word
  have e_pick_by_word : cd_pick_by_word = .ref (He.cT K ("_pick_by_word", none)).1 := ec_pick_by_word.trans (congrArg Value.ref (He.codeOf_eq (p := ("_pick_by_word", none)) l_pick_by_word ec_pick_by_word).symm)
  exact all_mk X G hfa (He.eqO_ok (c.fact 0 (f := .glo "Exchange") rfl)) (He.eqO_ok (c.fact 1 (f := .glo "Share") rfl)) (He.eqO_ok (c.fact 2 (f := .glo "Rule") rfl)) (He.eqO_ok (c.fact 3 (f := .glo "is_plain_int") rfl)) l_is_plain_int c_is_plain_int k_is_plain_int (He.eqO_ok (c.fact 4 (f := .glo "is_int_within") rfl)) l_is_int_within c_is_int_within k_is_int_within (He.eqO_ok (c.fact 5 (f := .glo "is_pair") rfl)) l_is_pair c_is_pair k_is_pair (He.eqO_ok (c.fact 6 (f := .glo "is_load") rfl)) l_is_load c_is_load k_is_load (He.eqO_ok (c.fact 7 (f := .glo "_is_side") rfl)) l_is_side c_is_side k_is_side (He.eqO_ok (c.fact 8 (f := .glo "is_free") rfl)) l_is_free c_is_free k_is_free (He.eqO_ok (c.fact 9 (f := .glo "with_pair") rfl)) l_with_pair c_with_pair k_with_pair (He.eqO_ok (c.fact 10 (f := .glo "free_for") rfl)) l_free_for c_free_for k_free_for (He.eqO_ok (c.fact 11 (f := .glo "doors_left") rfl)) l_doors_left c_doors_left k_doors_left (He.eqO_ok (c.fact 12 (f := .glo "open_pairs") rfl)) l_open_pairs c_open_pairs k_open_pairs (He.eqO_ok (c.fact 13 (f := .glo "placed") rfl)) l_placed c_placed k_placed (He.eqO_ok (c.fact 14 (f := .glo "is_standing") rfl)) l_is_standing c_is_standing k_is_standing (He.eqO_ok (c.fact 15 (f := .glo "empty") rfl)) l_empty c_empty k_empty (He.eqO_ok (c.fact 16 (f := .glo "is_word") rfl)) l_is_word c_is_word k_is_word (He.eqO_ok (c.fact 17 (f := .glo "_pick_by_word") rfl)) l_pick_by_word c_pick_by_word k_pick_by_word (He.eqO_ok (c.fact 18 (f := .glo "safe_fault") rfl)) l_safe_fault c_safe_fault k_safe_fault (He.eqO_ok (c.fact 19 (f := .glo "_call_fault") rfl)) l_call_fault c_call_fault k_call_fault (He.eqO_ok (c.fact 20 (f := .glo "_law_flow") rfl)) l_flow c_flow k_flow (He.eqO_ok (c.fact 21 (f := .glo "_law_pick") rfl)) l_pick c_pick k_pick (He.eqO_ok (c.fact 22 (f := .glo "_law_doors") rfl)) l_doors c_doors k_doors (He.eqO_ok (c.fact 23 (f := .glo "_law_free") rfl)) l_free c_free k_free (He.eqO_ok (c.fact 24 (f := .glo "_law_loads") rfl)) l_loads c_loads k_loads (He.eqO_ok (c.fact 25 (f := .glo "_law_exchange") rfl)) l_exchange c_exchange k_exchange (He.eqO_ok (c.fact 26 (f := .glo "_law_wrong") rfl)) l_wrong c_wrong k_wrong (He.eqO_ok (c.fact 27 (f := .glo "law") rfl)) l_law c_law k_law a_Exchange_init i_Exchange_init l_Exchange_init c_Exchange_init k_Exchange_init a_Exchange_pairs i_Exchange_pairs l_Exchange_pairs c_Exchange_pairs k_Exchange_pairs a_Rule_init i_Rule_init l_Rule_init c_Rule_init k_Rule_init a_Rule_pick i_Rule_pick l_Rule_pick c_Rule_pick k_Rule_pick (of_decide_eq_true (c.ex 0 rfl)) (of_decide_eq_true (c.ex 1 rfl)) (of_decide_eq_true (c.ex 2 rfl)) (of_decide_eq_true (c.ex 3 rfl)) (of_decide_eq_true (c.ex 4 rfl)) (of_decide_eq_true (c.ex 5 rfl)) (of_decide_eq_true (c.ex 6 rfl)) (of_decide_eq_true (c.ex 7 rfl)) (of_decide_eq_true (c.ex 8 rfl)) (of_decide_eq_true (c.ex 9 rfl)) (of_decide_eq_true (c.ex 10 rfl)) (of_decide_eq_true (c.ex 11 rfl)) (of_decide_eq_true (c.ex 12 rfl)) (of_decide_eq_true (c.ex 13 rfl)) (of_decide_eq_true (c.ex 14 rfl)) (of_decide_eq_true (c.ex 15 rfl)) (of_decide_eq_true (c.ex 16 rfl)) (of_decide_eq_true (c.ex 17 rfl)) (of_decide_eq_true (c.ex 18 rfl)) (of_decide_eq_true (c.ex 19 rfl)) (of_decide_eq_true (c.ex 20 rfl)) (of_decide_eq_true (c.ex 21 rfl)) (of_decide_eq_true (c.ex 22 rfl)) (of_decide_eq_true (c.ex 23 rfl)) (of_decide_eq_true (c.ex 24 rfl)) (of_decide_eq_true (c.ex 25 rfl)) (of_decide_eq_true (c.ex 26 rfl)) (of_decide_eq_true (c.ex 27 rfl)) (of_decide_eq_true (c.ex 28 rfl)) (of_decide_eq_true (c.ex 29 rfl)) (of_decide_eq_true (c.ex 30 rfl)) (of_decide_eq_true (c.ex 31 rfl)) (of_decide_eq_true (c.ex 32 rfl)) (of_decide_eq_true (c.ex 33 rfl)) (of_decide_eq_true (c.ex 34 rfl)) (of_decide_eq_true (c.ex 35 rfl)) (of_decide_eq_true (c.ex 36 rfl)) (of_decide_eq_true (c.ex 37 rfl)) (of_decide_eq_true (c.ex 38 rfl)) (of_decide_eq_true (c.ex 39 rfl)) (of_decide_eq_true (c.ex 40 rfl)) (of_decide_eq_true (c.ex 41 rfl)) (of_decide_eq_true (c.ex 42 rfl)) (of_decide_eq_true (c.ex 43 rfl)) (of_decide_eq_true (c.ex 44 rfl)) (of_decide_eq_true (c.ex 45 rfl)) (of_decide_eq_true (c.ex 46 rfl)) (of_decide_eq_true (c.ex 47 rfl)) (of_decide_eq_true (c.ex 48 rfl)) (of_decide_eq_true (c.ex 49 rfl)) (of_decide_eq_true (c.ex 50 rfl)) (of_decide_eq_true (c.ex 51 rfl)) (of_decide_eq_true (c.ex 52 rfl)) (of_decide_eq_true (c.ex 53 rfl)) (of_decide_eq_true (c.ex 54 rfl)) (of_decide_eq_true (c.ex 55 rfl)) (of_decide_eq_true (c.ex 56 rfl)) (of_decide_eq_true (c.ex 57 rfl)) (of_decide_eq_true (c.ex 58 rfl)) (of_decide_eq_true (c.ex 59 rfl)) (of_decide_eq_true (c.ex 60 rfl)) (of_decide_eq_true (c.ex 61 rfl)) (Hz.wdB_ok ⟨(of_decide_eq_true (c.ex 62 rfl)), (of_decide_eq_true (c.ex 63 rfl))⟩ (c.ex 64 rfl)) (of_decide_eq_true (c.ex 65 rfl)) (of_decide_eq_true (c.ex 66 rfl)) (of_decide_eq_true (c.ex 67 rfl)) (of_decide_eq_true (c.ex 68 rfl)) (of_decide_eq_true (c.ex 69 rfl)) i_a i_f i_l i_c i_k i_t (of_decide_eq_true (c.ex 70 rfl)) (He.eqO_ok (c.fact 33 (f := .free "len") rfl)) (He.eqO_ok (c.fact 34 (f := .free "abs") rfl)) (He.eqO_ok (c.fact 35 (f := .free "int") rfl)) (He.eqO_ok (c.fact 36 (f := .free "bool") rfl)) (He.eqO_ok (c.fact 37 (f := .free "tuple") rfl)) (He.eqO_ok (c.fact 38 (f := .free "list") rfl)) (He.eqO_ok (c.fact 39 (f := .free "str") rfl)) (He.eqO_ok (c.fact 40 (f := .free "dict") rfl)) (He.eqO_ok (c.fact 41 (f := .free "isinstance") rfl)) (He.eqO_ok (c.fact 42 (f := .free "all") rfl)) (He.eqO_ok (c.fact 43 (f := .free "any") rfl)) (He.eqO_ok (c.fact 44 (f := .free "sum") rfl)) (He.eqO_ok (c.fact 45 (f := .free "range") rfl)) (He.eqO_ok (c.fact 46 (f := .free "set") rfl)) (He.eqO_ok (c.fact 47 (f := .free "sorted") rfl)) (He.eqO_ok (c.fact 48 (f := .free "min") rfl)) (He.eqO_ok (c.fact 49 (f := .free "max") rfl)) (He.eqO_ok (c.fact 50 (f := .free "enumerate") rfl)) (He.eqO_ok (c.fact 51 (f := .free "reversed") rfl)) y_MOST_SWITCHES y_MOST_DOORS y_MOST_MIDDLES y_MOST_STANDINGS e_pick_by_word
end K27
open PySem PySem.W PySem.Calls PyProof.Rows
set_option maxRecDepth 100000 in
set_option maxHeartbeats 0 in
theorem PySem.Challenge.cw_callsthrough_k27_safe_lists_are_judged_holds : PySem.Challenge.rw_callsthrough_k27_safe_lists_are_judged.Holds := by
  w_on; o_law
  refine HandSHeadRun.head_imp (r := OpenLaw.row PySem.Challenge.rw_callsthrough_k27_safe_lists_are_judged) (q := view (OpenLaw.row PySem.Challenge.rw_callsthrough_k27_safe_lists_are_judged).prog [0, 70]) (H := K27.hk) (ob := K27.ob) (M := 9000) (loose := K27.looseL) (d := HandSHeadRun.topDef (OpenLaw.row PySem.Challenge.rw_callsthrough_k27_safe_lists_are_judged).prog 70) (kwd := []) K27.ob_eq
    K27.head_run (by kernel_rfl) (by kernel_rfl) (by kernel_rfl) (by rfl) (by first | assumption | decide +kernel) (by decide +kernel) ⟨rfl, rfl, rfl, rfl, rfl, by decide +kernel⟩ ?hw ?hc
  case hw => w_witness2
  case hc =>
    refine LamX.walk_ofTsE (l := PySem.Challenge.rw_callsthrough_k27_safe_lists_are_judged) (n := 63) (k := 8) (x := "_law_script") (CX := fun _ => L2.CX0) rfl (by decide) (by kernel_rfl) ⟨rfl, by decide, by decide⟩ ?F (fun _ _ _ _ _ z => z)
    intro w mg fa h Y G hmg0
    obtain ⟨K, KX, c⟩ := Y
    have hmg : mg ("law" : PySem.Str) = some (.ref fa) := by
      have e : (HandSHeadRun.topDef (OpenLaw.row PySem.Challenge.rw_callsthrough_k27_safe_lists_are_judged).prog 70).name = ("law" : PySem.Str) := by kernel_rfl
      rw [← e]
      exact hmg0
    obtain ⟨fd, hb, hF⟩ := K27.facts KX G hmg c
    have mt : (("_pick_by_word" : PySem.Str), (none : Option PySem.Str)) ∈ ([(("_pick_by_word" : PySem.Str), none)] : List (PySem.Str × Option PySem.Str)) := List.mem_singleton.mpr rfl
    refine ⟨K, KX, fd, [He.cT K ("_pick_by_word", none)], _, fun p hp => ?_, fun p hp => ?_, fun p hp => ?_, hb, ?_, fun base hK hN hTB => hF base hK hN (hTB _ (List.mem_singleton.mpr rfl))⟩
    · rw [List.mem_singleton.mp hp]; exact c.x.empty _ mt
    · rw [List.mem_singleton.mp hp]; exact c.x.out _ mt
    · rw [List.mem_singleton.mp hp]; exact codeHd_of_K KX (c.x.hd _ mt)
    exact fun H a ns hl _ hH hS => ⟨a, ns, rfl, hS, hl, hH _ (List.mem_singleton.mpr rfl), fun _ => rfl⟩
