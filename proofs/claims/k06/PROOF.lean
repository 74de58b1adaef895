import PyProof.Rows.All
import Wide.All
import OpenK.AllK
import Wide.FinOn
import HandS.ForMost
import HandS.IsInst
import HandS.Wide
import HandS.More
import HandS.SlotsOwn
import HandS.ClsMeth
import HandS.TupMul
import HandS.TupAny
import HandS.Gcd
import HandS.MakeKw
import HandS.Defaults
import HandS.SetFor
import HandS.Strs
import HandS.SortRule
import HandS.Zip
import HandS.Deep
import HandS.TupLe
import KE.GoesEnum
import KE.GoesMore
import HandS.DeepEq
import PyProof.SumWalkG
import PyProof.Rows.SumAny
import PyProof.WalksMore
import KE.KExcSuper
import KE.KSuper
import HandS.Exc
import HandS.ExcField
import HandS.ExcOwn
import HandS.WordsExc
import HandS.TryMany
import HandS.Star
import PyProof.P3In
import HandS.SortOrd
import HandS.NamedTupSort
import KE.DataFind
import KE.RegKSuper
import PySem.Challenge.RW_callsthrough_k06_questions_are_refused
set_option Elab.async false
set_option linter.all false
set_option maxRecDepth 100000
set_option maxHeartbeats 4000000
/-! Words of our own over the hand layer: a def by its name, its promise, its call; an own == . -/
namespace Com
open PySem PySem.Spec PyProof.Rows L2
/-! ### a def of the module, a method, a class, by their names -/
/-- the module has the name x of the def st -/
structure DefAt (K : PySem.W.Frag) (mg : Str → Option Value) (x : Str) (st : Stmt) (ps : List Str) : Prop where
  ex : ∃ (f : Addr) (fd : FuncData), Fun K x x st f fd ∧ mg x = some (.ref f) ∧ Binds K fd ps []
/-- the class at C has the method m, the def st -/
structure MethAt (K : PySem.W.Frag) (C : Addr) (m qual : Str) (st : Stmt) (ps : List Str) : Prop where
  ex : ∃ (f : Addr) (fd : FuncData), Fun K m qual st f fd ∧ Meth K C m f ∧ Binds K fd ps []
/-- the promises -/
structure DefOk (P : Program) (w : World) (K : PySem.W.Frag) (mg : Str → Option Value) (base : Heap) (CX : CXT) (k : Nat) (x : Str) (sp : Sp) : Prop where
  ex : ∃ f : Addr, FnR P w K mg base CX k f sp ∧ mg x = some (.ref f) ∧ PySem.W.keepIn K (.ref f) = true
structure MethOk (P : Program) (w : World) (K : PySem.W.Frag) (mg : Str → Option Value) (base : Heap) (CX : CXT) (k : Nat) (C : Addr) (m : Str) (sp : Sp) : Prop where
  ex : ∃ f : Addr, FnR P w K mg base CX k f sp ∧ Meth K C m f
structure NewOk (P : Program) (w : World) (K : PySem.W.Frag) (mg : Str → Option Value) (base : Heap) (CX : CXT) (k : Nat) (x : Str) (C : Addr) (sp : Sp) : Prop where
  ex : ∃ f : Addr, FnR P w K mg base CX k f sp ∧ Mk K C f
  mg : mg x = some (.ref C)
theorem DefAt.of {K : PySem.W.Frag} {mg : Str → Option Value} {h : Heap} {x : Str} {st : Stmt} {ps : List Str} {f : Addr} {oc : Value} {od an : Option Addr} {osl : Array (Option Value)} {kV doc pm cdv ct : Value}
    (X : K.In h) (G : h.Ns mainGlobals mg) (a : PySem.W.nsIn K mainGlobals x = some (some (.ref f)))
    (l : K.lookup f = some ⟨oc, od, .func (PySem.W.fnOf x x (defArgs st) (defBody st) (defScope st) .none kV doc pm an cdv ct), osl⟩) (c : PySem.W.codeIn K cdv x = true) (k : PySem.W.keepIn K (.ref f) = true)
    (b : ∀ (kV doc pm : Value) (an : Option Addr) (cdv ct : Value) (us : List Value), us.length = ps.length → bindArgs (PySem.W.fnOf x x (defArgs st) (defBody st) (defScope st) .none kV doc pm an cdv ct) ⟨us, []⟩ = pure (ps.zip us)) :
    DefAt K mg x st ps := ⟨f, _, fun_mk l c k, PySem.W.mg_of X G a, (fun_mk l c k).binds b⟩
theorem MethAt.of {K : PySem.W.Frag} {C : Addr} {m qual : Str} {st : Stmt} {ps : List Str} {f : Addr} {oc : Value} {od an : Option Addr} {osl : Array (Option Value)} {kV doc pm cdv ct : Value}
    (a : PySem.W.findIn K (.ref C) m = some (some (.ref f))) (i : PySem.W.isFn K (.ref f) = true)
    (l : K.lookup f = some ⟨oc, od, .func (PySem.W.fnOf m qual (defArgs st) (defBody st) (defScope st) .none kV doc pm an cdv ct), osl⟩) (c : PySem.W.codeIn K cdv qual = true) (k : PySem.W.keepIn K (.ref f) = true)
    (b : ∀ (kV doc pm : Value) (an : Option Addr) (cdv ct : Value) (us : List Value), us.length = ps.length → bindArgs (PySem.W.fnOf m qual (defArgs st) (defBody st) (defScope st) .none kV doc pm an cdv ct) ⟨us, []⟩ = pure (ps.zip us)) :
    MethAt K C m qual st ps := ⟨f, _, fun_mk l c k, ⟨a, i, k⟩, (fun_mk l c k).binds b⟩
theorem raw0 {P : Program} {w : World} {K : PySem.W.Frag} {mg : Str → Option Value} {base : Heap} {CX : CXT} {k : Nat} {f : Addr} {fd : FuncData} {ps : List Str} {sp : Sp} (F : FnOk P w K mg base CX k f fd ps sp) (b : Binds K fd ps []) : FnR P w K mg base CX k f sp :=
  (F.raw (ds := []) (dvs := []) b .nil).imp fun vs H Q E h => by rw [List.append_nil]; exact h
section
variable {P : Program} {w : World} {K : PySem.W.Frag} {mg : Str → Option Value} {base : Heap} {x qual : Str} {C : Addr} {st : Stmt} {ps N : List Str} {k : Nat} {sp : Sp}
theorem DefAt.ok (D : DefAt K mg x st ps) (S : FnScope N ps (defScope st)) (len : ∀ vs H Q E, sp vs H Q E → vs.length = ps.length)
    (hbody : ∀ (f : Addr) (cdv : Value) (A : Around) (outer : List Env) (s : Shared) (H : Hp) (vs : List V) (Q : VK) (E : XK), Room k (A.deeper (envOfC x (defScope st) s.heap.objs.size f cdv)) → sp vs H Q E →
      ∃ t, PSs (cxOf CX0 P w K mg base N x (defScope st) f cdv A outer s H E).nox (defBody st) t ∧ t { nx := fun _ H' => Q .non H', rt := Q } (start N vs) H) : DefOk P w K mg base CX0 (k + 1) x sp := by
  obtain ⟨f, fd, F, m, b⟩ := D.ex
  exact ⟨f, raw0 (F.ok S len (fun cdv A outer s H vs Q E hr h => hbody f cdv A outer s H vs Q E hr h)) b, m, F.kp⟩
theorem MethAt.fn (D : MethAt K C x qual st ps) (S : FnScope N ps (defScope st)) (len : ∀ vs H Q E, sp vs H Q E → vs.length = ps.length)
    (hbody : ∀ (f : Addr) (cdv : Value) (A : Around) (outer : List Env) (s : Shared) (H : Hp) (vs : List V) (Q : VK) (E : XK), Room k (A.deeper (envOfC qual (defScope st) s.heap.objs.size f cdv)) → sp vs H Q E →
      ∃ t, PSs (cxOf CX0 P w K mg base N qual (defScope st) f cdv A outer s H E).nox (defBody st) t ∧ t { nx := fun _ H' => Q .non H', rt := Q } (start N vs) H) : MethOk P w K mg base CX0 (k + 1) C x sp := by
  obtain ⟨f, fd, F, m, b⟩ := D.ex
  exact ⟨f, raw0 (F.ok S len (fun cdv A outer s H vs Q E hr h => hbody f cdv A outer s H vs Q E hr h)) b, m⟩
theorem DefOk.mono {CX : CXT} {j : Nat} (D : DefOk P w K mg base CX j x sp) (h : j ≤ k) : DefOk P w K mg base CX k x sp := let ⟨f, F, m, kp⟩ := D.ex; ⟨f, F.mono h, m, kp⟩
theorem MethOk.mono {CX : CXT} {j : Nat} (D : MethOk P w K mg base CX j C x sp) (h : j ≤ k) : MethOk P w K mg base CX k C x sp := let ⟨f, F, m⟩ := D.ex; ⟨f, F.mono h, m⟩
/-- an __init__ makes its class makeable -/
theorem MethOk.new {CX : CXT} (D : MethOk P w K mg base CX k C "__init__" sp) (mk : PySem.W.makesIn K C = true) (kc : PySem.W.keepIn K (.ref C) = true) (hm : mg x = some (.ref C)) : NewOk P w K mg base CX k x C sp :=
  let ⟨f, F, m⟩ := D.ex; ⟨⟨f, F, ⟨mk, m.at_, m.fn, kc⟩⟩, hm⟩
end
/-! ### calls -/
def tDef (sp : Sp) (E : XK) (t : TA) : TE := fun σ H Q => t σ H fun vs H1 => sp vs H1 Q E
def tNew (C : Addr) (sp : Sp) (E : XK) (t : TA) : TE := fun σ H Q => t σ H fun vs H1 => ∀ x dx, H1 x = none → H1 dx = none → dx ≠ x →
  sp (.ref x :: vs) (upd (upd H1 dx (.own x)) x (.ins C dx [])) (fun v H2 => v = .non ∧ Q (.ref x) H2) E
def tMth (C : Addr) (m : Str) (sp : Sp) (E : XK) (ta : TE) (t : TA) : TE := fun σ H Q => ta σ H fun x H1 => ∃ a dx fs, x = .ref a ∧ H1 a = some (.ins C dx fs) ∧ fs.lookup m = none ∧ t σ H1 fun vs H2 => sp (x :: vs) H2 Q E
section
variable {X : Cx} {CX : CXT} {k j : Nat} {C f : Addr} {sp : Sp} {E : XK} {x m : Str} {p pos apos : Pos} {o e : Expr} {es : List Expr} {ta : TE} {t : TA} {i : Nat}
theorem runR {pins : List (Addr × Obj)} {σ : L2.St} {H : Hp} {s : Shared} {Q : VK} {us : List Value} {vs : List V} (F : FnR X.prog X.w X.K X.mg X.base CX j f sp) (hr : Room k X.A) (hjk : j ≤ k) (hx : Passes CX X E) (I : Inv X pins σ H s) (r : Vals vs us) (h : sp vs H Q E) :
    wpAny (model X.prog X.w) X.A (call (.ref f) us) (EP X pins σ Q) X.xe s := wpAny_call (run_fnR F (hr.mono hjk) hx I r h)
theorem pe_def (D : DefOk X.prog X.w X.K X.mg X.base CX j x sp) (hr : Room k X.A) (hjk : j ≤ k) (hx : Passes CX X E) (ha : PA X (e :: es) t) (hg : Gl X x := by rfl) (hdb : (x == ("__debug__" : Str)) = false := by decide)
    (he : starEach (e :: es) X.env = (false, eval e X.env) :: starEach es X.env := by rfl) (hpl : (backTo pos (starEach es X.env)).any (·.1) = false := by rfl) :
    PE X (.Call (.Name x p) (e :: es) [] pos) (tDef sp E t) := by
  obtain ⟨f, F, m, kp⟩ := D.ex
  refine ⟨fun pins s σ H Q I h => ?_⟩
  refine wpAny_Call_Name_kw (ld_glob I hg m ?_ hdb)
  refine PySem.W.callWith_K (h₀ := X.base) I.ok.mod.kin kp (thn (ha.run pos pins s σ H _ I h) fun us s1 ⟨vs, H1, I1, r, q⟩ => ⟨I1.kIn, ?_⟩) he hpl
  exact runR F hr hjk hx I1 r q
theorem runNew {pins : List (Addr × Obj)} {σ : L2.St} {H : Hp} {s : Shared} {Q : VK} {us : List Value} {vs : List V} (M : Mk X.K C f) (F : FnR X.prog X.w X.K X.mg X.base CX j f sp) (hr : Room (k + 1) X.A) (hjk : j ≤ k)
    (hx : Passes CX X E) (I : Inv X pins σ H s) (r : Vals vs us)
    (h : ∀ x dx, H x = none → H dx = none → dx ≠ x → sp (.ref x :: vs) (upd (upd H dx (.own x)) x (.ins C dx [])) (fun v H2 => v = .non ∧ Q (.ref x) H2) E) :
    wpAny (model X.prog X.w) X.A (call (.ref C) us) (EP X pins σ Q) X.xe s := by
  have hq := h (s.heap.objs.size + 1) s.heap.objs.size (I.hok.fresh (Nat.le_succ _)) (I.hok.fresh (Nat.le_refl _)) (Nat.ne_of_lt (Nat.lt_succ_self _))
  have I2 := Inv.made (C := C) I
  have r2 : Vals (V.ref (s.heap.objs.size + 1) :: vs) (Value.ref (s.heap.objs.size + 1) :: us) := .cons rfl r
  refine wpAny_call (make_map (f := f) I.kIn M.makes M.init (beq_iff_eq.mp M.fn) (codeAny_mono (F _ X.stack _ _ (Value.ref (s.heap.objs.size + 1) :: us) _ _ E ((hr.make C us []).mono hjk)
    (I2.env0.make C us []) r2 hq) fun r s' hq' => ?_))
  cases r with
  | error e => exact hx pins σ _ _ e s' I2 hq'
  | ok fl =>
    cases fl with
    | ret u =>
      obtain ⟨v, H', I3, rv, ev, q3⟩ := I2.after hq'
      subst ev
      exact ⟨rv, ⟨V.ref (s.heap.objs.size + 1), H', I3, rfl, q3⟩⟩
    | next => exact False.elim hq'
    | brk => exact False.elim hq'
    | cont => exact False.elim hq'
theorem pe_new (M : NewOk X.prog X.w X.K X.mg X.base CX j x C sp) (hr : Room (k + 1) X.A) (hjk : j ≤ k) (hx : Passes CX X E) (ha : PA X (e :: es) t) (hg : Gl X x := by rfl) (hdb : (x == ("__debug__" : Str)) = false := by decide)
    (he : starEach (e :: es) X.env = (false, eval e X.env) :: starEach es X.env := by rfl) (hpl : (backTo pos (starEach es X.env)).any (·.1) = false := by rfl) :
    PE X (.Call (.Name x p) (e :: es) [] pos) (tNew C sp E t) := by
  obtain ⟨f, F, M1⟩ := M.ex
  refine ⟨fun pins s σ H Q I h => ?_⟩
  refine wpAny_Call_Name_kw (ld_glob I hg M.mg ?_ hdb)
  refine PySem.W.callWith_K (h₀ := X.base) I.ok.mod.kin M1.kp (thn (ha.run pos pins s σ H _ I h) fun us s1 ⟨vs, H1, I1, r, q⟩ => ⟨I1.kIn, ?_⟩) he hpl
  exact runNew M1 F hr hjk hx I1 r q
/-- the class stands in the i-th slot (cls of a classmethod) -/
def tNewL (i : Nat) (C : Addr) (sp : Sp) (E : XK) (t : TA) : TE := fun σ H Q => σ[i]? = some (some (.ref C)) ∧ tNew C sp E t σ H Q
theorem pe_newL {y : Str} (M : NewOk X.prog X.w X.K X.mg X.base CX j y C sp) (hr : Room (k + 1) X.A) (hjk : j ≤ k) (hx : Passes CX X E) (ha : PA X (e :: es) t) (hN : X.N[i]? = some x := by rfl) (hv : Vis X.env.scope x := by first | exact Or.inl rfl | exact Or.inr (Or.inl rfl) | exact Or.inr (Or.inr rfl))
    (hdb : (x == ("__debug__" : Str)) = false := by decide) (hcd : (x == ("__classdict__" : Str)) = false := by decide)
    (he : starEach (e :: es) X.env = (false, eval e X.env) :: starEach es X.env := by rfl) (hpl : (backTo pos (starEach es X.env)).any (·.1) = false := by rfl) :
    PE X (.Call (.Name x p) (e :: es) [] pos) (tNewL i C sp E t) := by
  obtain ⟨f, F, M1⟩ := M.ex
  refine ⟨fun pins s σ H Q I h => ?_⟩
  obtain ⟨hs, ht⟩ := h
  refine wpAny_Call_Name_kw (thn ((pe_var (pos := p) hN hv hdb hcd).run pins s σ H (fun v H1 => v = .ref C ∧ H1 = H) I ⟨.ref C, hs, rfl, rfl⟩) fun u s1 ⟨v, H1, I1, r1, q1⟩ => ?_)
  obtain ⟨rfl, rfl⟩ := q1
  cases r1
  refine PySem.W.callWith_K (h₀ := X.base) I.ok.mod.kin M1.kp (thn (ha.run pos pins s1 σ _ _ I1 ht) fun us s2 ⟨vs, H2, I2, r, q⟩ => ⟨I2.kIn, ?_⟩) he hpl
  exact runNew M1 F hr hjk hx I2 r q
theorem pe_mth {pl : Sem Bool} (he : PE X o ta) (c : Cls X.K C) (M : MethOk X.prog X.w X.K X.mg X.base CX j C m sp) (hr : Room k X.A) (hjk : j ≤ k) (hx : Passes CX X E) (ha : PA X (e :: es) t)
    (hst : starEach (e :: es) X.env = (false, eval e X.env) :: starEach es X.env := by rfl) (hpl : (backTo pos (starEach es X.env)).any (·.1) = false := by rfl)
    (ht : eval (.Call (.Attribute o m apos) (e :: es) [] pos) X.env = (do
      let ov ← eval o X.env
      standAt apos.atName
      let (f, first) ← holding [ov] (getMethod ov m pl)
      callWith pos f first (backTo pos (starEach (e :: es) X.env)) (backToKw pos (keywordEach [] X.env))) := by rfl) :
    PE X (.Call (.Attribute o m apos) (e :: es) [] pos) (tMth C m sp E ta t) := by
  obtain ⟨g, F, hm⟩ := M.ex
  refine ⟨fun pins s σ H Q I h => ?_⟩
  refine PySem.W.methodCall_KW (pl := pl) (thn (he.run pins s σ H _ I h) fun u s1 ⟨x, H1, I1, rx, a, dx, fs, ex, ea, l, q⟩ => ?_) ht
  subst ex
  obtain rfl : u = Value.ref a := rx
  refine getmeth_ok I1 ea c hm l ?_
  refine PySem.W.callWith_K (first := [.ref a]) (h₀ := X.base) I.ok.mod.kin hm.kp (thn (ha.run pos pins s1 σ H1 _ I1 q) fun us s2 ⟨vs, H2, I2, r, q2⟩ => ⟨I2.kIn, ?_⟩) hst hpl
  exact runR (us := .ref a :: us) (vs := .ref a :: vs) F hr hjk hx I2 (.cons rfl r) q2
theorem pe_mth0 {pl : Sem Bool} (he : PE X o ta) (c : Cls X.K C) (M : MethOk X.prog X.w X.K X.mg X.base CX j C m sp) (hr : Room k X.A) (hjk : j ≤ k) (hx : Passes CX X E)
    (ht : eval (.Call (.Attribute o m apos) [] [] pos) X.env = (do
      let ov ← eval o X.env
      standAt apos.atName
      let (f, first) ← holding [ov] (getMethod ov m pl)
      callWith pos f first (backTo pos (starEach [] X.env)) (backToKw pos (keywordEach [] X.env))) := by rfl) :
    PE X (.Call (.Attribute o m apos) [] [] pos) (tMth C m sp E ta tNil) := by
  obtain ⟨g, F, hm⟩ := M.ex
  refine ⟨fun pins s σ H Q I h => ?_⟩
  refine PySem.W.methodCall_KW (pl := pl) (thn (he.run pins s σ H _ I h) fun u s1 ⟨x, H1, I1, rx, a, dx, fs, ex, ea, l, q⟩ => ?_) ht
  subst ex
  obtain rfl : u = Value.ref a := rx
  refine getmeth_ok I1 ea c hm l ?_
  exact PySem.W.callWith_K0 (first := [.ref a]) I1.kIn hm.kp (runR (us := [.ref a]) (vs := [.ref a]) F hr hjk hx I1 (.cons rfl .nil) q)
/-- a classmethod, called on the class -/
structure CMethOk (P : Program) (w : World) (K : PySem.W.Frag) (mg : Str → Option Value) (base : Heap) (CX : CXT) (k : Nat) (C : Addr) (m : Str) (sp : Sp) : Prop where
  ex : ∃ (mc : Value) (p g : Addr), ClX.CRead K C mc ∧ ClX.CMet K C mc m p g ∧ FnR P w K mg base CX k g sp
theorem pe_cls {pl : Sem Bool} (he : PE X o ta) (M : CMethOk X.prog X.w X.K X.mg X.base CX j C m sp) (hr : Room k X.A) (hjk : j ≤ k) (hx : Passes CX X E) (ha : PA X (e :: es) t)
    (hst : starEach (e :: es) X.env = (false, eval e X.env) :: starEach es X.env := by rfl) (hpl : (backTo pos (starEach es X.env)).any (·.1) = false := by rfl)
    (ht : eval (.Call (.Attribute o m apos) (e :: es) [] pos) X.env = (do
      let ov ← eval o X.env
      standAt apos.atName
      let (f, first) ← holding [ov] (getMethod ov m pl)
      callWith pos f first (backTo pos (starEach (e :: es) X.env)) (backToKw pos (keywordEach [] X.env))) := by rfl) :
    PE X (.Call (.Attribute o m apos) (e :: es) [] pos) (ClX.tCMeth C sp E ta t) := by
  obtain ⟨mc, p, g, r, c, F⟩ := M.ex
  exact ClX.pe_cmeth he r c F (hr.mono hjk) hx ha hst hpl ht
end
/-- not e, by its truth as a test -/
def tNotP (t : TT) : TE := fun σ H Q => t σ H fun b H1 => Q (.bl (!b)) H1
/-! ### the places of a list, as op= reads them -/
theorem get_list {X : Cx} : PGet X (rIxL X.K) := by
  intro pins s σ H o i ov iv Q I ro ri h
  obtain ⟨p, xs, i, z, rfl, rfl, hq, he, q⟩ := h
  cases ro
  obtain ⟨t, rfl⟩ := ri
  obtain ⟨its, r, pl, hz⟩ := I.list hq
  obtain ⟨j, h1, h2, h3, h4, h5⟩ := atI_get he
  obtain ⟨w, ew, rw'⟩ := r.get h2
  have hl := r.length
  have hn := line63
  have fin : EP X pins σ Q w s := ⟨z, H, I, rw', q⟩
  by_cases h0 : 0 ≤ i
  · have hj : i.toNat = j := by
      rw [seqIndex_of h0 h5] at h1
      exact Option.some.inj h1
    exact wpAny_getItem_list pl.isList h0 (by omega) (by rw [hj]; simpa using ew) fin
  · have hj : (i + (its.toArray.size : Int)).toNat = j := by
      rw [seqIndex_neg (by omega) h4] at h1
      rw [List.size_toArray, ← hl]
      exact Option.some.inj h1
    exact wpAny_getItem_list_neg pl.isList (by omega) (by rw [List.size_toArray] <;> omega) (by omega) (by rw [hj]; simpa using ew) fin
/-! ### an own == -/
/-- x == y, x an instance of the class at C, whose __eq__ promises sp; y of any kind that is not ahead of C -/
def rEqO (K : PySem.W.Frag) (C : Addr) (sp : Sp) (E : XK) : R2 := fun x y H Q => ∃ a dx fs t, x = .ref a ∧ H a = some (.ins C dx fs) ∧ TyX K H y t ∧ PySem.W.notFirst K C t = true ∧ sp [x, y] H Q E
section
variable {X : Cx} {CX : CXT} {k j : Nat} {C : Addr} {sp : Sp} {E : XK}
theorem op_eqO (M : MethOk X.prog X.w X.K X.mg X.base CX j C "__eq__" sp) (hr : Room k X.A) (hjk : j ≤ k) (hx : Passes CX X E) : OpR X (compareOp .Eq) (rEqO X.K C sp E) := by
  obtain ⟨g, F, hm⟩ := M.ex
  intro pins s σ H x y v u Q I rx ry h
  obtain ⟨a, dx, fs, t, rfl, ha, ty, hn, q⟩ := h
  cases (show v = Value.ref a from rx)
  obtain ⟨mA, O, _⟩ := ins_get I.hok ha
  obtain ⟨od, J, _⟩ := O.look
  obtain ⟨P, Z, p, _⟩ := kit_of I ry ty
  obtain ⟨m, hF⟩ := I.fr
  show wpAny (model X.prog X.w) X.A (richCompare .Eq (.ref a) u) (EP X pins σ Q) X.xe s
  refine PySem.W.cmp_K (op := .Eq) (tb := t) hr.units0 hF I.ok.mod.kin J (Z.ty _ _ I.kIn p) hn hm.at_ hm.fn ?_
  refine wpAny_mono (runR (us := [.ref a, u]) (vs := [.ref a, y]) F hr hjk hx I (.cons rfl (.cons ry .nil)) q) (fun w s' z => ?_) fun _ _ x => x
  obtain ⟨z', H', I', rz, qz⟩ := z
  exact SlX.cmpback rz ⟨z', H', I', rz, qz⟩
end
/-! ### types stay -/
theorem TyOf.same {K : PySem.W.Frag} {H H' : Hp} (s : Same H H') {x : V} {t : Value} (h : TyOf K H x t) : TyOf K H' x t := by
  cases h with
  | non => exact .non
  | bl x => exact .bl x
  | int i => exact .int i
  | str x => exact .str x
  | flt x => exact .flt x
  | lst e => exact .lst (s _ _ e)
  | frz e => exact .frz (s _ _ e)
  | tup e => exact .tup (s _ _ e)
  | dK e => exact .dK (s _ _ e)
  | dT e => exact .dT (s _ _ e)
  | ins e cl ha hn htk hm => exact .ins (s _ _ e) cl ha hn htk hm
theorem TyX.same {K : PySem.W.Frag} {H H' : Hp} (s : Same H H') {x : V} {t : Value} (h : TyX K H x t) : TyX K H' x t := by
  cases h with
  | base h => exact .base (TyOf.same s h)
  | byt b => exact .byt b
  | set e => exact .set (s _ _ e)
  | kList e c => exact .kList e c
  | kTuple e c => exact .kTuple e c
  | kDict e c => exact .kDict e c
  | fTuple e => exact .fTuple (s _ _ e)
  | fDict e => exact .fDict (s _ _ e)
end Com
namespace Com
open PySem PySem.Spec PyProof.Rows L2
/-! ### tuples of ints, lists of pairs of ints: as data -/
def tI (ds : List Int) : PyData := .tuple (ds.map .int)
theorem eqvAll_ints : ∀ ds es : List Int, PyData.eqvAll (ds.map .int) (es.map .int) = decide (ds = es)
  | [], [] => rfl
  | [], e :: es => by simp [PyData.eqvAll]
  | d :: ds, [] => by simp [PyData.eqvAll]
  | d :: ds, e :: es => by
    rw [List.map_cons, List.map_cons, PyData.eqvAll, eqvAll_ints ds es, PyData.eqv]
    by_cases h : d = e
    · subst h
      by_cases h2 : ds = es
      · subst h2; simp
      · simp [h2]
    · simp [h]
theorem eqv_tI (ds es : List Int) : PyData.eqv (tI ds) (tI es) = decide (ds = es) := by
  show PyData.eqv (.tuple _) (.tuple _) = _
  rw [PyData.eqv]
  exact eqvAll_ints ds es
theorem lay_ints : ∀ ds : List Int, PyData.canLayAll0 (ds.map .int) = true
  | [] => rfl
  | d :: ds => by rw [List.map_cons, PyData.canLayAll0, PyData.canLay0, lay_ints ds]; rfl
theorem depth_ints : ∀ ds : List Int, PyData.depthAll (ds.map .int) = 0
  | [] => rfl
  | d :: ds => by rw [List.map_cons, PyData.depthAll, PyData.depth, depth_ints ds]; rfl
theorem shaped_tI (ds : List Int) : SeqAt.shaped (tI ds) = true := by
  show (PyData.canLay0 (.tuple _) && decide (PyData.depth (.tuple _) ≤ 64)) = true
  rw [PyData.canLay0, lay_ints, PyData.depth, depth_ints]
  rfl
theorem dpAll_ints {K : PySem.W.Frag} {H : Hp} : ∀ ds : List Int, DpAll K H (ds.map V.int) (ds.map .int)
  | [] => .nil
  | d :: ds => .cons (.int d) (dpAll_ints ds)
theorem dp_tI {K : PySem.W.Frag} {H : Hp} {a : Addr} {ds : List Int} (h : H a = some (.tup (ds.map V.int))) : Dp K H (.ref a) (tI ds) := .tup (SqT.of h) (dpAll_ints ds)
def pD (p : Int × Int) : PyData := tI [p.1, p.2]
def lP (ps : List (Int × Int)) : PyData := .list (ps.map pD)
theorem eqv_pD (p q : Int × Int) : PyData.eqv (pD p) (pD q) = decide (p = q) := by
  unfold pD
  rw [eqv_tI]
  obtain ⟨a, b⟩ := p
  obtain ⟨c, d⟩ := q
  simp
theorem eqvAll_pairs : ∀ ps qs : List (Int × Int), PyData.eqvAll (ps.map pD) (qs.map pD) = decide (ps = qs)
  | [], [] => rfl
  | [], e :: es => by simp [PyData.eqvAll]
  | d :: ds, [] => by simp [PyData.eqvAll]
  | d :: ds, e :: es => by
    rw [List.map_cons, List.map_cons, PyData.eqvAll, eqvAll_pairs ds es, eqv_pD]
    by_cases h : d = e
    · subst h
      by_cases h2 : ds = es
      · subst h2; simp
      · simp [h2]
    · simp [h]
theorem eqv_lP (ps qs : List (Int × Int)) : PyData.eqv (lP ps) (lP qs) = decide (ps = qs) := by
  show PyData.eqv (.list _) (.list _) = _
  rw [PyData.eqv]
  exact eqvAll_pairs ps qs
theorem lay_pairs : ∀ ps : List (Int × Int), PyData.canLayAll0 (ps.map pD) = true
  | [] => rfl
  | d :: ds => by
    rw [List.map_cons, PyData.canLayAll0, lay_pairs ds]
    show (PyData.canLay0 (.tuple _) && true) = true
    rw [PyData.canLay0, lay_ints]
    rfl
theorem depth_pairs : ∀ ps : List (Int × Int), PyData.depthAll (ps.map pD) ≤ 1
  | [] => by rw [List.map_nil, PyData.depthAll]; omega
  | d :: ds => by
    have := depth_pairs ds
    rw [List.map_cons, PyData.depthAll]
    have e : PyData.depth (pD d) = 1 := by
      show PyData.depth (.tuple _) = 1
      rw [PyData.depth, depth_ints]
    omega
theorem shaped_lP (ps : List (Int × Int)) : SeqAt.shaped (lP ps) = true := by
  have h := depth_pairs ps
  show (PyData.canLay0 (.list _) && decide (PyData.depth (.list _) ≤ 64)) = true
  rw [PyData.canLay0, lay_pairs, PyData.depth, Bool.true_and]
  exact decide_eq_true (by omega)
/-- at a list's places tuples of two ints: the pairs ps -/
def PairsV (H : Hp) : List V → List (Int × Int) → Prop := Paired fun v p => ∃ a, v = .ref a ∧ H a = some (.tup [.int p.1, .int p.2])
theorem PairsV.dp {K : PySem.W.Frag} {H : Hp} : ∀ {vs : List V} {ps : List (Int × Int)}, PairsV H vs ps → DpAll K H vs (ps.map pD)
  | _, _, .nil => .nil
  | _, _, .cons ⟨a, e, h⟩ t => by
    subst e
    exact .cons (dp_tI (ds := [_, _]) h) (PairsV.dp t)
theorem PairsV.same {H H' : Hp} (s : Same H H') : ∀ {vs : List V} {ps : List (Int × Int)}, PairsV H vs ps → PairsV H' vs ps
  | _, _, .nil => .nil
  | _, _, .cons ⟨a, e, h⟩ t => .cons ⟨a, e, s _ _ h⟩ (PairsV.same s t)
theorem PairsV.mono {H H' : Hp} (s : ∀ b xs, H b = some (.tup xs) → H' b = some (.tup xs)) : ∀ {vs : List V} {ps : List (Int × Int)}, PairsV H vs ps → PairsV H' vs ps
  | _, _, .nil => .nil
  | _, _, .cons ⟨a, e, h⟩ t => .cons ⟨a, e, s _ _ h⟩ (PairsV.mono s t)
theorem dp_lP {K : PySem.W.Frag} {H : Hp} {a : Addr} {vs : List V} {ps : List (Int × Int)} (h : H a = some (.lst vs)) (p : PairsV H vs ps) : Dp K H (.ref a) (lP ps) := .lst (SqL.of h) p.dp
/-! ### fields -/
theorem putF_nil {f : Str} {v : V} : putF f v [] = [(f, v)] := rfl
theorem putF_ne {f g : Str} {v w : V} {fs : List (Str × V)} (h : ¬ g = f) : putF f v ((g, w) :: fs) = (g, w) :: putF f v fs := by
  show (if g = f then _ else _) = _
  rw [if_neg h]
theorem putF_eq {f : Str} {v w : V} {fs : List (Str × V)} : putF f v ((f, w) :: fs) = (f, v) :: fs := by
  show (if f = f then _ else _) = _
  rw [if_pos rfl]
theorem lk_eq {f : Str} {v : V} {fs : List (Str × V)} : List.lookup f ((f, v) :: fs) = some v := by simp [List.lookup]
theorem lk_ne {f g : Str} {v : V} {fs : List (Str × V)} (h : (f == g) = false) : List.lookup f ((g, v) :: fs) = List.lookup f fs := by simp [List.lookup, h]
theorem ifB {b : Bool} {A B : Prop} (h1 : b = true → A) (h2 : b = false → B) : if b = true then A else B := by
  cases b with
  | true => exact iteT (h1 rfl)
  | false => exact iteF (h2 rfl)
theorem mulm {x m y : Int} (h0 : 0 < m) (h : m < 2 ^ 64) : CMul (x % m) y :=
  .inl ⟨by have := Int.emod_nonneg x (show m ≠ 0 by omega); omega, by have := Int.emod_lt_of_pos x h0; omega⟩
theorem len1 {n : Nat} (h : n ≤ 1000) : n ≤ sizeLine := Nat.le_of_lt (small1000 h)
theorem divW {n size : Int} (h1 : 1 ≤ size) (h2 : size < 2 ^ 200) : CDivW n size := wide_div (b := 200) (by omega) (by
  have : ((2 : Int) ^ 200) = (((2 : Nat) ^ 200 : Nat) : Int) := by decide
  omega) (by decide) (by decide)
/-- all that stood but what stood at a stands; nothing new but .. -/
def But (a : Addr) (H H' : Hp) : Prop := ∀ b, b ≠ a → H' b = H b
theorem But.upd {H : Hp} {p : Addr} {o : HO} : But p H (upd H p o) := fun b hb => upd_ne hb
theorem But.same {H H' : Hp} {p : Addr} (h : But p H H') (n : H p = none) : Same H H' := fun b o e => by rw [h b (ne_of_none e n)]; exact e
theorem Same.upd {H : Hp} {p : Addr} {o : HO} (n : H p = none) : Same H (upd H p o) := fun b u e => by rw [upd_ne (ne_of_none e n)]; exact e
/-- at a the three numbers of a flow of draws -/
def FlowAt (H : Hp) (a : Addr) : Prop := ∃ n c r : Int, H a = some (.lst [.int n, .int c, .int r])
theorem FlowAt.new {H : Hp} {p : Addr} {n c r : Int} : FlowAt (upd H p (.lst [.int n, .int c, .int r])) p := ⟨n, c, r, upd_same⟩
end Com
namespace Com
open PySem PySem.Spec PyProof.Rows L2
/-! ### walks of a comprehension, by an invariant of the heap -/
theorem lp_range {lo : Int} {n : Nat} {H0 : Hp} {Qd : Hp → Prop} {B : V → Hp → (Hp → Prop) → Prop} (Pv : Nat → Hp → Prop) (h0 : Pv 0 H0) (hs : ∀ i H, i < n → Pv i H → B (.int (lo + i)) H (Pv (i + 1))) (hd : ∀ H, Pv n H → Qd H) :
    ∃ W : Nat → Nat → Hp → Prop, (∃ m, W 0 m H0) ∧ ∀ i m H, W i m H → ((Itr lo n).stop i H ∧ Qd H) ∨ ((Itr lo n).go i H ∧ ∃ Nx : Hp → Prop, (∀ H', Nx H' → ∃ m', m' < m ∧ W (i + 1) m' H') ∧ ∀ x H', (Itr lo n).yld i H x H' → B x H' Nx) := by
  refine ⟨fun i m H => m = n - i ∧ i ≤ n ∧ Pv i H, ⟨n, by simp, Nat.zero_le _, h0⟩, ?_⟩
  rintro i m H ⟨rfl, hi, p⟩
  by_cases hlt : i < n
  · refine .inr ⟨hlt, Pv (i + 1), fun H' p' => ⟨n - (i + 1), by omega, rfl, hlt, p'⟩, fun x H' y => ?_⟩
    obtain ⟨e, y⟩ := y
    subst e y
    exact hs i _ hlt p
  · have e : i = n := by omega
    subst e
    exact .inl ⟨Nat.le_refl _, hd H p⟩
theorem lp_tup {K : PySem.W.Frag} {a : Addr} {xs : List V} {H0 : Hp} {Qd : Hp → Prop} {B : V → Hp → (Hp → Prop) → Prop} (Pv : Nat → Hp → Prop) (h0 : Pv 0 H0) (hl : ∀ i H, i ≤ xs.length → Pv i H → SqT K H a xs) (hs : ∀ i x H, xs[i]? = some x → Pv i H → B x H (Pv (i + 1))) (hd : ∀ H, Pv xs.length H → Qd H) :
    ∃ W : Nat → Nat → Hp → Prop, (∃ m, W 0 m H0) ∧ ∀ i m H, W i m H → ((Itt K a).stop i H ∧ Qd H) ∨ ((Itt K a).go i H ∧ ∃ Nx : Hp → Prop, (∀ H', Nx H' → ∃ m', m' < m ∧ W (i + 1) m' H') ∧ ∀ x H', (Itt K a).yld i H x H' → B x H' Nx) := by
  refine ⟨fun i m H => m = xs.length - i ∧ i ≤ xs.length ∧ Pv i H, ⟨xs.length, by simp, Nat.zero_le _, h0⟩, ?_⟩
  rintro i m H ⟨rfl, hi, p⟩
  have q := hl i H hi p
  by_cases hlt : i < xs.length
  · refine .inr ⟨⟨xs, xs[i], q, by simp [hlt]⟩, Pv (i + 1), fun H' p' => ⟨xs.length - (i + 1), by omega, rfl, hlt, p'⟩, fun x H' y => ?_⟩
    obtain ⟨e, y⟩ := y
    subst e
    exact hs i x _ (y xs q) p
  · have e : i = xs.length := by omega
    subst e
    exact .inl ⟨⟨xs, q, Nat.le_refl _⟩, hd H p⟩
theorem lp_list {K : PySem.W.Frag} {a : Addr} {xs : List V} {H0 : Hp} {Qd : Hp → Prop} {B : V → Hp → (Hp → Prop) → Prop} (Pv : Nat → Hp → Prop) (h0 : Pv 0 H0) (hl : ∀ i H, i ≤ xs.length → Pv i H → SqL K H a xs) (hs : ∀ i x H, xs[i]? = some x → Pv i H → B x H (Pv (i + 1))) (hd : ∀ H, Pv xs.length H → Qd H) :
    ∃ W : Nat → Nat → Hp → Prop, (∃ m, W 0 m H0) ∧ ∀ i m H, W i m H → ((Itl K a).stop i H ∧ Qd H) ∨ ((Itl K a).go i H ∧ ∃ Nx : Hp → Prop, (∀ H', Nx H' → ∃ m', m' < m ∧ W (i + 1) m' H') ∧ ∀ x H', (Itl K a).yld i H x H' → B x H' Nx) := by
  refine ⟨fun i m H => m = xs.length - i ∧ i ≤ xs.length ∧ Pv i H, ⟨xs.length, by simp, Nat.zero_le _, h0⟩, ?_⟩
  rintro i m H ⟨rfl, hi, p⟩
  have q := hl i H hi p
  by_cases hlt : i < xs.length
  · refine .inr ⟨⟨xs, xs[i], q, by simp [hlt]⟩, Pv (i + 1), fun H' p' => ⟨xs.length - (i + 1), by omega, rfl, hlt, p'⟩, fun x H' y => ?_⟩
    obtain ⟨e, y⟩ := y
    subst e
    exact hs i x _ (y xs q) p
  · have e : i = xs.length := by omega
    subst e
    exact .inl ⟨⟨xs, q, Nat.le_refl _⟩, hd H p⟩
/-! ### kinds -/
/-- isinstance(x, int) and not isinstance(x, bool): its answer -/
def PlainI (K : PySem.W.Frag) (H : Hp) (x : V) (b : Bool) : Prop := ∃ t b1, TyX K H x t ∧ PySem.W.kitOne K t (.type "int") = some b1 ∧ (b1 = false → b = false) ∧ (b1 = true → ∃ b2, PySem.W.kitOne K t (.type "bool") = some b2 ∧ b = !b2)
theorem PlainI.int {K : PySem.W.Frag} {H : Hp} (i : Int) : PlainI K H (.int i) true := ⟨.type "int", true, .base (.int i), kit_ty (by decide +kernel), (fun h => nomatch h), fun _ => ⟨false, kit_ty (by decide +kernel), rfl⟩⟩
theorem PlainI.same {K : PySem.W.Frag} {H H' : Hp} (s : Same H H') {x : V} {b : Bool} (h : PlainI K H x b) : PlainI K H' x b := let ⟨t, b1, ty, r⟩ := h; ⟨t, b1, TyX.same s ty, r⟩
/-- is x an integer from lo to hi: the answer -/
def InR (K : PySem.W.Frag) (H : Hp) (x : V) (lo hi : Int) (b : Bool) : Prop := (∃ i, x = .int i ∧ b = (decide (lo ≤ i) && decide (i ≤ hi))) ∨ (PlainI K H x false ∧ b = false)
theorem InR.same {K : PySem.W.Frag} {H H' : Hp} (s : Same H H') {x : V} {lo hi : Int} {b : Bool} (h : InR K H x lo hi b) : InR K H' x lo hi b := h.elim .inl fun ⟨p, e⟩ => .inr ⟨p.same s, e⟩
theorem InR.good {K : PySem.W.Frag} {H : Hp} {i lo hi : Int} (h1 : lo ≤ i) (h2 : i ≤ hi) : InR K H (.int i) lo hi true := .inl ⟨i, rfl, by rw [decide_eq_true h1, decide_eq_true h2]; rfl⟩
end Com
namespace Com
open PySem PySem.Spec PyProof.Rows L2
theorem pe_gint {X : Cx} {x : Str} {i : Int} {t : Tok} {pos : Pos} (hg : Gl X x) (hm : X.mg x = some (.int i t)) (hd : (x == ("__debug__" : Str)) = false := by decide) : PE X (.Name x pos) (tC (.int i)) := pe_glob (v := .int i) hg hm ⟨t, rfl⟩ hd
end Com
namespace Com
open PySem PySem.Spec PyProof.Rows L2
theorem pe_gcls {X : Cx} {x : Str} {C : Addr} {pos : Pos} (hg : Gl X x) (hm : X.mg x = some (.ref C)) (hd : (x == ("__debug__" : Str)) = false := by decide) : PE X (.Name x pos) (tC (.ref C)) := pe_glob (v := .ref C) hg hm rfl hd
end Com
namespace Com
open PySem PySem.Spec PyProof.Rows L2
/-- all pairs, ascending -/
def rowL (i m : Nat) : List (Int × Int) := (List.range m).map fun (j : Nat) => ((i : Int), (j : Int))
def pairsL (n m : Nat) : List (Int × Int) := (List.range n).flatMap fun i => rowL i m
theorem rowL_succ (i m : Nat) : rowL i (m + 1) = rowL i m ++ [((i : Int), (m : Int))] := by
  unfold rowL
  rw [List.range_succ, List.map_append]
  rfl
theorem pairsL_succ (n m : Nat) : pairsL (n + 1) m = pairsL n m ++ rowL n m := by
  unfold pairsL
  rw [List.range_succ, List.flatMap_append]
  simp
theorem rowL_len (i m : Nat) : (rowL i m).length = m := by simp [rowL]
theorem pairsL_len (n m : Nat) : (pairsL n m).length = n * m := by
  induction n with
  | zero => simp [pairsL]
  | succ n ih => rw [pairsL_succ, List.length_append, ih, rowL_len, Nat.succ_mul]
end Com
namespace Com
open PySem PySem.Spec PyProof.Rows L2
/-! ### the rules whose readings name the written part, with that part a letter of ours -/
def rLen (K : PySem.W.Frag) : List V → Hp → VK → Prop := fun xs H Q => ∃ p ys, xs = [.ref p] ∧ (SqL K H p ys ∨ SqT K H p ys) ∧ Q (.int (ys.length : Nat)) H
def rListOf (K : PySem.W.Frag) : List V → Hp → VK → Prop := fun xs H Q => ∃ p ys, xs = [.ref p] ∧ (SqL K H p ys ∨ SqT K H p ys) ∧ ∀ l, H l = none → Q (.ref l) (upd H l (.lst ys))
def rTupleOf (K : PySem.W.Frag) : List V → Hp → VK → Prop := fun xs H Q => ∃ p ys, xs = [.ref p] ∧ ((SqL K H p ys ∧ ∀ l, H l = none → Q (.ref l) (upd H l (.tup ys))) ∨ (SqT K H p ys ∧ Q (.ref p) H))
section
variable {X : Cx} {K : PySem.W.Frag} {e o value : Expr} {f : Str} {pos pos' : Pos} {ta tv tl : TE} {tg : Expr}
theorem pe_fldK (K : PySem.W.Frag) (he : PE X e ta) (hb : attributeBase e f X.env (eval e X.env) = eval e X.env := by rfl) (hK : X.K = K := by rfl) : PE X (.Attribute e f pos) (tFld K ta f) := by subst hK; exact pe_fld he hb
theorem ps_fldK (K : PySem.W.Frag) (ha : PE X o ta) (hv : PE X value tv) (hs : swapsWith value (some (.Attribute o f pos')) pos.line X.env = pure false := by rfl) (hK : X.K = K := by rfl) : PS X (.Assign [.Attribute o f pos'] value pos) (sFld K ta tv f) := by subst hK; exact ps_fld ha hv hs
theorem cl_len (K : PySem.W.Frag) (hK : X.K = K := by rfl) : CallR X (.builtin "len") (rLen K) := by subst hK; exact call_len_seq
theorem cl_isi (K : PySem.W.Frag) (hK : X.K = K := by rfl) : CallR X (.builtin "isinstance") (rIsi K) := by subst hK; exact call_isi
theorem cl_list (K : PySem.W.Frag) (hK : X.K = K := by rfl) : CallR X (.type "list") (rListOf K) := by subst hK; exact call_list_of
theorem cl_tuple (K : PySem.W.Frag) (hK : X.K = K := by rfl) : CallR X (.type "tuple") (rTupleOf K) := by subst hK; exact call_tuple_of
theorem cl_all (K : PySem.W.Frag) (hc : X.calm = true := by rfl) (hK : X.K = K := by rfl) : CallR X (.builtin "all") (rAll K) := by subst hK; exact cr_all hc
theorem cl_any (K : PySem.W.Frag) (hc : X.calm = true := by rfl) (hK : X.K = K := by rfl) : CallR X (.builtin "any") (rAny K) := by subst hK; exact cr_any hc
theorem cl_sum (K : PySem.W.Frag) (hc : X.calm = true := by rfl) (hK : X.K = K := by rfl) : CallR X (.builtin "sum") (rSum K) := by subst hK; exact cr_sum hc
theorem ixL (K : PySem.W.Frag) (hK : X.K = K := by rfl) : IxR X (rIxL K) := by subst hK; exact ix_list
theorem ixT (K : PySem.W.Frag) (hK : X.K = K := by rfl) : IxR X (rIxT K) := by subst hK; exact ix_tup
theorem getL (K : PySem.W.Frag) (hK : X.K = K := by rfl) : PGet X (rIxL K) := by subst hK; exact get_list
theorem eqD (K : PySem.W.Frag) (hu : X.A.units + 64 < cLine) (hK : X.K = K := by rfl) : OpR X (compareOp .Eq) (rEqD K) := by subst hK; exact op_eqD hu
theorem neD (K : PySem.W.Frag) (hu : X.A.units + 64 < cLine) (hK : X.K = K := by rfl) : OpR X (compareOp .NotEq) (rNeD K) := by subst hK; exact op_neD hu
theorem inS (K : PySem.W.Frag) (hK : X.K = K := by rfl) : OpR X (compareOp .In) (rIn K false) := by subst hK; exact op_in_seq
theorem notInS (K : PySem.W.Frag) (hK : X.K = K := by rfl) : OpR X (compareOp .NotIn) (rIn K true) := by subst hK; exact op_notIn_seq
theorem piL (K : PySem.W.Frag) {l : Expr} (hl : PE X l tl) (hK : X.K = K := by rfl) : PI X tg l (iList K tl) := by subst hK; exact pi_list hl
theorem piT (K : PySem.W.Frag) {l : Expr} (hl : PE X l tl) (hK : X.K = K := by rfl) : PI X tg l (iTup K tl) := by subst hK; exact pi_tup hl
theorem slA (K : PySem.W.Frag) (hK : X.K = K := by rfl) : SlR X (rSlA K) := by subst hK; exact sl_tupA
theorem slL (K : PySem.W.Frag) (hK : X.K = K := by rfl) : SlR X (rSlL K) := by subst hK; exact sl_list
theorem catA (K : PySem.W.Frag) (hK : X.K = K := by rfl) : OpR X (binaryOp .Add) (rCatA K) := by subst hK; exact op_catA
theorem repT (K : PySem.W.Frag) (hK : X.K = K := by rfl) : OpR X (binaryOp .Mult) (rRepT K) := by subst hK; exact op_repT
theorem eqO (K : PySem.W.Frag) {CX : CXT} {k j : Nat} {C : Addr} {sp : Sp} {E : XK} (M : MethOk X.prog X.w X.K X.mg X.base CX j C "__eq__" sp) (hr : Room k X.A) (hjk : j ≤ k) (hx : Passes CX X E) (hK : X.K = K := by rfl) : OpR X (compareOp .Eq) (rEqO K C sp E) := by subst hK; exact op_eqO M hr hjk hx
end
end Com
namespace Com
open PySem PySem.Spec PyProof.Rows L2
/-! ### tuple * int, any count from 1 on -/
theorem tuple_mul1 (l : Addr) (items : Array Value) (n : Nat) (dd : Option Addr) (sl : Array (Option Value)) (u : Tok) :
    Meets (Builtin.«tuple.__mul__» ⟨[.ref l, .int 1 u], []⟩) (fun _ R s => s.heap.get? l = some { cls := .type "tuple", dict := dd, data := .seq items n, slots := sl } ∧ R (.ok (.ret (.ref l))) s) :=
  .of_wp fun prog w A R s h => by
    obtain ⟨hp, g, d, tk, os⟩ := s
    obtain ⟨hl, h⟩ := h
    have f1 := AutoSeq1.idx_int
    have c1 : (items.isEmpty || (1 : Int) == 1) = true := by simp
    wp_walk using wpAny_loadPart' hl
    repeat (first
      | (refine wpAny_ite_true (decide_eq_true c1) ?_; wp_walk using wpAny_loadPart' hl)
      | (refine wpAny_ite_false (decide_eq_false (by decide)) ?_; wp_walk using wpAny_loadPart' hl))
    exact ⟨_, rfl, h⟩
def rRep1 (K : PySem.W.Frag) : R2 := fun x y H Q => ∃ l xs, x = .ref l ∧ y = .int 1 ∧ SqT K H l xs ∧ Q (.ref l) H
theorem op_rep1 {X : Cx} : OpR X (binaryOp .Mult) (rRep1 X.K) := by
  intro pins s σ H x y v u Q I rx ry h
  obtain ⟨l, xs, rfl, rfl, hT, q⟩ := h
  cases rx
  obtain ⟨t, rfl⟩ := ry
  obtain ⟨its, r, ⟨⟨cls, dd, data, sl⟩, ho, hc, n, hd⟩, hs⟩ := I.tuple hT
  simp only at hc hd
  subst hc hd
  refine wpAny_binaryOp_repeat_ref (T := "tuple") (U := "int") (by decide) ⟨_, ho, rfl⟩ (fun s' => typeIs_int s' 1 t) noFill_tuple_mul F.fills_int_mul F.slot_int_rmul repeat_tuple F.slot_int_index.lookup
    (call_meets F.slot_int_rmul (typeIs_int s 1 t) F.entry_int_rmul (F.args_int_rmul_2 _ _) (int_rmul_tuple 1 t l its.toArray n dd sl)
      ⟨ho, rfl, ⟨_, ho, rfl⟩, call_meets F.slot_tuple_mul ⟨_, ho, rfl⟩ F.entry_tuple_mul (F.args_tuple_mul_2 _ _) (tuple_mul1 l its.toArray n dd sl t) ⟨ho, ?_⟩⟩)
  exact ⟨.ref l, H, I, rfl, q⟩
/-- the repeated tuple stands at p -/
def rRepA (K : PySem.W.Frag) : R2 := fun x y H Q => ∃ l k xs, x = .ref l ∧ y = .int k ∧ H l = some (.tup xs) ∧ xs ≠ [] ∧ 1 ≤ k ∧ k ≤ 1000 ∧ xs.length ≤ 1000 ∧ ∀ p H', (H' p = some (.tup (List.replicate k.toNat xs).flatten)) → Same H H' → Q (.ref p) H'
theorem repA {X : Cx} (K : PySem.W.Frag) (hK : X.K = K := by rfl) : OpR X (binaryOp .Mult) (rRepA K) := by
  subst hK
  intro pins s σ H x y v u Q I rx ry h
  obtain ⟨l, k, xs, e1, e2, hT, hne, h1, h2, hz, q⟩ := h
  by_cases hk : k = 1
  · subst hk
    exact op_rep1 pins s σ H x y v u Q I rx ry ⟨l, xs, e1, e2, SqT.of hT, q l H (by rw [hT]; simp) (Same.refl H)⟩
  · exact op_repT pins s σ H x y v u Q I rx ry ⟨l, k, xs, e1, e2, SqT.of hT, hne, by omega, h2, hz, fun p hp => q p _ upd_same (Com.Same.upd hp)⟩
end Com
namespace Com
open PySem PySem.Spec PyProof.Rows L2
/-! ### tuples: slices, sums, whichever object comes -/
def rCutT : V → Option Int → Option Int → Hp → VK → Prop := fun x lo hi H Q => ∃ a xs, x = .ref a ∧ H a = some (.tup xs) ∧ ∀ p H', H' p = some (.tup (cutV xs lo hi)) → Same H H' → Q (.ref p) H'
theorem slT {X : Cx} : SlR X rCutT := by
  intro x v vl vu lo hi sl Q I rx hs pl pu h
  revert x v vl vu lo hi sl Q I rx hs pl pu h
  intro pins s σ H x v vl vu lo hi sl Q I rx hs pl pu h
  obtain ⟨a, xs, rfl, hx, q⟩ := h
  refine sl_tupA pins s σ H (.ref a) v vl vu lo hi sl Q I rx hs pl pu ⟨a, xs, rfl, SqT.of hx, fun w => q a H ?_ (Same.refl H), fun _ p hp => q p _ upd_same (Com.Same.upd hp)⟩
  have e : cutV xs lo hi = xs := by
    unfold cutV
    rw [w.1, w.2, List.drop_zero, Nat.sub_zero, List.take_length]
  rw [e]
  exact hx
def rCatB : R2 := fun x y H Q => ∃ a b xs ys, x = .ref a ∧ y = .ref b ∧ H a = some (.tup xs) ∧ H b = some (.tup ys) ∧ xs.length + ys.length ≤ 1000 ∧ ∀ p H', H' p = some (.tup (xs ++ ys)) → Same H H' → Q (.ref p) H'
theorem catB {X : Cx} : OpR X (binaryOp .Add) rCatB := by
  intro pins s σ H x y v u Q I rx ry h
  obtain ⟨a, b, xs, ys, e1, e2, ha, hb, hz, q⟩ := h
  refine op_catA pins s σ H x y v u Q I rx ry ⟨a, b, xs, ys, e1, e2, SqT.of ha, SqT.of hb, len1 hz, fun e => q b H ?_ (Same.refl H), fun _ e => q a H ?_ (Same.refl H), fun _ _ p hp => q p _ upd_same (Com.Same.upd hp)⟩
  · rw [e, List.nil_append]; exact hb
  · rw [e, List.append_nil]; exact ha
theorem cut_init (xs : List V) (v : V) : cutV (xs ++ [v]) none (some (-1)) = xs := by
  unfold cutV
  have e : HT.sIx (xs ++ [v]).length (xs ++ [v]).length (some (-1)) = xs.length := by
    show (if (-1 : Int) < 0 then (-1 + ((xs ++ [v]).length : Int)).toNat else min (-1 : Int).toNat (xs ++ [v]).length) = xs.length
    rw [if_pos (by decide), List.length_append, List.length_singleton]
    omega
  rw [e, HT.sIx_none (xs ++ [v]).length 0, List.drop_zero, Nat.sub_zero]
  simp
end Com
namespace Com
open PySem PySem.Spec PyProof.Rows L2
theorem kit_self {K : PySem.W.Frag} {t : Value} : PySem.W.kitOne K t t = some true := by
  unfold PySem.W.kitOne
  rw [if_pos (by simp)]
theorem kit_own {K : PySem.W.Frag} {t : Value} {C : Addr} {b : Bool} (ic : PySem.W.isClsIn K C = true) (ty : PySem.W.typeIn K (.ref C) = some (.type "type")) (s : PySem.W.subIn K t (.ref C) = some b) (ne : (t == Value.ref C) = false) : PySem.W.kitOne K t (.ref C) = some b := by
  unfold PySem.W.kitOne
  rw [ne, if_neg Bool.false_ne_true]
  show (if ((PySem.W.clsIn K C).isSome && PySem.W.typeIn K (.ref C) == some (.type "type")) = true then PySem.W.subIn K t (.ref C) else none) = some b
  have h1 : (PySem.W.clsIn K C).isSome = true := ic
  rw [h1, ty, if_pos (by rfl)]
  exact s
theorem kit_type {K : PySem.W.Frag} {t : Value} {n : String} {b : Bool} (hm : PySem.W.kitMeta n = true) (s : PySem.W.subIn K t (.type n) = some b) (ne : (t == Value.type n) = false) : PySem.W.kitOne K t (.type n) = some b := by
  unfold PySem.W.kitOne
  rw [ne, if_neg Bool.false_ne_true]
  show (if PySem.W.kitMeta n = true then PySem.W.subIn K t (.type n) else none) = some b
  rw [if_pos hm]
  exact s
end Com
set_option Elab.async false
set_option linter.all false
set_option maxRecDepth 100000
set_option maxHeartbeats 4000000
/-! The fraction in lowest terms, as numbers. -/
namespace Num
theorem mul4 (a b c d : Int) : (a * b) * (c * d) = (a * c) * (b * d) := by grind
def gc (t b : Int) : Int := ((Nat.gcd t.natAbs b.natAbs : Nat) : Int)
def cm (t b : Int) : Int := if b < 0 then -gc t b else gc t b
def nt (t b : Int) : Int := t.fdiv (cm t b)
def nb (t b : Int) : Int := b.fdiv (cm t b)
theorem gc_pos {t b : Int} (h : b ≠ 0) : 0 < gc t b := by
  have : 0 < Nat.gcd t.natAbs b.natAbs := Nat.gcd_pos_of_pos_right _ (by omega)
  unfold gc
  omega
theorem cm_ne {t b : Int} (h : b ≠ 0) : cm t b ≠ 0 := by
  have := gc_pos (t := t) h
  unfold cm
  split <;> omega
theorem gc_dvd_t (t b : Int) : gc t b ∣ t := by
  have := Nat.gcd_dvd_left t.natAbs b.natAbs
  exact Int.ofNat_dvd_left.mpr this
theorem gc_dvd_b (t b : Int) : gc t b ∣ b := by
  have := Nat.gcd_dvd_right t.natAbs b.natAbs
  exact Int.ofNat_dvd_left.mpr this
theorem cm_dvd_t (t b : Int) : cm t b ∣ t := by
  unfold cm
  split
  · exact Int.neg_dvd.mpr (gc_dvd_t t b)
  · exact gc_dvd_t t b
theorem cm_dvd_b (t b : Int) : cm t b ∣ b := by
  unfold cm
  split
  · exact Int.neg_dvd.mpr (gc_dvd_b t b)
  · exact gc_dvd_b t b
theorem nt_mul (t b : Int) : nt t b * cm t b = t := Int.fdiv_mul_cancel (cm_dvd_t t b)
theorem nb_mul (t b : Int) : nb t b * cm t b = b := Int.fdiv_mul_cancel (cm_dvd_b t b)
theorem nb_pos {t b : Int} (h : b ≠ 0) : 0 < nb t b := by
  have e := nb_mul t b
  have g := gc_pos (t := t) h
  by_cases hb : b < 0
  · have hc : cm t b < 0 := by
      unfold cm
      rw [if_pos hb]
      omega
    by_cases z : 0 < nb t b
    · exact z
    · have : 0 ≤ nb t b * cm t b := Int.mul_nonneg_of_nonpos_of_nonpos (by omega) (by omega)
      omega
  · have hc : 0 < cm t b := by
      unfold cm
      rw [if_neg hb]
      exact g
    by_cases z : 0 < nb t b
    · exact z
    · have : nb t b * cm t b ≤ 0 := Int.mul_nonpos_of_nonpos_of_nonneg (by omega) (by omega)
      omega
theorem cross (t b : Int) : nt t b * b = nb t b * t := by
  have e1 := nt_mul t b
  have e2 := nb_mul t b
  calc nt t b * b = nt t b * (nb t b * cm t b) := by rw [e2]
    _ = nb t b * (nt t b * cm t b) := by rw [Int.mul_left_comm]
    _ = nb t b * t := by rw [e1]
theorem cm_abs (t b : Int) : (cm t b).natAbs = Nat.gcd t.natAbs b.natAbs := by
  unfold cm gc
  split
  · rw [Int.natAbs_neg, Int.natAbs_natCast]
  · rw [Int.natAbs_natCast]
theorem coprime {t b : Int} (h : b ≠ 0) : Nat.gcd (nt t b).natAbs (nb t b).natAbs = 1 := by
  have e1 := congrArg Int.natAbs (nt_mul t b)
  have e2 := congrArg Int.natAbs (nb_mul t b)
  rw [Int.natAbs_mul, cm_abs] at e1 e2
  have hg : 0 < Nat.gcd t.natAbs b.natAbs := Nat.gcd_pos_of_pos_right _ (by omega)
  have : Nat.gcd ((nt t b).natAbs * Nat.gcd t.natAbs b.natAbs) ((nb t b).natAbs * Nat.gcd t.natAbs b.natAbs) = Nat.gcd t.natAbs b.natAbs := by rw [e1, e2]
  rw [Nat.gcd_mul_right] at this
  exact Nat.eq_of_mul_eq_mul_right hg (by rw [this, Nat.one_mul])
theorem same_nat {p q r s : Nat} (h1 : Nat.gcd p q = 1) (h2 : Nat.gcd r s = 1) (e : p * s = r * q) : q = s := by
  have d1 : q ∣ s := by
    have : q ∣ p * s := by rw [e]; exact Nat.dvd_mul_left q r
    exact Nat.Coprime.dvd_of_dvd_mul_left (show Nat.Coprime q p by rw [Nat.coprime_comm]; exact h1) this
  have d2 : s ∣ q := by
    have : s ∣ r * q := by rw [← e]; exact Nat.dvd_mul_left s p
    exact Nat.Coprime.dvd_of_dvd_mul_left (show Nat.Coprime s r by rw [Nat.coprime_comm]; exact h2) this
  exact Nat.dvd_antisymm d1 d2
theorem same_int {p q r s : Int} (h1 : Nat.gcd p.natAbs q.natAbs = 1) (h2 : Nat.gcd r.natAbs s.natAbs = 1) (hq : 0 < q) (hs : 0 < s) (e : p * s = r * q) : p = r ∧ q = s := by
  have e' := congrArg Int.natAbs e
  rw [Int.natAbs_mul, Int.natAbs_mul] at e'
  have z := same_nat h1 h2 e'
  have hqs : q = s := by omega
  subst hqs
  exact ⟨Int.eq_of_mul_eq_mul_right (by omega) e, rfl⟩
/-- the same fraction: the same numbers -/
theorem unique {t b t2 b2 : Int} (h : b ≠ 0) (h2 : b2 ≠ 0) (e : t * b2 = t2 * b) : nt t b = nt t2 b2 ∧ nb t b = nb t2 b2 := by
  refine same_int (coprime h) (coprime h2) (nb_pos h) (nb_pos h2) ?_
  have c1 := nt_mul t b
  have c2 := nb_mul t b
  have c3 := nt_mul t2 b2
  have c4 := nb_mul t2 b2
  have k : (nt t b * nb t2 b2) * (cm t b * cm t2 b2) = (nt t2 b2 * nb t b) * (cm t b * cm t2 b2) := by
    calc (nt t b * nb t2 b2) * (cm t b * cm t2 b2) = (nt t b * cm t b) * (nb t2 b2 * cm t2 b2) := mul4 ..
      _ = t * b2 := by rw [c1, c4]
      _ = t2 * b := e
      _ = (nt t2 b2 * cm t2 b2) * (nb t b * cm t b) := by rw [c3, c2]
      _ = (nt t2 b2 * nb t b) * (cm t2 b2 * cm t b) := mul4 ..
      _ = (nt t2 b2 * nb t b) * (cm t b * cm t2 b2) := by rw [Int.mul_comm (cm t2 b2)]
  exact Int.eq_of_mul_eq_mul_right (Int.mul_ne_zero (cm_ne h) (cm_ne h2)) k
/-- different fractions: different numbers -/
theorem differ {t b t2 b2 : Int} (h : b ≠ 0) (h2 : b2 ≠ 0) (e1 : nt t b = nt t2 b2) (e2 : nb t b = nb t2 b2) : t * b2 = t2 * b := by
  have c1 := nt_mul t b
  have c2 := nb_mul t b
  have c3 := nt_mul t2 b2
  have c4 := nb_mul t2 b2
  calc t * b2 = (nt t b * cm t b) * (nb t2 b2 * cm t2 b2) := by rw [c1, c4]
    _ = (nt t2 b2 * cm t b) * (nb t b * cm t2 b2) := by rw [e1, e2]
    _ = (nt t2 b2 * cm t2 b2) * (nb t b * cm t b) := by grind
    _ = t2 * b := by rw [c3, c2]
theorem nt_le (t b : Int) (h : b ≠ 0) : (nt t b).natAbs ≤ t.natAbs := by
  have e1 := congrArg Int.natAbs (nt_mul t b)
  rw [Int.natAbs_mul] at e1
  have : 0 < (cm t b).natAbs := by have := cm_ne (t := t) h; omega
  rw [← e1]
  exact Nat.le_mul_of_pos_right _ this
theorem nb_le (t b : Int) (h : b ≠ 0) : (nb t b).natAbs ≤ b.natAbs := by
  have e1 := congrArg Int.natAbs (nb_mul t b)
  rw [Int.natAbs_mul] at e1
  have : 0 < (cm t b).natAbs := by have := cm_ne (t := t) h; omega
  rw [← e1]
  exact Nat.le_mul_of_pos_right _ this
theorem cm_le (t b : Int) (h : b ≠ 0) : (cm t b).natAbs ≤ b.natAbs := by
  rw [cm_abs]
  exact Nat.gcd_le_right _ (by omega)
/-! ### operations on fractions in lowest terms -/
theorem pos_ne {b : Int} (h : 0 < b) : b ≠ 0 := by omega
theorem mul_pos_ne {b d : Int} (h : 0 < b) (h2 : 0 < d) : b * d ≠ 0 := pos_ne (Int.mul_pos h h2)
/-- from cross equations to the sum -/
theorem add_of {a b c d n1 d1 n2 d2 : Int} (hb : 0 < b) (hd : 0 < d) (h1 : 0 < d1) (h2 : 0 < d2) (e1 : n1 * b = d1 * a) (e2 : n2 * d = d2 * c) :
    nt (n1 * d2 + n2 * d1) (d1 * d2) = nt (a * d + c * b) (b * d) ∧ nb (n1 * d2 + n2 * d1) (d1 * d2) = nb (a * d + c * b) (b * d) := by
  refine unique (mul_pos_ne h1 h2) (mul_pos_ne hb hd) ?_
  have k1 : n1 * b * (d2 * d) = d1 * a * (d2 * d) := by rw [e1]
  have k2 : n2 * d * (d1 * b) = d2 * c * (d1 * b) := by rw [e2]
  grind
theorem mul_of {a b c d n1 d1 n2 d2 : Int} (hb : 0 < b) (hd : 0 < d) (h1 : 0 < d1) (h2 : 0 < d2) (e1 : n1 * b = d1 * a) (e2 : n2 * d = d2 * c) :
    nt (n1 * n2) (d1 * d2) = nt (a * c) (b * d) ∧ nb (n1 * n2) (d1 * d2) = nb (a * c) (b * d) := by
  refine unique (mul_pos_ne h1 h2) (mul_pos_ne hb hd) ?_
  have k1 : (n1 * b) * (n2 * d) = (d1 * a) * (d2 * c) := by rw [e1, e2]
  grind
theorem neg_of {a b n1 d1 : Int} (hb : 0 < b) (h1 : 0 < d1) (e1 : n1 * b = d1 * a) : nt (-n1) d1 = nt (-a) b ∧ nb (-n1) d1 = nb (-a) b := by
  refine unique (pos_ne h1) (pos_ne hb) ?_
  rw [Int.neg_mul, Int.neg_mul, e1, Int.mul_comm]
theorem abs_of {a b n1 d1 : Int} (hb : 0 < b) (h1 : 0 < d1) (e1 : n1 * b = d1 * a) :
    nt (if n1 < 0 then -n1 else n1) d1 = nt (if a < 0 then -a else a) b ∧ nb (if n1 < 0 then -n1 else n1) d1 = nb (if a < 0 then -a else a) b := by
  have iff : n1 < 0 ↔ a < 0 := by
    constructor
    · intro h
      by_cases z : a < 0
      · exact z
      · have p1 : n1 * b < 0 := Int.mul_neg_of_neg_of_pos h hb
        have p2 : 0 ≤ d1 * a := Int.mul_nonneg (by omega) (by omega)
        omega
    · intro h
      by_cases z : n1 < 0
      · exact z
      · have p1 : d1 * a < 0 := Int.mul_neg_of_pos_of_neg h1 h
        have p2 : 0 ≤ n1 * b := Int.mul_nonneg (by omega) (by omega)
        omega
  by_cases h : n1 < 0
  · rw [if_pos h, if_pos (iff.mp h)]
    exact neg_of hb h1 e1
  · rw [if_neg h, if_neg (fun z => h (iff.mpr z))]
    refine unique (pos_ne h1) (pos_ne hb) ?_
    rw [e1, Int.mul_comm]
theorem lt_of {a b c d n1 d1 n2 d2 : Int} (hb : 0 < b) (hd : 0 < d) (h1 : 0 < d1) (h2 : 0 < d2) (e1 : n1 * b = d1 * a) (e2 : n2 * d = d2 * c) : n1 * d2 < n2 * d1 ↔ a * d < c * b := by
  have hbd : 0 < b * d := Int.mul_pos hb hd
  have h12 : 0 < d1 * d2 := Int.mul_pos h1 h2
  have k1 : n1 * d2 * (b * d) = a * d * (d1 * d2) := by
    have : n1 * b * (d2 * d) = d1 * a * (d2 * d) := by rw [e1]
    grind
  have k2 : n2 * d1 * (b * d) = c * b * (d1 * d2) := by
    have : n2 * d * (d1 * b) = d2 * c * (d1 * b) := by rw [e2]
    grind
  rw [← Int.mul_lt_mul_right hbd, k1, k2, Int.mul_lt_mul_right h12]
end Num
set_option Elab.async false
set_option linter.all false
set_option maxRecDepth 100000
set_option maxHeartbeats 4000000
namespace Com
open PySem PySem.Spec PyProof.Rows L2 PySem.W
/-! ### int op instance: the int declines -/
theorem int_add_ins (a : Int) (t : Tok) (x dx C : Addr) :
    Meets (Builtin.«int.__add__» ⟨[.int a t, .ref x], []⟩) (fun _ R s => s.heap.get? x = some (instObj C dx) ∧ R (.ok (.ret Value.notImplemented)) s) :=
  .of_wp fun prog w A R s h => by
    obtain ⟨hp, g, d, tk, os⟩ := s; obtain ⟨hl, h⟩ := h
    unfold instObj at hl
    wp_walk using wpAny_loadPart' hl
    exact ⟨_, rfl, h⟩
theorem int_mul_ins (a : Int) (t : Tok) (x dx C : Addr) :
    Meets (Builtin.«int.__mul__» ⟨[.int a t, .ref x], []⟩) (fun _ R s => s.heap.get? x = some (instObj C dx) ∧ R (.ok (.ret Value.notImplemented)) s) :=
  .of_wp fun prog w A R s h => by
    obtain ⟨hp, g, d, tk, os⟩ := s; obtain ⟨hl, h⟩ := h
    unfold instObj at hl
    wp_walk using wpAny_loadPart' hl
    exact ⟨_, rfl, h⟩
end Com
namespace Com
open PySem PySem.Spec PyProof.Rows L2 PySem.W
section
variable {prog : Program} {w : World} {A : Around} {E : Value → Shared → Prop} {s : Shared} {K : Frag} {x C L f f1 : Addr} {h₀ : Heap} {m : Str → Option Value} {ox : Obj} {od : Option Obj}
theorem rbin_int {op : Operator} {i : Int} {t : Tok} {idl : String} {Q : Value → Shared → Prop} (F : Fr h₀ L s.heap m) (X₀ : K.In h₀) (I : InstAt s.heap x ox C od) (hc : selfFirst K C = true)
    (hd : findIn K (.ref C) (PySem.dunder op.info.2) = some (some (.ref f1))) (hs : findIn K (.ref C) (dunderR op.info.2) = some (some (.ref f))) (hf : isFn K (.ref f) = true)
    (hfI : fillsNumberSlot (.type "int") op.info.2 = pure true) (hsub : subIn K (.ref C) (.type "int") = some false) (hl : Slot "int" (PySem.dunder op.info.2) idl)
    (hdec : wpAny (model prog w) A (call (.builtin idl) [.int i t, .ref x]) (fun v s' => v = .notImplemented ∧ s' = s) E s)
    (h : wpAny (model prog w) A (call (.ref f) [.ref x, .int i t]) (PySem.W.CmpBack Q) E s) : wpAny (model prog w) A (binaryOp op (.int i t) (.ref x)) Q E s := by
  have X := X₀.keeps F.keep
  obtain ⟨cd, rest, hcd, hm⟩ := ksp_first hc
  rcases hi : op.info with ⟨sym, nm'⟩
  rw [hi] at hd hs hfI hl
  dsimp only at hd hs hfI hl
  have two := ksp_try X I hs hf h
  have one : wpAny (model prog w) A (tryMethod (.int i t) (PySem.dunder nm') (.ref x)) (fun r s' => r = none ∧ s' = s) E s := wpAny_tryMethod_declines (typeIs_int s i t) hl (wpAny_mono hdec (fun v s' z => ⟨z.1, rfl, z.2⟩) fun _ _ z => z)
  obtain ⟨hh, g, d, tt, os⟩ := s
  have L1 : Looks (model prog w) hh (typeOf (.ref x)) (.ref C) := I.type
  have L2 : Looks (model prog w) hh (typeOf (.int i t)) (.type "int") := Looks.of_pure rfl
  have L3 : Looks (model prog w) hh (fillsNumberSlot (.ref C) nm') true := fills_K X hcd hm hd
  have L4 : Looks (model prog w) hh (fillsNumberSlot (.type "int") nm') true := Looks.of_pure hfI
  have L5 : Looks (model prog w) hh (isSubtype (.ref C) (.type "int")) false := looks_subIn X hsub
  have L7 : Looks (model prog w) hh (numberSlotInPython (.type "int") nm') false := Looks.of_pure rfl
  have hne : (Value.type "int" == Value.ref C) = false := Bool.eq_false_iff.mpr fun q => by cases beq_iff_eq.mp q
  simp only [binaryOp, hi]
  refine wpAny_holding (wpAny_bind ?_)
  unfold binaryOp1
  refine wpAny_bind (L2.at (wpAny_bind (L1.at (wpAny_bind (L4.at ?_)))))
  simp only [hne, Bool.false_eq_true, if_false]
  ksp_lk
  refine wpAny_mono one (fun r s' hr' => ?_) fun _ _ e => e
  obtain ⟨rfl, rfl⟩ := hr'
  ksp_lk
  refine wpAny_mono two (fun r s' hr' => ?_) fun _ _ e => e
  obtain ⟨v, rfl, hq⟩ := hr'
  ksp_lk
  exact hq
end
end Com
namespace Com
open PySem PySem.Spec PyProof.Rows L2
/-! ### the rules over the layer -/
/-- what of the text an own binary operator must have: its def at f (f', the reflected one), the int's own slots -/
structure OpFacts (K : PySem.W.Frag) (C : Addr) (nm : String) : Prop where
  sf : PySem.W.selfFirst K C = true
  rc : ∃ g : Addr, PySem.W.findIn K (.ref C) (dunderR nm) = some (some (.ref g)) ∨ PySem.W.findIn K (.ref C) (dunderR nm) = some none
  i1 : ∃ fo, PySem.W.findIn K (.type "int") (PySem.dunder nm) = some fo
  i2 : ∃ ro, PySem.W.findIn K (.type "int") (dunderR nm) = some ro
  sub : PySem.W.subIn K (.type "int") (.ref C) = some false
/-- x op y, x an instance of the class at C; y an int, or another instance -/
def rBinO (C : Addr) (sp : Sp) (E : XK) : R2 := fun x y H Q => ∃ a dx fs, x = .ref a ∧ H a = some (.ins C dx fs) ∧ ((∃ i, y = .int i) ∨ (∃ b dy gs, y = .ref b ∧ H b = some (.ins C dy gs))) ∧ sp [x, y] H Q E
section
variable {X : Cx} {CX : CXT} {k j : Nat} {C : Addr} {sp : Sp} {E : XK} {nm : String} {m : Str}
theorem binO {op : Operator} (T : OpFacts X.K C nm) (M : MethOk X.prog X.w X.K X.mg X.base CX j C m sp) (hr : Room k X.A) (hjk : j ≤ k) (hx : Passes CX X E) (e1 : op.info.2 = nm := by rfl) (e2 : m = PySem.dunder nm := by rfl) : OpR X (binaryOp op) (rBinO C sp E) := by
  obtain ⟨g, F, hm⟩ := M.ex
  intro pins s σ H x y v u Q I rx ry h
  obtain ⟨a, dx, fs, rfl, ha, hy, q⟩ := h
  cases (show v = Value.ref a from rx)
  obtain ⟨mA, O, _⟩ := ins_get I.hok ha
  obtain ⟨od, J, _⟩ := O.look
  obtain ⟨mm, hF⟩ := I.fr
  subst e1
  subst e2
  have run : wpAny (model X.prog X.w) X.A (call (.ref g) [.ref a, u]) (PySem.W.CmpBack (EP X pins σ Q)) X.xe s := by
    refine wpAny_mono (runR (us := [.ref a, u]) (vs := [.ref a, y]) F hr hjk hx I (.cons rfl (.cons ry .nil)) q) (fun w s' z => ?_) fun _ _ x => x
    obtain ⟨z', H', I', rz, qz⟩ := z
    exact SlX.cmpback rz ⟨z', H', I', rz, qz⟩
  rcases hy with ⟨i, rfl⟩ | ⟨b, dy, gs, rfl, hb⟩
  · obtain ⟨t, rfl⟩ := (show ∃ t, u = Value.int i t from ry)
    obtain ⟨fo, h1⟩ := T.i1
    obtain ⟨ro, h2⟩ := T.i2
    obtain ⟨rr, hrr⟩ := T.rc
    rcases hrr with hrr | hrr
    · exact PySem.W.ksp_binT (T := "int") hF I.ok.mod.kin J rfl T.sf hm.at_ hm.fn hrr (.inr ⟨rr, rfl⟩) h1 h2 T.sub run
    · exact PySem.W.ksp_binT (T := "int") hF I.ok.mod.kin J rfl T.sf hm.at_ hm.fn hrr (.inl rfl) h1 h2 T.sub run
  · cases (show u = Value.ref b from ry)
    obtain ⟨mB, O', _⟩ := ins_get I.hok hb
    obtain ⟨od', J', _⟩ := O'.look
    exact PySem.W.binop_K hF I.ok.mod.kin J J'.type T.sf hm.at_ hm.fn run
/-- i op y, i an int -/
def rBinI (C : Addr) (sp : Sp) (E : XK) : R2 := fun x y H Q => ∃ i a dx fs, x = .int i ∧ y = .ref a ∧ H a = some (.ins C dx fs) ∧ sp [y, x] H Q E
theorem binI {op : Operator} {idl : String} {Bi : Builtin} {m' : Str} {f1 : Addr} (sf : PySem.W.selfFirst X.K C = true) (hd : PySem.W.findIn X.K (.ref C) (PySem.dunder op.info.2) = some (some (.ref f1))) (hsub : PySem.W.subIn X.K (.ref C) (.type "int") = some false)
    (M : MethOk X.prog X.w X.K X.mg X.base CX j C m' sp) (hr : Room k X.A) (hjk : j ≤ k) (hx : Passes CX X E) (hfI : fillsNumberSlot (.type "int") op.info.2 = pure true) (hl : Slot "int" (PySem.dunder op.info.2) idl)
    (he : entryFor table idl = some Bi) (ha : ∀ a b : Value, argsOk idl ⟨[a, b], []⟩)
    (hmt : ∀ (i : Int) (t : Tok) (x dx C : Addr), Meets (Bi ⟨[.int i t, .ref x], []⟩) (fun _ R s => s.heap.get? x = some (PySem.W.instObj C dx) ∧ R (.ok (.ret Value.notImplemented)) s)) (e2 : m' = dunderR op.info.2 := by rfl) : OpR X (binaryOp op) (rBinI C sp E) := by
  obtain ⟨g, F, hm⟩ := M.ex
  intro pins s σ H x y v u Q I rx ry h
  obtain ⟨i, a, dx, fs, rfl, rfl, ha', q⟩ := h
  cases (show u = Value.ref a from ry)
  obtain ⟨t, rfl⟩ := (show ∃ t, v = Value.int i t from rx)
  obtain ⟨mA, O, _⟩ := ins_get I.hok ha'
  have hobj := O.obj
  obtain ⟨od, J, _⟩ := O.look
  obtain ⟨mm, hF⟩ := I.fr
  subst e2
  refine rbin_int hF I.ok.mod.kin J sf hd hm.at_ hm.fn hfI hsub hl (call_meets hl (typeIs_int s i t) he (ha _ _) (hmt i t a dx C) ⟨hobj, rfl, rfl⟩) ?_
  refine wpAny_mono (runR (us := [.ref a, .int i t]) (vs := [.ref a, .int i]) F hr hjk hx I (.cons rfl (.cons rx .nil)) q) (fun w s' z => ?_) fun _ _ x => x
  obtain ⟨z', H', I', rz, qz⟩ := z
  exact SlX.cmpback rz ⟨z', H', I', rz, qz⟩
/-- op x, abs(x) -/
def rUnO (C : Addr) (sp : Sp) (E : XK) : V → Hp → VK → Prop := fun x H Q => ∃ a dx fs, x = .ref a ∧ H a = some (.ins C dx fs) ∧ sp [x] H Q E
theorem negO (M : MethOk X.prog X.w X.K X.mg X.base CX j C "__neg__" sp) (hr : Room k X.A) (hjk : j ≤ k) (hx : Passes CX X E) : UnR X (unaryOp .USub) (rUnO C sp E) := by
  obtain ⟨g, F, hm⟩ := M.ex
  intro pins s σ H x v Q I rx h
  obtain ⟨a, dx, fs, rfl, ha, q⟩ := h
  cases (show v = Value.ref a from rx)
  obtain ⟨mA, O, _⟩ := ins_get I.hok ha
  obtain ⟨od, J, _⟩ := O.look
  obtain ⟨mm, hF⟩ := I.fr
  exact PySem.W.ksp_neg hF I.ok.mod.kin J hm.at_ hm.fn (runR (us := [.ref a]) (vs := [.ref a]) F hr hjk hx I (.cons rfl .nil) q)
def rAbsO (C : Addr) (sp : Sp) (E : XK) : List V → Hp → VK → Prop := fun xs H Q => ∃ a dx fs, xs = [.ref a] ∧ H a = some (.ins C dx fs) ∧ sp [.ref a] H Q E
theorem run_at {A : Around} {n : Nat} {f : Addr} {pins : List (Addr × Obj)} {σ : L2.St} {H : Hp} {s : Shared} {Q : VK} {us : List Value} {ws : List V} (F : FnR X.prog X.w X.K X.mg X.base CX n f sp) (hr : Room n A) (e0 : Env0 X.prog X.w X.K X.mg X.base A X.stack s H) (hx : Passes CX X E) (I : Inv X pins σ H s) (r : Vals ws us) (h : sp ws H Q E) :
    codeAny (model X.prog X.w) A (.call (.ref f) ⟨us, []⟩) (fun r s' => match r with | .ok (.ret v) => EP X pins σ Q v s' | .ok _ => False | .error e => X.xe e s') s := SlX.run_at F hr e0 hx I r h
theorem cl_abs (M : MethOk X.prog X.w X.K X.mg X.base CX j C "__abs__" sp) (hr : Room k X.A) (hjk : j + 1 ≤ k) (hx : Passes CX X E) : CallR X (.builtin "abs") (rAbsO C sp E) := by
  obtain ⟨g, F, hm⟩ := M.ex
  intro pins s σ H xs us Q I r h
  obtain ⟨a, dx, fs, rfl, ha, q⟩ := h
  have e := Vals.ref1 r
  subst e
  obtain ⟨mA, O, _⟩ := ins_get I.hok ha
  obtain ⟨od, J, _⟩ := O.look
  have hr1 : Room j X.A.in1 := (hr.mono hjk).in1
  refine Calls.call_function_entry kind_abs plain_abs entry_abs (args_abs _) ?_
  unfold Builtin.«abs»
  refine wpAny_bind (m := oneArg "abs" _) (wpAny_pure ?_)
  refine wpAny_bind (m := callSpecial? (.ref a) (Str.ofString "__abs__")) (PySem.W.special_fn I.kIn J hm.at_ (beq_iff_eq.mp hm.fn) ?_)
  refine wpAny_mono (wpAny_call (run_at (us := [.ref a]) (ws := [.ref a]) F hr1 I.env0.in1 hx I (.cons rfl .nil) q)) (fun w s' z => ?_) fun _ _ x => x
  exact wpAny_pure ⟨_, rfl, z⟩
end
end Com
namespace Com
open PySem PySem.Spec PyProof.Rows L2
theorem UnR.or {X : Cx} {f : Value → Sem Value} {r r' : V → Hp → VK → Prop} (h : UnR X f r) (h' : UnR X f r') : UnR X f (fun x H Q => r x H Q ∨ r' x H Q) := by
  intro pins s σ H x v Q I rx q
  rcases q with q | q
  · exact h pins s σ H x v Q I rx q
  · exact h' pins s σ H x v Q I rx q
/-- // by any divisor but 0 below 2 ^ 9000 -/
def CDivX (_ j : Int) : Prop := j ≠ 0 ∧ j.natAbs < 2 ^ 9000
theorem fdivX {X : Cx} : OpR X (binaryOp .FloorDiv) (rI CDivX fun i j => .int (i.fdiv j)) := opI fun i j _ _ _ _ _ hc q =>
  floordiv_int hc.1 q (.inl (PyProof.noPylong_of_log2 (PySem.Flt.log2_lt_of (by decide) hc.2)))
theorem pgT {X : Cx} (K : PySem.W.Frag) {es : List Expr} {k : Nat} {t : TGs} {n : Nat} {pos : Pos} (h : PGs X es t) (hc : X.calm = true := by rfl)
    (hn : (assignEach es X.env).length = n := by rfl) (hst : (assignEach es X.env).findIdx? (·.1) = none := by rfl) (hK : X.K = K := by rfl) : PG X (.Tuple es k pos) (gTup K n t) := by subst hK; exact pg_tup hc h hn hst
theorem pe_gbfn {X : Cx} {x : Str} {p pos : Pos} {e : Expr} {es : List Expr} {t : TA} {id : String} {r : List V → Hp → VK → Prop} (hc : CallR X (.builtin id) r) (hm : X.mg x = some (.builtin id)) (ha : PA X (e :: es) t) (hg : Gl X x := by rfl) (hdb : (x == ("__debug__" : Str)) = false := by decide)
    (he : starEach (e :: es) X.env = (false, eval e X.env) :: starEach es X.env := by rfl) (hpl : (backTo pos (starEach es X.env)).any (·.1) = false := by rfl) : PE X (.Call (.Name x p) (e :: es) [] pos) (tCB r t) := pe_callBfun hc hg hm ha hdb he hpl
theorem small_n {x : Int} {n : Nat} (h : x.natAbs ≤ n) {b : Nat} (hb : n < 2 ^ b) : x.natAbs < 2 ^ b := Nat.lt_of_le_of_lt h hb
end Com
namespace Com
open PySem PySem.Spec PyProof.Rows L2
/-! ### sizes -/
def B (x : Int) (n : Nat) : Prop := x.natAbs < 2 ^ n
theorem B.mono {x : Int} {m n : Nat} (h : B x m) (hm : m ≤ n) : B x n := Nat.lt_of_lt_of_le h (Nat.pow_le_pow_right (by decide) hm)
theorem B.mul {x y : Int} {m n : Nat} (hx : B x m) (hy : B y n) : B (x * y) (m + n) := wide_lt hx hy
theorem B.add {x y : Int} {n : Nat} (hx : B x n) (hy : B y n) : B (x + y) (n + 1) := by
  unfold B at *
  have : (x + y).natAbs ≤ x.natAbs + y.natAbs := Int.natAbs_add_le x y
  rw [Nat.pow_succ]
  omega
theorem B.neg {x : Int} {n : Nat} (h : B x n) : B (-x) n := by
  unfold B at *
  rwa [Int.natAbs_neg]
theorem B.sub {x y : Int} {n : Nat} (hx : B x n) (hy : B y n) : B (x - y) (n + 1) := by
  have := hx.add hy.neg
  rwa [← Int.sub_eq_add_neg] at this
theorem B.abs {x : Int} {n : Nat} (h : B x n) : B (if x < 0 then -x else x) n := by
  split
  · exact h.neg
  · exact h
theorem B.le {x : Int} {y : Int} {n : Nat} (h : B y n) (hl : x.natAbs ≤ y.natAbs) : B x n := Nat.lt_of_le_of_lt hl h
theorem B.of {x : Int} {n : Nat} {k : Nat} (h : x.natAbs ≤ k) (hk : k < 2 ^ n) : B x n := Nat.lt_of_le_of_lt h hk
theorem mulB {x y : Int} {m n : Nat} (hx : B x m) (hy : B y n) (h0 : 0 < m := by decide) (h1 : 0 < n := by decide) (h : m + n ≤ 1000000 := by decide) : CMulW x y := wide_mul hx hy h0 h1 h
end Com
set_option linter.all false
/-! Standings as lists: order of pairs, loads, doors less calls. -/
namespace Sd
abbrev PP := Int × Int
def leP (p q : PP) : Bool := decide (p.1 < q.1) || (decide (p.1 = q.1) && decide (p.2 ≤ q.2))
theorem leP_iff {p q : PP} : leP p q = true ↔ p.1 < q.1 ∨ (p.1 = q.1 ∧ p.2 ≤ q.2) := by simp [leP]
theorem leP_trans (a b c : PP) (h : leP a b = true) (g : leP b c = true) : leP a c = true := by
  rw [leP_iff] at *
  omega
theorem leP_total (a b : PP) : (leP a b || leP b a) = true := by
  rw [Bool.or_eq_true, leP_iff, leP_iff]
  omega
theorem leP_anti {a b : PP} (h : leP a b = true) (g : leP b a = true) : a = b := by
  rw [leP_iff] at *
  exact Prod.ext (by omega) (by omega)
def srt (ps : List PP) : List PP := ps.mergeSort leP
theorem srt_perm (ps : List PP) : (srt ps).Perm ps := List.mergeSort_perm ps leP
theorem srt_le (ps : List PP) : (srt ps).Pairwise (fun a b => leP a b = true) := List.pairwise_mergeSort leP_trans leP_total ps
theorem srt_uniq {ps qs : List PP} (h : qs.Perm ps) (g : qs.Pairwise (fun a b => leP a b = true)) : qs = srt ps :=
  List.Perm.eq_of_pairwise (fun a b _ _ x y => leP_anti x y) g (srt_le ps) (h.trans (srt_perm ps).symm)
theorem srt_perm_eq {ps qs : List PP} (h : qs.Perm ps) : srt qs = srt ps := srt_uniq ((srt_perm qs).trans h) (srt_le qs)
theorem srt_len (ps : List PP) : (srt ps).length = ps.length := (srt_perm ps).length_eq
theorem srt_srt (ps : List PP) : srt (srt ps) = srt ps := srt_perm_eq (srt_perm ps)
/-- the pair's switches are free -/
def freeB (L : List PP) (p : PP) : Bool := L.all fun c => !decide (c.1 = p.1) && !decide (c.2 = p.2)
theorem freeB_iff {L : List PP} {p : PP} : freeB L p = true ↔ ∀ c ∈ L, c.1 ≠ p.1 ∧ c.2 ≠ p.2 := by
  simp [freeB, List.all_eq_true]
def InP (n m : Nat) (p : PP) : Prop := 0 ≤ p.1 ∧ p.1 < n ∧ 0 ≤ p.2 ∧ p.2 < m
instance {n m : Nat} {p : PP} : Decidable (InP n m p) := inferInstanceAs (Decidable (_ ∧ _ ∧ _ ∧ _))
structure LoadOk (n m : Nat) (L : List PP) : Prop where
  rng : ∀ p ∈ L, InP n m p
  asc : (L.map (·.1)).Pairwise (· < ·)
  nd : (L.map (·.2)).Nodup
theorem LoadOk.nil {n m : Nat} : LoadOk n m [] := ⟨(fun _ h => nomatch h), List.Pairwise.nil, List.nodup_nil⟩
theorem asc_nodup {L : List Int} (h : L.Pairwise (· < ·)) : L.Nodup := h.imp fun {a b} x => by omega
theorem asc_len : ∀ {L : List Int} {n : Nat} {k : Int}, 0 ≤ k → L.Pairwise (· < ·) → (∀ i ∈ L, k ≤ i ∧ i < n) → (L.length : Int) ≤ n - k ∨ L = []
  | [], _, _, _, _, _ => .inr rfl
  | i :: L, n, k, hk, h, g => by
    have gi := g i (List.mem_cons_self ..)
    rw [List.pairwise_cons] at h
    have := asc_len (L := L) (n := n) (k := i + 1) (by omega) h.2 fun j hj => ⟨by have := h.1 j hj; omega, (g j (List.mem_cons_of_mem _ hj)).2⟩
    left
    rcases this with e | e
    · rw [List.length_cons]; omega
    · rw [e]; simp; omega
theorem LoadOk.len {n m : Nat} {L : List PP} (h : LoadOk n m L) : L.length ≤ n := by
  have := asc_len (L := L.map (·.1)) (n := n) (k := 0) (by omega) h.asc fun i hi => by
    obtain ⟨p, hp, e⟩ := List.mem_map.mp hi
    have := h.rng p hp
    unfold InP at this
    omega
  rw [List.length_map] at this
  rcases this with e | e
  · omega
  · have : L = [] := List.map_eq_nil_iff.mp e
    rw [this]; simp
theorem LoadOk.srt_add {n m : Nat} {L : List PP} {p : PP} (h : LoadOk n m L) (hp : InP n m p) (hf : freeB L p = true) : LoadOk n m (srt (L ++ [p])) := by
  have pm : (srt (L ++ [p])).Perm (L ++ [p]) := srt_perm _
  rw [freeB_iff] at hf
  have nd1 : ((L ++ [p]).map (·.1)).Nodup := by
    rw [List.map_append, List.map_singleton, List.nodup_append]
    refine ⟨asc_nodup h.asc, by simp, fun a ha b hb => ?_⟩
    obtain ⟨c, hc, e⟩ := List.mem_map.mp ha
    have := hf c hc
    rw [List.mem_singleton.mp hb, ← e]
    exact this.1
  have nd2 : ((L ++ [p]).map (·.2)).Nodup := by
    rw [List.map_append, List.map_singleton, List.nodup_append]
    refine ⟨h.nd, by simp, fun a ha b hb => ?_⟩
    obtain ⟨c, hc, e⟩ := List.mem_map.mp ha
    have := hf c hc
    rw [List.mem_singleton.mp hb, ← e]
    exact this.2
  refine ⟨fun q hq => ?_, ?_, ((pm.map (·.2)).nodup_iff).mpr nd2⟩
  · rcases List.mem_append.mp (pm.mem_iff.mp hq) with e | e
    · exact h.rng q e
    · rw [List.mem_singleton.mp e]; exact hp
  · have n1 : ((srt (L ++ [p])).map (·.1)).Nodup := ((pm.map (·.1)).nodup_iff).mpr nd1
    have s1 := srt_le (L ++ [p])
    rw [List.Nodup, List.pairwise_map] at n1
    rw [List.pairwise_map]
    refine (s1.and n1).imp fun {a b} hh => ?_
    obtain ⟨x, y⟩ := hh
    rw [leP_iff] at x
    omega
/-- doors less calls -/
def left (ds : List Int) (is : List Int) : List Int := ds.mapIdx fun j d => d - ((is.count (j : Int) : Nat) : Int)
theorem left_len (ds is : List Int) : (left ds is).length = ds.length := by simp [left]
theorem left_get (ds is : List Int) (j : Nat) : (left ds is)[j]? = (ds[j]?).map fun d => d - ((is.count (j : Int) : Nat) : Int) := by
  unfold left
  rw [List.getElem?_mapIdx]
theorem left_nil (ds : List Int) : left ds [] = ds := by
  apply List.ext_getElem?
  intro j
  rw [left_get]
  simp
theorem left_perm {ds is js : List Int} (h : is.Perm js) : left ds is = left ds js := by
  apply List.ext_getElem?
  intro j
  rw [left_get, left_get, h.count_eq]
theorem left_snoc {ds is : List Int} {i : Nat} {x : Int} (h : (left ds is)[i]? = some x) : (left ds is).set i (x - 1) = left ds (is ++ [(i : Int)]) := by
  apply List.ext_getElem?
  intro j
  rw [List.getElem?_set, left_get ds (is ++ [(i : Int)]) j]
  by_cases e : i = j
  · subst e
    have hl : i < (left ds is).length := (List.getElem?_eq_some_iff.mp h).1
    rw [if_pos rfl, if_pos hl]
    rw [left_get] at h
    cases d : ds[i]? with
    | none => rw [d] at h; cases h
    | some d0 =>
      rw [d] at h
      simp only [Option.map_some, Option.some.injEq] at h
      simp only [Option.map_some, Option.some.injEq, List.count_append, List.count_singleton_self]
      omega
  · rw [if_neg e, left_get]
    have : (is ++ [(i : Int)]).count (j : Int) = is.count (j : Int) := by
      rw [List.count_append, List.count_singleton]
      have : ((i : Int) == (j : Int)) = false := by
        simp
        omega
      rw [this]
      simp
    rw [this]
def fs (S : List (List PP)) : List Int := S.flatten.map (·.1)
def sn (S : List (List PP)) : List Int := S.flatten.map (·.2)
structure StdOk (ds es : List Int) (m : Int) (S : List (List PP)) : Prop where
  len : (S.length : Int) = m
  ld : ∀ L ∈ S, LoadOk ds.length es.length L
  ci : ∀ d ∈ left ds (fs S), 0 ≤ d
  co : ∀ d ∈ left es (sn S), 0 ≤ d
theorem StdOk.set {ds es : List Int} {m : Int} {S : List (List PP)} {k : Nat} {L : List PP} {p : PP} {x y : Int} (h : StdOk ds es m S) (hk : S[k]? = some L) (hp : InP ds.length es.length p) (hf : freeB L p = true)
    (hx : (left ds (fs S))[p.1.toNat]? = some x) (x0 : 0 < x) (hy : (left es (sn S))[p.2.toNat]? = some y) (y0 : 0 < y) :
    StdOk ds es m (S.set k (srt (L ++ [p]))) ∧ (left ds (fs S)).set p.1.toNat (x - 1) = left ds (fs (S.set k (srt (L ++ [p])))) ∧ (left es (sn S)).set p.2.toNat (y - 1) = left es (sn (S.set k (srt (L ++ [p])))) := by
  have hkl : k < S.length := (List.getElem?_eq_some_iff.mp hk).1
  have pm : (S.set k (srt (L ++ [p]))).flatten.Perm (S.flatten ++ [p]) := by
    have e1 : S = S.take k ++ L :: S.drop (k + 1) := by
      have := List.getElem?_eq_some_iff.mp hk
      obtain ⟨_, e⟩ := this
      rw [← e]
      simp
    have e2 : S.set k (srt (L ++ [p])) = S.take k ++ srt (L ++ [p]) :: S.drop (k + 1) := by
      rw [List.set_eq_take_append_cons_drop, if_pos hkl]
    rw [e2]
    conv => rhs; rw [e1]
    rw [List.flatten_append, List.flatten_cons, List.flatten_append, List.flatten_cons, List.append_assoc, List.append_assoc]
    refine List.Perm.append_left _ ?_
    refine (List.Perm.append_right _ (srt_perm _)).trans ?_
    rw [List.append_assoc]
    refine List.Perm.append_left _ ?_
    exact List.perm_append_comm
  have p1 : (fs (S.set k (srt (L ++ [p])))).Perm (fs S ++ [p.1]) := by
    unfold fs
    have := pm.map (·.1)
    rwa [List.map_append] at this
  have p2 : (sn (S.set k (srt (L ++ [p])))).Perm (sn S ++ [p.2]) := by
    unfold sn
    have := pm.map (·.2)
    rwa [List.map_append] at this
  have c1 : ((p.1.toNat : Nat) : Int) = p.1 := by have := hp.1; omega
  have c2 : ((p.2.toNat : Nat) : Int) = p.2 := by have := hp.2.2.1; omega
  have e1 := left_snoc hx
  have e2 := left_snoc hy
  rw [c1, ← left_perm p1] at e1
  rw [c2, ← left_perm p2] at e2
  refine ⟨⟨by rw [List.length_set]; exact h.len, fun M hM => ?_, fun d hd => ?_, fun d hd => ?_⟩, e1, e2⟩
  · rcases List.mem_or_eq_of_mem_set hM with e | e
    · exact h.ld M e
    · rw [e]
      exact (h.ld L (List.mem_of_getElem? hk)).srt_add hp hf
  · rw [← e1] at hd
    rcases List.mem_or_eq_of_mem_set hd with e | e
    · exact h.ci d e
    · omega
  · rw [← e2] at hd
    rcases List.mem_or_eq_of_mem_set hd with e | e
    · exact h.co d e
    · omega
theorem StdOk.empty {ds es : List Int} {n : Nat} (hd : ∀ d ∈ ds, 1 ≤ d) (he : ∀ d ∈ es, 1 ≤ d) : StdOk ds es (n : Nat) (List.replicate n []) := by
  have f0 : fs (List.replicate n []) = [] := by simp [fs]
  have s0 : sn (List.replicate n []) = [] := by simp [sn]
  refine ⟨by simp, fun L hL => ?_, fun d h => ?_, fun d h => ?_⟩
  · rw [(List.mem_replicate.mp hL).2]; exact .nil
  · rw [f0, left_nil] at h
    have := hd d h; omega
  · rw [s0, left_nil] at h
    have := he d h; omega
/-- free middles -/
def frees (S : List (List PP)) (p : PP) : List Int := ((List.range S.length).filter fun k => freeB (S.getD k []) p).map Int.ofNat
def freesTo (S : List (List PP)) (p : PP) (i : Nat) : List Int := ((List.range i).filter fun k => freeB (S.getD k []) p).map Int.ofNat
theorem freesTo_succ (S : List (List PP)) (p : PP) (i : Nat) : freesTo S p (i + 1) = freesTo S p i ++ (if freeB (S.getD i []) p = true then [(i : Int)] else []) := by
  unfold freesTo
  rw [List.range_succ, List.filter_append, List.map_append]
  congr 1
  cases h : freeB (S.getD i []) p with
  | true =>
    have e : List.filter (fun k => freeB (S.getD k []) p) [i] = [i] := by rw [List.filter, h, List.filter]
    rw [e]; rfl
  | false =>
    have e : List.filter (fun k => freeB (S.getD k []) p) [i] = [] := by rw [List.filter, h, List.filter]
    rw [e]; rfl
/-- strictly ascending lists with the same members are equal -/
theorem asc_ext : ∀ {l m : List Int}, l.Pairwise (· < ·) → m.Pairwise (· < ·) → (∀ k, k ∈ l ↔ k ∈ m) → l = m := by
  intro l m hl hm h
  refine List.Perm.eq_of_pairwise (le := fun a b : Int => a < b) (fun a b _ _ x y => by omega) hl hm ?_
  rw [List.perm_ext_iff_of_nodup (asc_nodup hl) (asc_nodup hm)]
  exact h
theorem asc_dec {l ns : List Int} (hn : ns.Pairwise (· < ·)) (h : ∀ k, k ∈ ns ↔ k ∈ l) : decide (l = ns) = decide (l.Pairwise (· < ·)) := by
  refine decide_eq_decide.mpr ⟨fun e => by rw [e]; exact hn, fun p => asc_ext p hn fun k => (h k).symm⟩
theorem sub_perm : ∀ {ks l : List Int}, ks.Nodup → (∀ x ∈ ks, x ∈ l) → l.length ≤ ks.length → ks.Perm l
  | [], l, _, _, h => by
    have : l = [] := List.length_eq_zero_iff.mp (by simpa using h)
    rw [this]
  | x :: ks, l, n, s, h => by
    have hx := s x (List.mem_cons_self ..)
    have pm := List.perm_cons_erase hx
    have l1 := pm.length_eq
    rw [List.length_cons] at l1 h
    rw [List.nodup_cons] at n
    refine (List.Perm.cons x (sub_perm n.2 (fun y hy => ?_) (by omega))).trans pm.symm
    have hyl := s y (List.mem_cons_of_mem _ hy)
    have ne : y ≠ x := fun e => n.1 (e ▸ hy)
    exact (List.mem_erase_of_ne ne).mpr hyl
theorem nd_dec {l ks : List Int} (hk : ks.Nodup) (h : ∀ k, k ∈ ks ↔ k ∈ l) : decide (l.length = ks.length) = decide l.Nodup := by
  refine decide_eq_decide.mpr ⟨fun e => ?_, fun p => ?_⟩
  · have h2 : ∀ x ∈ ks, x ∈ l := fun x hx => (h x).mp hx
    exact (sub_perm hk h2 (by omega)).nodup_iff.mp hk
  · exact (List.Perm.length_eq ((List.perm_ext_iff_of_nodup p hk).mpr fun k => (h k).symm))
end Sd
set_option Elab.async false
set_option linter.all false
/-! A pair put into a load and taken out of it. -/
namespace Sd
def takeL (L : List PP) (p : PP) : List PP := L.filter fun c => !decide (c = p)
def putL (L : List PP) (p : PP) : List PP := srt (L ++ [p])
theorem LoadOk.le {n m : Nat} {L : List PP} (h : LoadOk n m L) : L.Pairwise (fun a b => leP a b = true) := by
  have := List.pairwise_map.mp h.asc
  exact this.imp fun {a b} x => leP_iff.mpr (.inl x)
theorem LoadOk.nodup {n m : Nat} {L : List PP} (h : LoadOk n m L) : L.Nodup := by
  have := List.pairwise_map.mp h.asc
  exact this.imp fun {a b} x e => by rw [e] at x; omega
theorem inj_nd {f : PP → Int} : ∀ {L : List PP}, (L.map f).Nodup → ∀ {a b : PP}, a ∈ L → b ∈ L → f a = f b → a = b
  | [], _, _, _, h, _, _ => nomatch h
  | c :: L, h, a, b, ha, hb, e => by
    rw [List.map_cons, List.nodup_cons] at h
    rcases List.mem_cons.mp ha with x | x <;> rcases List.mem_cons.mp hb with y | y
    · rw [x, y]
    · exact absurd (List.mem_map.mpr ⟨b, y, by rw [← e, x]⟩) h.1
    · exact absurd (List.mem_map.mpr ⟨a, x, by rw [e, y]⟩) h.1
    · exact inj_nd h.2 x y e
theorem take_put {n m : Nat} {L : List PP} {p : PP} (h : LoadOk n m L) (hf : freeB L p = true) : takeL (putL L p) p = L := by
  have no : p ∉ L := fun hp => (freeB_iff.mp hf p hp).1 rfl
  have e1 : takeL (L ++ [p]) p = L := by
    unfold takeL
    rw [List.filter_append]
    have : [p].filter (fun c => !decide (c = p)) = [] := by simp
    rw [this, List.append_nil]
    refine List.filter_eq_self.mpr fun c hc => ?_
    have : c ≠ p := fun z => no (z ▸ hc)
    simp [this]
  have pm : (takeL (putL L p) p).Perm L := by
    have := (srt_perm (L ++ [p])).filter fun c => !decide (c = p)
    rw [show (L ++ [p]).filter (fun c => !decide (c = p)) = L from e1] at this
    exact this
  have s1 := (srt_le (L ++ [p])).sublist (List.filter_sublist (p := fun c => !decide (c = p)))
  exact (srt_uniq pm s1).trans (srt_uniq (List.Perm.refl L) h.le).symm
theorem take_perm {L : List PP} {p : PP} (nd : L.Nodup) (hp : p ∈ L) : L.Perm (takeL L p ++ [p]) := by
  have e : takeL L p = L.erase p := by
    rw [List.Nodup.erase_eq_filter nd]
    unfold takeL
    congr 1
    funext c
    by_cases z : c = p <;> simp [z]
  rw [e]
  exact (List.perm_cons_erase hp).trans (List.perm_append_comm (l₁ := [p]))
theorem put_take {n m : Nat} {L : List PP} {p : PP} (h : LoadOk n m L) (hp : p ∈ L) : putL (takeL L p) p = L :=
  (srt_uniq (take_perm h.nodup hp) h.le).symm
theorem LoadOk.take {n m : Nat} {L : List PP} (p : PP) (h : LoadOk n m L) : LoadOk n m (takeL L p) :=
  ⟨fun q hq => h.rng q (List.mem_filter.mp hq).1, h.asc.sublist ((List.filter_sublist).map _), List.Pairwise.sublist ((List.filter_sublist).map _) h.nd⟩
theorem free_take {n m : Nat} {L : List PP} {p : PP} (h : LoadOk n m L) (hp : p ∈ L) : freeB (takeL L p) p = true := by
  refine freeB_iff.mpr fun c hc => ?_
  obtain ⟨h1, h2⟩ := List.mem_filter.mp hc
  have ne : c ≠ p := by simpa using h2
  exact ⟨fun e => ne (inj_nd (asc_nodup h.asc) h1 hp e), fun e => ne (inj_nd h.nd h1 hp e)⟩
theorem take_len (L : List PP) (p : PP) : (takeL L p).length ≤ L.length := List.length_filter_le _ _
theorem put_mem (L : List PP) (p : PP) : p ∈ putL L p := (srt_perm _).mem_iff.mpr (by simp)
theorem put_len (L : List PP) (p : PP) : (putL L p).length = L.length + 1 := by
  unfold putL
  rw [srt_len]
  simp
theorem left_more {ds is js : List Int} {i : Int} (h : is.Perm (js ++ [i])) (g : ∀ d ∈ left ds is, 0 ≤ d) : (∀ d ∈ left ds js, 0 ≤ d) ∧ (0 ≤ i → i < ds.length → 0 < (left ds js).getD i.toNat 0) := by
  have key : ∀ {j : Nat} {d : Int}, ds[j]? = some d → 0 ≤ d - ((is.count (j : Int) : Nat) : Int) := fun {j d} e => by
    refine g _ (List.mem_of_getElem? (i := j) ?_)
    rw [left_get, e]
    rfl
  have cnt : ∀ j : Nat, is.count (j : Int) = js.count (j : Int) + [i].count (j : Int) := fun j => by rw [h.count_eq, List.count_append]
  constructor
  · intro d hd
    obtain ⟨j, hj⟩ := List.getElem?_of_mem hd
    rw [left_get] at hj
    cases e : ds[j]? with
    | none => rw [e] at hj; cases hj
    | some z =>
      rw [e] at hj
      have := key e
      have c := cnt j
      simp only [Option.map_some, Option.some.injEq] at hj
      omega
  · intro h0 h1
    obtain ⟨n, rfl⟩ := Int.eq_ofNat_of_zero_le h0
    have hn : n < ds.length := by omega
    have e : ds[n]? = some ds[n] := List.getElem?_eq_getElem hn
    have k := key e
    have c := cnt n
    rw [List.count_singleton_self] at c
    rw [List.getD_eq_getElem?_getD, Int.toNat_natCast, left_get, e]
    show 0 < ds[n] - _
    omega
theorem set_flat {S : List (List PP)} {k : Nat} {L M : List PP} {p : PP} (hk : S[k]? = some L) (h : L.Perm (M ++ [p])) : S.flatten.Perm ((S.set k M).flatten ++ [p]) := by
  have hkl : k < S.length := (List.getElem?_eq_some_iff.mp hk).1
  have e1 : S = S.take k ++ L :: S.drop (k + 1) := by
    obtain ⟨_, e⟩ := List.getElem?_eq_some_iff.mp hk
    rw [← e]
    simp
  have e2 : S.set k M = S.take k ++ M :: S.drop (k + 1) := by rw [List.set_eq_take_append_cons_drop, if_pos hkl]
  rw [e2]
  conv => lhs; rw [e1]
  rw [List.flatten_append, List.flatten_cons, List.flatten_append, List.flatten_cons, List.append_assoc, List.append_assoc]
  refine List.Perm.append_left _ ?_
  refine (List.Perm.append_right _ h).trans ?_
  rw [List.append_assoc]
  exact List.Perm.append_left _ List.perm_append_comm
theorem StdOk.take {ds es : List Int} {m : Int} {S : List (List PP)} {k : Nat} {L : List PP} {p : PP} (h : StdOk ds es m S) (hk : S[k]? = some L) (hp : p ∈ L) :
    StdOk ds es m (S.set k (takeL L p)) ∧ 0 < (left ds (fs (S.set k (takeL L p)))).getD p.1.toNat 0 ∧ 0 < (left es (sn (S.set k (takeL L p)))).getD p.2.toNat 0 := by
  have lo := h.ld L (List.mem_of_getElem? hk)
  obtain ⟨r1, r2, r3, r4⟩ := lo.rng p hp
  have pm := set_flat hk (take_perm lo.nodup hp)
  have p1 : (fs S).Perm (fs (S.set k (takeL L p)) ++ [p.1]) := by
    unfold fs
    have := pm.map (·.1)
    rwa [List.map_append] at this
  have p2 : (sn S).Perm (sn (S.set k (takeL L p)) ++ [p.2]) := by
    unfold sn
    have := pm.map (·.2)
    rwa [List.map_append] at this
  obtain ⟨a1, a2⟩ := left_more p1 h.ci
  obtain ⟨b1, b2⟩ := left_more p2 h.co
  refine ⟨⟨by rw [List.length_set]; exact h.len, fun M hM => ?_, a1, b1⟩, a2 r1 r2, b2 r3 r4⟩
  rcases List.mem_or_eq_of_mem_set hM with e | e
  · exact h.ld M e
  · rw [e]
    exact lo.take p
theorem mem_frees {S : List (List PP)} {p : PP} {z : Int} : z ∈ frees S p ↔ ∃ k : Nat, z = (k : Int) ∧ k < S.length ∧ freeB (S.getD k []) p = true := by
  unfold frees
  simp only [List.mem_map, List.mem_filter, List.mem_range]
  exact ⟨fun ⟨k, ⟨h1, h2⟩, e⟩ => ⟨k, e.symm, h1, h2⟩, fun ⟨k, e, h1, h2⟩ => ⟨k, ⟨h1, h2⟩, e.symm⟩⟩
theorem set_back {S : List (List PP)} {k : Nat} {L M : List PP} (hk : S[k]? = some L) : (S.set k M).set k L = S := by
  obtain ⟨h, e⟩ := List.getElem?_eq_some_iff.mp hk
  rw [List.set_set, ← e]
  exact List.set_getElem_self h
theorem set_at {S : List (List PP)} {k : Nat} {L M : List PP} (hk : S[k]? = some L) : (S.set k M)[k]? = some M := by
  obtain ⟨h, _⟩ := List.getElem?_eq_some_iff.mp hk
  rw [List.getElem?_set, if_pos rfl, if_pos h]
end Sd
set_option linter.all false
/-! The busiest number of a pair, the greatest of a list, the degree. -/
namespace Sd
/-- doors da at the pair's input switch, db at its output switch; so, si: the doors of all other switches of the other side -/
def bzI (da db so si : Int) : Int := min (da - 1) so + min (db - 1) si + min (da - 1 - min (da - 1) so) (db - 1 - min (db - 1) si)
def bz (ds es : List Int) (p : PP) : Int := bzI (ds.getD p.1.toNat 0) (es.getD p.2.toNat 0) (es.sum - es.getD p.2.toNat 0) (ds.sum - ds.getD p.1.toNat 0)
theorem bzI_comm (a b c d : Int) : bzI a b c d = bzI b a d c := by unfold bzI; omega
theorem bz_comm (ds es : List Int) (i o : Int) : bz ds es (i, o) = bz es ds (o, i) := bzI_comm ..
theorem bzI_ge {a b c d x y z : Int} (h1 : x ≤ a - 1) (h2 : x ≤ c) (h3 : y ≤ b - 1) (h4 : y ≤ d) (h5 : z ≤ a - 1 - x) (h6 : z ≤ b - 1 - y) : x + y + z ≤ bzI a b c d := by unfold bzI; omega
theorem bzI_nn {a b c d : Int} (h1 : 1 ≤ a) (h2 : 1 ≤ b) (h3 : 0 ≤ c) (h4 : 0 ≤ d) : 0 ≤ bzI a b c d := by unfold bzI; omega
theorem bzI_deg {a b c d : Int} (h1 : 1 ≤ a) (h2 : 1 ≤ b) (h3 : 0 ≤ c) (h4 : 0 ≤ d) : min a (b + c) ≤ bzI a b c d + 1 ∧ min b (a + d) ≤ bzI a b c d + 1 := by unfold bzI; omega
def mx (l : List Int) : Int := l.foldl max 0
theorem mx_snoc (l : List Int) (x : Int) : mx (l ++ [x]) = max (mx l) x := by unfold mx; rw [List.foldl_append]; rfl
theorem fold_ge : ∀ (l : List Int) (a : Int), a ≤ l.foldl max a ∧ ∀ x ∈ l, x ≤ l.foldl max a
  | [], a => ⟨Int.le_refl a, fun x h => nomatch h⟩
  | y :: l, a => by
    have h := fold_ge l (max a y)
    refine ⟨by show a ≤ l.foldl max (max a y); omega, fun x hx => ?_⟩
    show x ≤ l.foldl max (max a y)
    rcases List.mem_cons.mp hx with e | e
    · subst e; omega
    · exact h.2 x e
theorem fold_in : ∀ (l : List Int) (a : Int), l.foldl max a = a ∨ l.foldl max a ∈ l
  | [], a => .inl rfl
  | y :: l, a => by
    show l.foldl max (max a y) = a ∨ l.foldl max (max a y) ∈ y :: l
    rcases fold_in l (max a y) with e | e
    · rw [e]
      rcases Int.le_total a y with h | h
      · right; rw [Int.max_eq_right h]; exact List.mem_cons_self ..
      · left; exact Int.max_eq_left h
    · exact .inr (List.mem_cons_of_mem _ e)
theorem mx_ge {l : List Int} {x : Int} (h : x ∈ l) : x ≤ mx l := (fold_ge l 0).2 x h
theorem mx_nn (l : List Int) : 0 ≤ mx l := (fold_ge l 0).1
theorem mx_le {l : List Int} {b : Int} (h0 : 0 ≤ b) (h : ∀ x ∈ l, x ≤ b) : mx l ≤ b := by
  rcases fold_in l 0 with e | e
  · unfold mx; omega
  · exact h _ e
theorem mx_uniq {l : List Int} {m : Int} (h : m ∈ l) (g : ∀ x ∈ l, x ≤ m) (h0 : 0 ≤ m) : m = mx l := by
  have := mx_ge h
  have := mx_le h0 g
  omega
theorem mx_ext {l m : List Int} (h : ∀ x, x ∈ l ↔ x ∈ m) : mx l = mx m := by
  have a := mx_le (l := l) (mx_nn m) fun x hx => mx_ge ((h x).mp hx)
  have b := mx_le (l := m) (mx_nn l) fun x hx => mx_ge ((h x).mpr hx)
  omega
def dg (ds es : List Int) : Int := mx (ds.map (fun d => min d es.sum) ++ es.map (fun d => min d ds.sum))
theorem dg_comm (ds es : List Int) : dg ds es = dg es ds := mx_ext fun x => by rw [List.mem_append, List.mem_append]; exact Or.comm
theorem sum_ge : ∀ {ds : List Int} (_ : ∀ d ∈ ds, 1 ≤ d) {n : Nat}, n < ds.length → ds.getD n 0 ≤ ds.sum ∧ 1 ≤ ds.getD n 0
  | [], _, n, h => absurd h (Nat.not_lt_zero n)
  | d :: ds, hd, n, h => by
    have h1 := hd d (List.mem_cons_self ..)
    have hs : 0 ≤ ds.sum := by
      have : ∀ (l : List Int), (∀ x ∈ l, 1 ≤ x) → 0 ≤ l.sum := fun l => by
        induction l with
        | nil => intro _; simp
        | cons x l ih =>
          intro hx
          have := hx x (List.mem_cons_self ..)
          have := ih fun y hy => hx y (List.mem_cons_of_mem _ hy)
          rw [List.sum_cons]; omega
      exact this ds fun x hx => hd x (List.mem_cons_of_mem _ hx)
    rw [List.sum_cons]
    cases n with
    | zero => refine ⟨?_, ?_⟩ <;> simp <;> omega
    | succ n =>
      have := sum_ge (ds := ds) (fun x hx => hd x (List.mem_cons_of_mem _ hx)) (n := n) (by simpa using h)
      rw [List.getD_cons_succ]
      omega
theorem sum_take {ds : List Int} {k : Nat} {x : Int} (h : ds[k]? = some x) : (ds.take (k + 1)).sum = (ds.take k).sum + x := by
  rw [List.take_add_one, h]
  simp
end Sd
namespace Sd
theorem sum_le4 : ∀ {l : List Int}, (∀ d ∈ l, 1 ≤ d ∧ d ≤ 4) → l.sum ≤ 4 * l.length ∧ 0 ≤ l.sum
  | [], _ => by simp
  | d :: l, h => by
    have h1 := h d (List.mem_cons_self ..)
    have h2 := sum_le4 (l := l) fun x hx => h x (List.mem_cons_of_mem _ hx)
    rw [List.sum_cons, List.length_cons]
    omega
/-- how many stand for the other switches, up to the k-th -/
def oth (ds : List Int) (n : Nat) (x : Int) (k : Nat) : Int := (ds.take k).sum - (if n < k then x else 0)
theorem oth_zero (ds : List Int) (n : Nat) (x : Int) : oth ds n x 0 = 0 := by simp [oth]
theorem oth_at {ds : List Int} {n : Nat} {x : Int} (h : ds[n]? = some x) : oth ds n x (n + 1) = oth ds n x n := by
  unfold oth
  rw [sum_take h, if_pos (by omega), if_neg (by omega)]
  omega
theorem oth_ne {ds : List Int} {n k : Nat} {x d : Int} (h : ds[k]? = some d) (ne : k ≠ n) : oth ds n x (k + 1) = oth ds n x k + d := by
  unfold oth
  rw [sum_take h]
  by_cases c : n < k
  · rw [if_pos c, if_pos (by omega)]; omega
  · rw [if_neg c, if_neg (by omega)]; omega
theorem oth_end {ds : List Int} {n : Nat} {x : Int} (h : n < ds.length) : oth ds n x ds.length = ds.sum - x := by
  unfold oth
  rw [if_pos h, List.take_length]
theorem oth_le {ds : List Int} {n : Nat} {x : Int} (h : ∀ d ∈ ds, 1 ≤ d ∧ d ≤ 4) (hx : 0 ≤ x) (k : Nat) (hl : ds.length ≤ 4) : oth ds n x k ≤ 16 := by
  have := sum_le4 (l := ds.take k) fun d hd => h d (List.mem_of_mem_take hd)
  have : (ds.take k).length ≤ 4 := by rw [List.length_take]; omega
  unfold oth
  split <;> omega
end Sd
set_option Elab.async false
set_option linter.all false
set_option maxRecDepth 100000
set_option maxHeartbeats 4000000
/-! set(list of ints), len(set), enumerate(tuple), sorted(list of pairs) by a Lean function. -/
namespace Ext
open PySem PySem.Spec PyProof.Rows L2 Com
section
variable {P : Program} {w : World} {A : Around} {E : Value → Shared → Prop} {s : Shared}
set_option maxRecDepth 100000 in
set_option maxHeartbeats 3200000 in
theorem call_set_listI {l : Addr} {items : Array Value} (ns : List Int) {Q : Value → Shared → Prop} (hh : A.handled = none) (hl : s.heap.IsList l items) (hit : IntsAre items.toList ns) (hb : ns.length + 1 < scanBound)
    (h : ∀ (h' : Heap) (tk c : Nat), SetR w h' s.heap.objs.size (fun j => decide (j ∈ ns)) c → c ≤ ns.length → (∀ b o, s.heap.get? b = some o → h'.get? b = some o) → Q (.ref s.heap.objs.size) { s with heap := h', toks := tk }) :
    wpAny (model P w) A (call (.type "set") [.ref l]) Q E s := by
  have hisz : items.size = ns.length := by
    have q := IntsAre.length hit
    rw [Array.length_toList] at q
    exact q
  obtain ⟨c, tl, hmro⟩ := F.called_set.mro
  have hmade := F.called_set.made
  have hsub := F.called_set.sub
  refine wpAny_call (codeAny_of_tree ?_)
  show wpAny _ _ (callAny (.type "set") _) _ _ _
  refine wpAny_pure ⟨Code.quiet_builtin _ (by decide +kernel), codeAny_builtin F.entry_type_call ?_⟩
  rw [Around.under_plain (weight_type_call_type "set" [.ref l] []) rfl]
  have h1 := F.called_set.notType
  have h2 := F.called_set.canCreate
  have hct := F.typeCall_set_1 (.ref l)
  repeat (any_goals (first | assumption | wp_step))
  refine codeAny_mono (code_set_led1 (.ref l) (E := E) (Q₁ := fun obj s₁ => obj = .ref s.heap.objs.size ∧ s₁ = { s with heap := s.heap.push { cls := .type "set", dict := none, data := .set #[] 0 (.fresh 0 0 (!w.params.followText "set-order")) } }) ⟨rfl, rfl⟩) fun r s₁ hr => ?_
  cases r with
  | error e => exact hr
  | ok fl =>
    cases fl with
    | ret obj =>
      obtain ⟨rfl, rfl⟩ := hr
      have hS : (s.heap.push { cls := .type "set", dict := none, data := .set #[] 0 (.fresh 0 0 (!w.params.followText "set-order")) }).get? s.heap.objs.size = some { cls := .type "set", dict := none, data := .set #[] 0 (.fresh 0 0 (!w.params.followText "set-order")) } := Heap.get?_push_size _ rfl
      have hT : Shared.TypeIs { s with heap := s.heap.push { cls := .type "set", dict := none, data := .set #[] 0 (.fresh 0 0 (!w.params.followText "set-order")) } } (.ref s.heap.objs.size) "set" := ⟨_, hS, rfl⟩
      have hli := F.called_set.init.lookup
      have hbi := F.called_set.init.bind (.ref s.heap.objs.size)
      repeat (any_goals (first | assumption | wp_step))
      refine codeAny_mono (codeAny_call_builtin (R := wants (fun r s₂ => r = .none ∧ ∃ h' tk c, s₂ = { s with heap := h', toks := tk } ∧ SetR w h' s.heap.objs.size (fun j => decide (j ∈ ns)) c ∧ c ≤ ns.length ∧
          (∀ b o, s.heap.get? b = some o → h'.get? b = some o)) E) F.called_set.init.plain F.entry_set_init (check_set_init_1 hT ?_)) fun r₂ s₂ hr₂ => ?_
      · obtain ⟨ol, hol, hcl, nl, hdl⟩ := hl
        obtain ⟨ocls, odict, odata, oslots⟩ := ol
        simp only at hcl hdl
        subst hcl; subst hdl
        have hol' : (s.heap.push { cls := .type "set", dict := none, data := .set #[] 0 (.fresh 0 0 (!w.params.followText "set-order")) }).get? l = some { cls := .type "list", dict := odict, data := .seq items nl, slots := oslots } := Heap.get?_push_of_some _ hol
        have hsls := F.sub_list_set
        have hslf := F.sub_list_frozenset
        have hne : (Value.type "list" == Value.type "dict") = false := by decide
        have hl1 : (s.heap.push { cls := .type "set", dict := none, data := .set #[] 0 (.fresh 0 0 (!w.params.followText "set-order")) }).IsList l items := ⟨_, hol', rfl, nl, rfl⟩
        unfold Builtin.«set.__init__» noKeywords Builtin.Frozenset.updateFrom
        generalize hPI : pyIter = PI
        wp_walk
        subst hPI
        refine wpAny_pyIter_list hl1 ?_
        refine wpAny_bind (wpAny_runValue ?_)
        have hlS : l < s.heap.objs.size := Heap.lt_size hol
        have hh3 : A.in1.in1.in1.handled = none := by simp [hh]
        have hz1 : (s.heap.push { cls := .type "set", dict := none, data := .set #[] 0 (.fresh 0 0 (!w.params.followText "set-order")) }).objs.size = s.heap.objs.size + 1 := Heap.size_push ..
        have hneI : l ≠ (s.heap.push { cls := .type "set", dict := none, data := .set #[] 0 (.fresh 0 0 (!w.params.followText "set-order")) }).objs.size := by
          rw [Heap.size_push]; exact Nat.ne_of_lt (Nat.lt_succ_of_lt hlS)
        have hSf : s.heap.objs.size ∉ [(s.heap.push { cls := .type "set", dict := none, data := .set #[] 0 (.fresh 0 0 (!w.params.followText "set-order")) }).objs.size, l] := by
          rw [Heap.size_push]; simp only [List.mem_cons, List.mem_singleton, List.not_mem_nil, or_false, not_or]
          exact ⟨Nat.ne_of_lt (Nat.lt_succ_self _), Nat.ne_of_gt hlS⟩
        have hval : ∀ (i : Nat) (v : Value), items[i]? = some v → ∃ k t, ns[i]? = some k ∧ v = .int k t := fun i v hv => by
          have hi : i < ns.length := by rw [← hisz]; exact (Array.getElem?_eq_some_iff.mp hv).1
          obtain ⟨t, e⟩ := PyProof.Rows.IntsAre.int_at hit i v (by rw [Array.getElem?_toList]; exact hv)
          refine ⟨ns[i], t, List.getElem?_eq_getElem hi, ?_⟩
          rw [e, List.getD_eq_getElem?_getD, List.getElem?_eq_getElem hi] <;> rfl
        refine set_update_ints ((Walks.list hh3 _ l hneI items).toS) s.heap.objs.size
          hSf ns hisz hb hval (items.size - 0) 0 _ (by omega) (Nat.zero_le _)
          ⟨⟨_, Heap.get?_push_size _ rfl, rfl, rfl⟩, (hl1.push _)⟩ ?hS0 ?hR
        case hS0 =>
          have hget : ((s.heap.push { cls := .type "set", dict := none, data := .set #[] 0 (.fresh 0 0 (!w.params.followText "set-order")) }).push { cls := .type "list_iterator", data := .fields #[.ref l, .int 0 0] }).get? s.heap.objs.size
              = some { cls := .type "set", dict := none, data := .set #[] 0 (.fresh 0 0 (!w.params.followText "set-order")) } := Heap.get?_push_of_some _ hS
          exact ⟨0, Nat.le_refl 0, setR_new_at hget⟩
        case hR =>
          intro s' c' hm hc' hS'
          obtain ⟨h', g2, d', tk', os'⟩ := s'
          have eg : g2 = s.gens := hm.gens
          have ed : d' = s.drawn := hm.drawn
          have eo : os' = s.os := hm.os
          subst eg; subst ed; subst eo
          show wpAny _ _ _ _ _ _
          refine wpAny_pure ?_
          show wpAny _ _ (ret Value.none) _ _ _
          rw [hisz] at hc'
          refine wpAny_pure ⟨rfl, h', tk', c', rfl, hS', hc', fun b o e => ?_⟩
          have hb0 : b < s.heap.objs.size := Heap.lt_size e
          have hb1 : b ≠ s.heap.objs.size := Nat.ne_of_lt hb0
          have hb2 : b ≠ (s.heap.push { cls := .type "set", dict := none, data := .set #[] 0 (.fresh 0 0 (!w.params.followText "set-order")) }).objs.size := by
            rw [Heap.size_push]; exact Nat.ne_of_lt (Nat.lt_succ_of_lt hb0)
          exact hm.heap b o (by simp only [List.mem_cons, List.mem_singleton, List.not_mem_nil, or_false, not_or]; exact ⟨hb1, hb2⟩) (Heap.get?_push_of_some _ (Heap.get?_push_of_some _ e))
      · cases r₂ with
        | error e => exact hr₂
        | ok fl₂ =>
          cases fl₂ with
          | ret r =>
            obtain ⟨rfl, h', tk, c', rfl, hS', hc', hk'⟩ := hr₂
            repeat (any_goals (first | assumption | wp_step))
            exact h _ _ _ hS' hc' hk'
          | _ => exact hr₂.elim
    | _ => exact hr.elim
end
end Ext
set_option Elab.async false
set_option linter.all false
set_option maxRecDepth 100000
set_option maxHeartbeats 4000000
namespace Ext
open PySem PySem.Spec PyProof.Rows L2 Com
/-! ### set(list of ints), its length -/
section
variable {X : Cx}
theorem setR_keys {P : Program} {w : World} {h : Heap} {a : Addr} {S : Int → Bool} {n : Nat} (R : SetR w h a S n) : ∃ ks : List Int, ks.Nodup ∧ (∀ k, k ∈ ks ↔ S k = true) ∧ ks.length = n := by
  obtain ⟨o, es, ep, t, ho, hex, hdt, g, nd, hm2, hb, hf, hn, hr, hl2⟩ := R
  refine ⟨es.toList.map keyOf, nd, fun k => ?_, ?_⟩
  · rw [hm2]
  · rw [List.length_map, Array.length_toList]
    first | exact hn.symm | exact hn | omega
def rSetI (K : PySem.W.Frag) (w : World) : List V → Hp → VK → Prop := fun xs H Q => ∃ (l : Addr) (ns : List Int), xs = [V.ref l] ∧ SqL K H l (ns.map V.int) ∧ ns.length ≤ 1000 ∧
  ∀ p n (ks : List Int), ks.Nodup → (∀ k, k ∈ ks ↔ k ∈ ns) → ks.length = n → n ≤ ns.length → H p = none → Q (.ref p) (upd H p (SetO w p (fun k => decide (k ∈ ns)) n))
theorem cr_setI (hc : X.calm = true) : CallR X (.type "set") (rSetI X.K X.w) := by
  intro pins s σ H vs us Q I r h
  obtain ⟨l, ns, rfl, hq, hl, q⟩ := h
  rw [Vals.ref1 r]
  obtain ⟨its, rv, pl, hz⟩ := I.list hq
  have hi : IntsAre its.toArray.toList ns := by simpa using RZ.intsAre_vals rv
  refine call_set_listI ns (I.ok.hd hc) pl.isList hi (by unfold scanBound; omega) fun h' tk c R hcn k => ?_
  obtain ⟨ks, nd, hm, hn⟩ := setR_keys (P := X.prog) R
  have hp : s.heap.objs.size ≤ s.heap.objs.size := Nat.le_refl _
  have hnone : H s.heap.objs.size = none := I.hok.fresh hp
  have J : Inv X pins σ (upd H s.heap.objs.size (SetO X.w s.heap.objs.size (fun k => decide (k ∈ ns)) c)) { s with heap := h', toks := tk } :=
    I.laid (t' := tk) (fun b u e => k b u e) hp (setO_new R)
  exact ⟨.ref s.heap.objs.size, _, J, rfl, q s.heap.objs.size c ks nd (fun k => by rw [hm k, decide_eq_true_eq]) hn hcn hnone⟩
def rLenSet (w : World) : List V → Hp → VK → Prop := fun xs H Q => ∃ (a : Addr) (S : Int → Bool) (n : Nat), xs = [V.ref a] ∧ H a = some (SetO w a S n) ∧ n ≤ 4000 ∧ Q (.int (n : Nat)) H
theorem cl_lenSet : CallR X (.builtin "len") (rLenSet X.w) := by
  intro pins s σ H vs us Q I r h
  obtain ⟨a, S, n, rfl, ha, hn, q⟩ := h
  rw [Vals.ref1 r]
  obtain ⟨o, es, ep, t, ho, hex, hd, _, _, _, _, hf, he, _, _⟩ := setO_get I ha
  exact call_len_set ho hex hd hf (by rw [he]; omega) ⟨.int n, H, I.tok _, ⟨_, by rw [he]⟩, q⟩
end

/-! ### enumerate(tuple) -/
set_option maxHeartbeats 4000000 in
theorem meets_enumerate_new1B {v : Value} {o : Obj} {H : Heap → Prop} (B : Begins v o H) :
    Meets (Builtin.«enumerate.__new__» ⟨[.type "enumerate", v], []⟩) (fun _ R s => H s.heap ∧
      R (.ok (.ret (.ref (s.heap.push o).objs.size))) { s with heap := (s.heap.push o).push { cls := .type "enumerate", data := .fields #[.none, .bool false, .ref s.heap.objs.size, rawInt 0, .none, .none] } }) :=
  .of_wp fun prog w A R s h => by
    obtain ⟨hp, g, d, tk, os⟩ := s; obtain ⟨h1, h⟩ := h
    have hsub := sub_enumerate
    have q1 : ∀ {A' : Around} {E : Value → Shared → Prop} {Q : Value → Shared → Prop}, Q (.ref hp.objs.size) ⟨hp.push o, g, d, tk, os⟩ → wpAny (model prog w) A' (pyIter v) Q E ⟨hp, g, d, tk, os⟩ :=
      fun q => B.iter prog w _ _ ⟨hp, g, d, tk, os⟩ _ h1 q
    wp_walk using q1
    refine wpAny_stack_any fun st => wpAny_pure ?_
    split
    · rename_i c _ _ _ _ _
      cases (c == Value.type "enumerate")
      · wp_walk using q1
        exact ⟨_, rfl, h⟩
      · wp_walk using q1
        exact ⟨_, rfl, h⟩
    · wp_walk using q1
      exact ⟨_, rfl, h⟩
section
variable {prog : Program} {w : World} {A : Around} {E : Value → Shared → Prop} {s : Shared}
theorem call_enumerate_tuple {l : Addr} {items : Array Value} {Q : Value → Shared → Prop} (hL : s.heap.IsTuple l items)
    (h : ∀ h', IsEnum h' (s.heap.objs.size + 1) s.heap.objs.size 0 .none → h'.IsTupleIter s.heap.objs.size l 0 → h'.objs.size = s.heap.objs.size + 2 →
      (∀ b o, s.heap.get? b = some o → h'.get? b = some o) → Q (.ref (s.heap.objs.size + 1)) { s with heap := h' }) :
    wpAny (model prog w) A (call (.type "enumerate") [.ref l]) Q E s := by
  refine callType_new F.called_enumerate (by decide) (F.typeCall_enumerate_1 _) (F.newCall_enumerate_1 _) (fun obj => F.args_object_init_2 obj _) F.entry_enumerate_new
    (meets_enumerate_new1B (begins_tuple l items)) ⟨hL, ?_⟩
  have hz : (s.heap.push { cls := .type "tuple_iterator", data := .fields #[.ref l, .int 0 0] }).objs.size = s.heap.objs.size + 1 := Heap.size_push ..
  show _ ∧ _
  rw [hz]
  have he : IsEnum ((s.heap.push { cls := .type "tuple_iterator", data := .fields #[.ref l, .int 0 0] }).push
      { cls := .type "enumerate", data := .fields #[.none, .bool false, .ref s.heap.objs.size, rawInt 0, .none, .none] }) (s.heap.objs.size + 1) s.heap.objs.size 0 .none := by
    have := Heap.get?_push_size (s.heap.push { cls := .type "tuple_iterator", data := .fields #[.ref l, .int 0 0] })
      (o := { cls := .type "enumerate", data := .fields #[.none, .bool false, .ref s.heap.objs.size, rawInt 0, .none, .none] }) rfl
    rw [hz] at this; exact this
  refine ⟨⟨_, he, rfl⟩, h _ he ⟨_, Heap.get?_push_of_some _ (Heap.get?_push_size _ rfl), rfl, rfl⟩ (by rw [Heap.size_push, hz]) fun b o x => Heap.get?_push_of_some _ (Heap.get?_push_of_some _ x)⟩
end
/-- the tuple at a, each item in a new pair -/
def Iet (K : PySem.W.Frag) (a : Addr) : It :=
  ⟨fun i H => ∃ (xs : List V) (x : V), SqT K H a xs ∧ xs[i]? = some x, fun i H v H' => ∃ T x, v = .ref T ∧ H T = none ∧ H' = upd H T (.tup [.int (i : Nat), x]) ∧ ∀ xs, SqT K H a xs → xs[i]? = some x, fun i H => ∃ xs : List V, SqT K H a xs ∧ xs.length ≤ i⟩
theorem turn_enumT {P : Program} {w : World} {K : PySem.W.Frag} {elts : List Expr} {kk : Nat} {tpos : Pos} (a e it : Addr) :
    Turn P w K (.Tuple elts kk tpos) (Iet K a) [e, it] e (fun i h => (∃ old, IsEnum h e it ((i : Nat) : Int) old) ∧ h.IsTupleIter it a i ∧ e ≠ it) where
  mem := by simp
  obj := fun i h st b hb => by
    obtain ⟨⟨old, he⟩, ⟨o, ho, hc, hd⟩, _⟩ := st
    have e' : b = e ∨ b = it := by simpa using hb
    rcases e' with z | z
    · rw [z]; exact ⟨_, he, fun v q => nomatch q⟩
    · rw [z]; exact ⟨o, ho, fun v q => by rw [hd] at q; cases q⟩
  keep := fun i h h' st k => let ⟨⟨old, he⟩, hi, hne⟩ := st; ⟨⟨old, k e (by simp) _ he⟩, hi.at fun o q => k it (by simp) o q, hne⟩
  item := by
    intro X hP hw hK hc i pins s σ H E I hf st hg
    subst hP hw hK
    obtain ⟨⟨old, he⟩, hit, hne⟩ := st
    obtain ⟨xs, x, hq, hx⟩ := hg
    obtain ⟨its, rv, p, hz⟩ := I.tuple hq
    obtain ⟨u, hu, ru⟩ := rv.get hx
    have hel : e < s.heap.objs.size := Heap.lt_size he
    have hil : it < s.heap.objs.size := by obtain ⟨_, q, _⟩ := hit; exact Heap.lt_size q
    have hat : s.heap.IsTuple a its.toArray := p
    have hae : a ≠ e := fun z => by
      obtain ⟨o, ho, hcl, n, hd⟩ := hat
      have he2 : s.heap.get? e = some _ := he
      rw [z, he2] at ho
      cases ho
      cases hd
    have hai : a ≠ it := fun z => by
      obtain ⟨o, ho, hcl, n, hd⟩ := hat
      obtain ⟨o2, q, _, hd2⟩ := hit
      rw [z, q] at ho
      cases ho
      rw [hd2] at hd
      cases hd
    have hlt : i < its.toArray.size := by
      have := (List.getElem?_eq_some_iff.mp hu).1
      simpa using this
    have hef : e ∉ [it, a] := by
      simp only [List.mem_cons, List.not_mem_nil, or_false, not_or]
      exact ⟨hne, hae.symm⟩
    refine wpAny_pyNext_enum_itemD (Draws.tuple (by have := I.ok.hd hc; simpa using this) it a hai its.toArray) he ⟨hit, hat⟩ hlt hne hef fun x2 h' tk hP ho hst hT hsz hk => ?_
    obtain rfl : u = x2 := by
      have : its.toArray[i]? = some u := by simpa using hu
      rw [this] at hP
      exact Option.some.inj hP
    refine ⟨_, rfl, wpAny_letOwnedTupleGo_enum (s := { s with heap := h', toks := tk + 1 }) ho fun h'' he' sb => ?_⟩
    have hT2 : h''.get? s.heap.objs.size = some { cls := .type "tuple", data := .seq #[.int i tk, u] } := (sb.2 _ (Nat.ne_of_gt hel)).trans hT
    have new : ObjOk X.prog X.w (upd H s.heap.objs.size (.tup [.int (i : Nat), x])) h'' s.heap.objs.size (.tup [.int (i : Nat), x]) :=
      ⟨by show 2 ≤ sizeLine; decide, [.int i tk, u], .cons ⟨_, rfl⟩ (.cons ru .nil), ⟨_, hT2, rfl, _, rfl⟩⟩
    have I1 : Inv X pins σ (upd H s.heap.objs.size (.tup [.int (i : Nat), x])) { s with heap := h'', toks := tk + 1 } :=
      I.turnedNew (ch := [e, it]) (fun b ob hb q => (sb.2 b (fun z => hb (by simp [z]))).trans (hk b ob (fun z => hb (by simp [z])) (fun z => hb (by simp [z])) q)) hf (Nat.le_refl _) new
    refine ⟨.ref s.heap.objs.size, _, I1, rfl, ⟨_, x, rfl, I.hok.fresh (Nat.le_refl _), rfl, fun ys hy => by rw [I.tuple_inj hy hq]; exact hx⟩, ⟨⟨u, ?_⟩, hst.1.at fun o q => (sb.2 it (Ne.symm hne)).trans q, hne⟩, fun b hb => ?_⟩
    · have e1 : ((i + 1 : Nat) : Int) = (i : Int) + 1 := by omega
      rw [e1]; exact he'
    · have hb' : b < s.heap.objs.size := by
        have e' : b = e ∨ b = it := by simpa using hb
        rcases e' with z | z
        · rw [z]; exact hel
        · rw [z]; exact hil
      rw [upd_ne (Nat.ne_of_lt hb')]
      exact (hf b hb).1
  done := by
    intro X hP hw hK hc i pins s σ H E I hf st hg
    subst hP hw hK
    obtain ⟨⟨old, he⟩, hit, hne⟩ := st
    obtain ⟨xs, hq, hx⟩ := hg
    obtain ⟨its, rv, p, hz⟩ := I.tuple hq
    obtain ⟨f0, f1, f2, f3, f4, f5⟩ := hf it (by simp)
    have hl := rv.length
    have hat : s.heap.IsTuple a its.toArray := p
    have hai : a ≠ it := fun z => by
      obtain ⟨o, ho, hcl, n, hd⟩ := hat
      obtain ⟨o2, q, _, hd2⟩ := hit
      rw [z, q] at ho
      cases ho
      rw [hd2] at hd
      cases hd
    unfold pyNext
    have hT : s.TypeIs (.ref e) "enumerate" := ⟨_, he, rfl⟩
    refine wpAny_bind (wpAny_attempt (wpAny_callSpecial?_slot (name := Str.ofString "__next__") hT F.slot_enumerate_next
      (wpAny_call_entry F.slot_enumerate_next hT F.entry_enumerate_next ?_ (F.args_enumerate_next_1 _))))
    show wpAny _ _ (field (.ref e) 2 >>= _) _ _ _
    refine wpAny_bind (wpAny_field he rfl (x := .ref it) rfl ?_)
    refine wpAny_bind (wpAny_nextOf_tuple_end (I.ok.hd hc) hit hat (by simp; omega) fun h' x he' hx' => ?_)
    obtain ⟨o, ho, hcc⟩ := hx'
    refine wpAny_bind (wpAny_isInstance (T := "StopIteration") (b := true) ⟨o, ho, hcc⟩ isSubtype_stop ?_)
    exact wpAny_pure ⟨rfl, I.turned (t' := s.toks) (fun b o hb q => he' b o hb q) f0 f1 f3 f4 f5⟩
  self := fun A i s Q E st h => let ⟨⟨_, he⟩, _⟩ := st; wpAny_pyIter_enum he h
def iEnumT (K : PySem.W.Frag) (ta : TA) : TI := fun σ H R => ta σ H fun vs H1 => ∃ a xs, vs = [.ref a] ∧ SqT K H1 a xs ∧ R (Iet K a) H1
theorem pi_enumT {X : Cx} (K : PySem.W.Frag) {e : Expr} {ta : TA} {p pos tpos : Pos} {elts : List Expr} {kk : Nat} (hg : Gl X "enumerate") (hm : X.mg "enumerate" = none) (ha : PA X [e] ta) (hs : starEach [e] X.env = [(false, eval e X.env)] := by rfl) (hK : X.K = K := by rfl) :
    PI X (.Tuple elts kk tpos) (.Call (.Name "enumerate" p) [e] [] pos) (iEnumT K ta) := by
  subst hK
  refine ⟨fun pins s σ H R I h => ?_⟩
  refine Call_ (ld_blt I hg hm boot_enumerate (PyProof.Rows.callWith_type1 (thn (ha.run pos pins s σ H _ I h) fun us s1 ⟨vs, H1, I1, r1, q1⟩ => ?_) hs rfl))
  obtain ⟨a, xs, ex, hq, q⟩ := q1
  subst ex
  cases r1 with
  | cons r rr =>
    cases rr
    cases r
    obtain ⟨its, rv, p', hz⟩ := I1.tuple hq
    refine call_enumerate_tuple (show s1.heap.IsTuple a its.toArray from p') fun h' he hit hsz hk => wpAny_pyIter_enum he ?_
    have I2 : Inv X pins σ H1 { s1 with heap := h' } := I1.kept (t' := s1.toks) hk
    refine ⟨s1.heap.objs.size + 1, [s1.heap.objs.size + 1, s1.heap.objs.size], _, _, H1, rfl, I2, turn_enumT a (s1.heap.objs.size + 1) s1.heap.objs.size, ⟨⟨.none, he⟩, hit, Nat.succ_ne_self _⟩, fun b hb => ?_, q⟩
    have e' : b = s1.heap.objs.size + 1 ∨ b = s1.heap.objs.size := by simpa using hb
    have hle : s1.heap.objs.size ≤ b := by
      rcases e' with z | z
      · rw [z]; exact Nat.le_add_right _ _
      · rw [z]; exact Nat.le_refl _
    exact I1.fpOk hle (I1.hok.fresh hle)
end Ext
set_option Elab.async false
set_option linter.all false
set_option maxRecDepth 100000
set_option maxHeartbeats 4000000
/-! sum(tuple of ints); == of two tuples of the very same items. -/
namespace Ext
open PySem PySem.Spec PyProof.Rows L2 Com
section
variable {prog : Program} {w : World} {A : Around} {E : Value → Shared → Prop} {s : Shared} {l : Addr} {xs : Array (Int × Tok)}
theorem sum_rawT {its : List Value} {ns : List Int} {Q : Value → Shared → Prop} (hh : A.handled = none) (hl : s.heap.IsTuple l its.toArray) (hi : IntsAre its ns)
    (h : ∀ h' tk t', (∀ b o, s.heap.get? b = some o → h'.get? b = some o) → Q (.int ns.sum t') { s with heap := h', toks := tk }) : wpAny (model prog w) A (call (.builtin "sum") [.ref l]) Q E s := by
  obtain ⟨xs, e⟩ := hi.allInts.items
  have hn : numsOf (intItems xs).toList = ns := by rw [← e]; exact hi.numsOf
  rw [nums_intItems] at hn
  rw [e] at hl
  have hlt : l < s.heap.objs.size := by obtain ⟨_, q, _⟩ := hl; exact Heap.lt_size q
  refine call_sum_walkG (wpAny_pyIter_tuple hl ?_)
  refine ⟨_, _, _, _, _, _, numAt xs, rfl, Walks.tuple (A := A.in1) hh s.heap.objs.size l (Nat.ne_of_lt hlt) (intItems xs), ⟨⟨_, Heap.get?_push_size _ rfl, rfl, rfl⟩, hl.push _⟩, (fun b hb => ?_), (fun _ _ => intItems_at), fun h' tk t' hk => ?_⟩
  · show b < (s.heap.push _).objs.size
    rw [Heap.size_push]
    rcases List.mem_cons.mp hb with rfl | hb
    · exact Nat.lt_succ_self _
    · rw [List.mem_singleton.mp hb]
      exact Nat.lt_succ_of_lt hlt
  · have := h h' tk t' fun b o q => hk b o (fun hm => by
      rw [List.mem_singleton.mp hm] at q
      exact absurd (Heap.lt_size q) (Nat.lt_irrefl _)) (Heap.get?_push_of_some _ q)
    have e2 : preSum (numAt xs) (intItems xs).size = ns.sum := by
      rw [preSum_eq, List.take_of_length_le (by simp [intItems]), hn]
    rw [e2]
    exact this
end
def rSumT (K : PySem.W.Frag) : List V → Hp → VK → Prop := fun vs H Q => ∃ (a : Addr) (ns : List Int), vs = [V.ref a] ∧ SqT K H a (ns.map V.int) ∧ Q (.int ns.sum) H
theorem cr_sumT {X : Cx} (K : PySem.W.Frag) (hc : X.calm = true := by rfl) (hK : X.K = K := by rfl) : CallR X (.builtin "sum") (rSumT K) := by
  subst hK
  intro pins s σ H vs us Q I r h
  obtain ⟨a, ns, rfl, hs, q⟩ := h
  obtain ⟨its, rv, hl, _⟩ := I.tuple hs
  rw [Vals.ref1 r]
  exact sum_rawT (I.ok.hd hc) (show s.heap.IsTuple a its.toArray from hl) rv.ints fun h' tk t' hk => ⟨.int _, H, I.kept hk, ⟨_, rfl⟩, q⟩
/-- each item a scalar or an object: two tuples of these very items are equal -/
def sameOk (x : V) : Bool := match x with
  | .ref _ => true
  | x => flatB x
def rEqTS (K : PySem.W.Frag) : R2 := fun x y H Q => ∃ a b xs, x = .ref a ∧ y = .ref b ∧ SqT K H a xs ∧ SqT K H b xs ∧ xs.all sameOk = true ∧ Q (.bl true) H
theorem same_at {A : Around} {s : Shared} {x : V} {v u : Value} (rv : RelV x v) (ru : RelV x u) (h : sameOk x = true) : SeqAt.EqAt A s v u true := by
  cases x with
  | ref a =>
    cases (show v = Value.ref a from rv)
    cases (show u = Value.ref a from ru)
    exact SeqAt.EqAt.same _
  | non => exact eqAt_same rv ru h
  | bl _ => exact eqAt_same rv ru h
  | int _ => exact eqAt_same rv ru h
  | str _ => exact eqAt_same rv ru h
  | byt _ => exact eqAt_same rv ru h
  | flt _ => exact eqAt_same rv ru h
  | ty _ => exact eqAt_same rv ru h
theorem vals_at : ∀ {xs : List V} {us ws : List Value}, Vals xs us → Vals xs ws → xs.all sameOk = true → ∀ (A : Around) (s : Shared) (j : Nat) (h1 : j < us.length) (h2 : j < ws.length), SeqAt.EqAt A s us[j] ws[j] true
  | _, _, _, .nil, .nil, _, _, _, j, h1, _ => absurd h1 (Nat.not_lt_zero j)
  | x :: xs, _, _, .cons r t, .cons r' t', h, A, s, 0, _, _ => by
    rw [List.all_cons, Bool.and_eq_true] at h
    exact same_at r r' h.1
  | x :: xs, _, _, .cons r t, .cons r' t', h, A, s, j + 1, h1, h2 => by
    rw [List.all_cons, Bool.and_eq_true] at h
    exact vals_at t t' h.2 A s j (Nat.lt_of_succ_lt_succ h1) (Nat.lt_of_succ_lt_succ h2)
theorem eqTS {X : Cx} (K : PySem.W.Frag) (hu : X.A.units + 64 < cLine) (hK : X.K = K := by rfl) : OpR X (compareOp .Eq) (rEqTS K) := by
  subst hK
  intro pins s σ H x y v u Q I rx ry h
  obtain ⟨a, b, xs, rfl, rfl, ha, hb, hall, q⟩ := h
  cases (show v = Value.ref a from rx)
  cases (show u = Value.ref b from ry)
  obtain ⟨us, r1, p1, _⟩ := I.tuple ha
  obtain ⟨ws, r2, p2, _⟩ := I.tuple hb
  refine SeqAt.eq_tupleAt (e := fun _ => true) (show s.heap.IsTuple a us.toArray from p1) (show s.heap.IsTuple b ws.toArray from p2) (by omega) (fun j h1 h2 => ?_) ?_
  · have := vals_at r1 r2 hall X.A.in1 s j (by simpa using h1) (by simpa using h2)
    simpa using this
  · have e : ((List.range (min us.toArray.size ws.toArray.size)).all (fun _ => true) && us.toArray.size == ws.toArray.size) = true := by simp [← r1.length, ← r2.length]
    rw [e]
    exact ⟨.bl true, H, I, rfl, q⟩
end Ext
set_option Elab.async false
set_option linter.all false
set_option maxRecDepth 100000
set_option maxHeartbeats 4000000
/-! Pairs, loads, standings in the heap; sorted lists of pairs. -/
namespace StV
open PySem PySem.Spec PyProof.Rows L2 Com Sd
/-! ### pairs -/
def kOf (H : Hp) (v : V) : Int × Int := match v with
  | .ref a => match H a with
    | some (.tup [.int i, .int j]) => (i, j)
    | _ => (0, 0)
  | _ => (0, 0)
def PairV (H : Hp) (v : V) (p : Int × Int) : Prop := ∃ a, v = .ref a ∧ H a = some (.tup [.int p.1, .int p.2])
theorem PairV.k {H : Hp} {v : V} {p : Int × Int} (h : PairV H v p) : kOf H v = p := by
  obtain ⟨a, rfl, e⟩ := h
  show (match H a with | some (.tup [.int i, .int j]) => (i, j) | _ => (0, 0)) = p
  rw [e]
theorem pairsV_map {H : Hp} : ∀ {vs : List V} {ps : List PP}, PairsV H vs ps → ps = vs.map (kOf H)
  | _, _, .nil => rfl
  | _, _, .cons h t => by rw [List.map_cons, ← pairsV_map t, PairV.k h]
theorem pairsV_mem {H : Hp} : ∀ {vs : List V} {ps : List PP}, PairsV H vs ps → ∀ v ∈ vs, PairV H v (kOf H v)
  | _, _, .nil, v, hv => nomatch hv
  | _, _, .cons h t, v, hv => by
    rcases List.mem_cons.mp hv with e | e
    · subst e
      have := PairV.k h
      rw [this]
      exact h
    · exact pairsV_mem t v e
theorem pairsV_of {H : Hp} : ∀ {vs : List V}, (∀ v ∈ vs, PairV H v (kOf H v)) → PairsV H vs (vs.map (kOf H))
  | [], _ => .nil
  | v :: vs, h => .cons (h v (List.mem_cons_self ..)) (pairsV_of fun u hu => h u (List.mem_cons_of_mem _ hu))
theorem pairsV_perm {H : Hp} {vs us : List V} {ps : List PP} (h : PairsV H vs ps) (g : us.Perm vs) : ∃ qs : List PP, qs.Perm ps ∧ PairsV H us qs := by
  refine ⟨us.map (kOf H), ?_, pairsV_of fun v hv => pairsV_mem h v (g.mem_iff.mp hv)⟩
  rw [pairsV_map h]
  exact g.map _
theorem paired_get {α β : Type} {F : α → β → Prop} : ∀ {xs : List α} {ys : List β}, Paired F xs ys → ∀ {i : Nat} {x : α}, xs[i]? = some x → ∃ y, ys[i]? = some y ∧ F x y
  | _, _, .nil, i, x, h => by simp at h
  | _, _, .cons (a := a) (b := b) r t, 0, x, h => by
    cases h
    exact ⟨_, rfl, r⟩
  | _, _, .cons r t, i + 1, x, h => by
    obtain ⟨y, hy, f⟩ := paired_get t (i := i) (x := x) h
    exact ⟨y, hy, f⟩
theorem paired_get' {α β : Type} {F : α → β → Prop} : ∀ {xs : List α} {ys : List β}, Paired F xs ys → ∀ {i : Nat} {y : β}, ys[i]? = some y → ∃ x, xs[i]? = some x ∧ F x y
  | _, _, .nil, i, x, h => by simp at h
  | _, _, .cons r t, 0, x, h => by
    cases h
    exact ⟨_, rfl, r⟩
  | _, _, .cons r t, i + 1, x, h => by
    obtain ⟨y, hy, f⟩ := paired_get' t (i := i) (y := x) h
    exact ⟨y, hy, f⟩
theorem paired_set {α β : Type} {F : α → β → Prop} {x : α} {y : β} (f : F x y) : ∀ {xs : List α} {ys : List β} {i : Nat}, Paired F xs ys → Paired F (xs.set i x) (ys.set i y)
  | _, _, _, .nil => .nil
  | _, _, 0, .cons r t => .cons f t
  | _, _, i + 1, .cons r t => .cons r (paired_set f t)
theorem paired_imp {α β : Type} {F G : α → β → Prop} (h : ∀ x y, F x y → G x y) : ∀ {xs : List α} {ys : List β}, Paired F xs ys → Paired G xs ys
  | _, _, .nil => .nil
  | _, _, .cons r t => .cons (h _ _ r) (paired_imp h t)
theorem paired_app {α β : Type} {F : α → β → Prop} {us : List α} {ws : List β} (g : Paired F us ws) : ∀ {xs : List α} {ys : List β}, Paired F xs ys → Paired F (xs ++ us) (ys ++ ws)
  | _, _, .nil => g
  | _, _, .cons r t => .cons r (paired_app g t)
theorem paired_rep {α β : Type} {F : α → β → Prop} {x : α} {y : β} (f : F x y) : ∀ n : Nat, Paired F (List.replicate n x) (List.replicate n y)
  | 0 => .nil
  | n + 1 => .cons f (paired_rep f n)
/-! ### loads, standings -/
def LoadV (H : Hp) (v : V) (L : List PP) : Prop := ∃ b us, v = .ref b ∧ H b = some (.tup us) ∧ PairsV H us L
def LoadsV (H : Hp) : List V → List (List PP) → Prop := Paired (LoadV H)
def StaV (H : Hp) (v : V) (S : List (List PP)) : Prop := ∃ a us, v = .ref a ∧ H a = some (.tup us) ∧ LoadsV H us S
theorem PairV.same {H H' : Hp} (s : Same H H') {v : V} {p : PP} (h : PairV H v p) : PairV H' v p := let ⟨a, e, x⟩ := h; ⟨a, e, s _ _ x⟩
theorem LoadV.same {H H' : Hp} (s : Same H H') {v : V} {L : List PP} (h : LoadV H v L) : LoadV H' v L := let ⟨b, us, e, x, p⟩ := h; ⟨b, us, e, s _ _ x, PairsV.same s p⟩
theorem LoadsV.same {H H' : Hp} (s : Same H H') {vs : List V} {S : List (List PP)} (h : LoadsV H vs S) : LoadsV H' vs S := paired_imp (fun _ _ x => LoadV.same s x) h
theorem StaV.same {H H' : Hp} (s : Same H H') {v : V} {S : List (List PP)} (h : StaV H v S) : StaV H' v S := let ⟨a, us, e, x, p⟩ := h; ⟨a, us, e, s _ _ x, LoadsV.same s p⟩
/-- tuples stay -/
def TupS (H H' : Hp) : Prop := ∀ b xs, H b = some (.tup xs) → H' b = some (.tup xs)
theorem TupS.of {H H' : Hp} (s : Same H H') : TupS H H' := fun b xs e => s b _ e
theorem TupS.trans {H H1 H2 : Hp} (s : TupS H H1) (t : TupS H1 H2) : TupS H H2 := fun b xs e => t b xs (s b xs e)
theorem PairV.tupS {H H' : Hp} (s : TupS H H') {v : V} {p : PP} (h : PairV H v p) : PairV H' v p := let ⟨a, e, x⟩ := h; ⟨a, e, s _ _ x⟩
theorem LoadV.tupS {H H' : Hp} (s : TupS H H') {v : V} {L : List PP} (h : LoadV H v L) : LoadV H' v L := let ⟨b, us, e, x, p⟩ := h; ⟨b, us, e, s _ _ x, PairsV.mono s p⟩
theorem LoadsV.tupS {H H' : Hp} (s : TupS H H') {vs : List V} {S : List (List PP)} (h : LoadsV H vs S) : LoadsV H' vs S := paired_imp (fun _ _ x => LoadV.tupS s x) h
theorem StaV.tupS {H H' : Hp} (s : TupS H H') {v : V} {S : List (List PP)} (h : StaV H v S) : StaV H' v S := let ⟨a, us, e, x, p⟩ := h; ⟨a, us, e, s _ _ x, LoadsV.tupS s p⟩
theorem TupS.new {H : Hp} {p : Addr} {o : HO} (n : H p = none) : TupS H (upd H p o) := fun b xs e => by rw [upd_ne (ne_of_none e n)]; exact e
theorem TupS.lset {H : Hp} {p : Addr} {o : HO} {ys : List V} (n : H p = some (.lst ys)) : TupS H (upd H p o) := fun b xs e => by
  rw [upd_ne (fun z => by rw [z, n] at e; cases e)]
  exact e
/-! ### as data, for == -/
def dL (L : List PP) : PyData := .tuple (L.map pD)
def dS (S : List (List PP)) : PyData := .tuple (S.map dL)
theorem dp_pairV {K : PySem.W.Frag} {H : Hp} {v : V} {p : PP} (h : PairV H v p) : Dp K H v (pD p) := by
  obtain ⟨a, rfl, e⟩ := h
  exact dp_tI (ds := [_, _]) e
theorem dp_loadV {K : PySem.W.Frag} {H : Hp} {v : V} {L : List PP} (h : LoadV H v L) : Dp K H v (dL L) := by
  obtain ⟨b, us, rfl, e, p⟩ := h
  exact .tup (SqT.of e) p.dp
theorem dp_loadsV {K : PySem.W.Frag} {H : Hp} : ∀ {vs : List V} {S : List (List PP)}, LoadsV H vs S → DpAll K H vs (S.map dL)
  | _, _, .nil => .nil
  | _, _, .cons h t => .cons (dp_loadV h) (dp_loadsV t)
theorem dp_staV {K : PySem.W.Frag} {H : Hp} {v : V} {S : List (List PP)} (h : StaV H v S) : Dp K H v (dS S) := by
  obtain ⟨b, us, rfl, e, p⟩ := h
  exact .tup (SqT.of e) (dp_loadsV p)
theorem eqv_dL (L M : List PP) : PyData.eqv (dL L) (dL M) = decide (L = M) := by
  show PyData.eqv (.tuple _) (.tuple _) = _
  rw [PyData.eqv]
  exact eqvAll_pairs L M
theorem eqvAll_loads : ∀ S T : List (List PP), PyData.eqvAll (S.map dL) (T.map dL) = decide (S = T)
  | [], [] => rfl
  | [], e :: es => by simp [PyData.eqvAll]
  | d :: ds, [] => by simp [PyData.eqvAll]
  | d :: ds, e :: es => by
    rw [List.map_cons, List.map_cons, PyData.eqvAll, eqvAll_loads ds es, eqv_dL]
    by_cases h : d = e
    · subst h
      by_cases h2 : ds = es
      · subst h2; simp
      · simp [h2]
    · simp [h]
theorem eqv_dS (S T : List (List PP)) : PyData.eqv (dS S) (dS T) = decide (S = T) := by
  show PyData.eqv (.tuple _) (.tuple _) = _
  rw [PyData.eqv]
  exact eqvAll_loads S T
theorem lay_dL (L : List PP) : PyData.canLay0 (dL L) = true := by
  show PyData.canLay0 (.tuple _) = true
  rw [PyData.canLay0, lay_pairs]
theorem depth_dL (L : List PP) : PyData.depth (dL L) ≤ 2 := by
  have := depth_pairs L
  show PyData.depth (.tuple _) ≤ 2
  rw [PyData.depth]
  omega
theorem lay_loads : ∀ S : List (List PP), PyData.canLayAll0 (S.map dL) = true
  | [] => rfl
  | d :: ds => by rw [List.map_cons, PyData.canLayAll0, lay_loads ds, lay_dL]; rfl
theorem depth_loads : ∀ S : List (List PP), PyData.depthAll (S.map dL) ≤ 2
  | [] => by rw [List.map_nil, PyData.depthAll]; omega
  | d :: ds => by
    have := depth_loads ds
    have := depth_dL d
    rw [List.map_cons, PyData.depthAll]
    omega
theorem shaped_dL (L : List PP) : SeqAt.shaped (dL L) = true := by
  have h := depth_dL L
  show (PyData.canLay0 (dL L) && decide (PyData.depth (dL L) ≤ 64)) = true
  rw [lay_dL, Bool.true_and]
  exact decide_eq_true (by omega)
theorem shaped_dS (S : List (List PP)) : SeqAt.shaped (dS S) = true := by
  have h := depth_loads S
  show (PyData.canLay0 (.tuple _) && decide (PyData.depth (.tuple _) ≤ 64)) = true
  rw [PyData.canLay0, lay_loads, PyData.depth, Bool.true_and]
  exact decide_eq_true (by omega)
theorem shaped_pD (p : PP) : SeqAt.shaped (pD p) = true := shaped_tI _
/-- lists of ints -/
def lI (ds : List Int) : PyData := .list (ds.map .int)
theorem eqv_lI (ds es : List Int) : PyData.eqv (lI ds) (lI es) = decide (ds = es) := by
  show PyData.eqv (.list _) (.list _) = _
  rw [PyData.eqv]
  exact eqvAll_ints ds es
theorem lay_lI (ds : List Int) : PyData.canLay0 (lI ds) = true := by
  show PyData.canLay0 (.list _) = true
  rw [PyData.canLay0, lay_ints]
theorem depth_lI (ds : List Int) : PyData.depth (lI ds) = 1 := by
  show PyData.depth (.list _) = 1
  rw [PyData.depth, depth_ints]
theorem shaped_lI (ds : List Int) : SeqAt.shaped (lI ds) = true := by
  show (PyData.canLay0 (lI ds) && decide (PyData.depth (lI ds) ≤ 64)) = true
  rw [lay_lI, depth_lI]
  rfl
theorem dp_lI {K : PySem.W.Frag} {H : Hp} {a : Addr} {ds : List Int} (h : H a = some (.lst (ds.map V.int))) : Dp K H (.ref a) (lI ds) := .lst (SqL.of h) (dpAll_ints ds)
/-- a list of two lists of ints -/
def lII (ds es : List Int) : PyData := .list [lI ds, lI es]
theorem eqv_lII (ds es ds' es' : List Int) : PyData.eqv (lII ds es) (lII ds' es') = (decide (ds = ds') && decide (es = es')) := by
  show PyData.eqv (.list _) (.list _) = _
  rw [PyData.eqv, PyData.eqvAll, PyData.eqvAll, PyData.eqvAll, eqv_lI, eqv_lI]
  simp
theorem shaped_lII (ds es : List Int) : SeqAt.shaped (lII ds es) = true := by
  show (PyData.canLay0 (.list _) && decide (PyData.depth (.list _) ≤ 64)) = true
  rw [PyData.canLay0, PyData.canLayAll0, PyData.canLayAll0, PyData.canLayAll0, lay_lI, lay_lI, PyData.depth, PyData.depthAll, PyData.depthAll, PyData.depthAll, depth_lI, depth_lI]
  rfl
theorem dp_lII {K : PySem.W.Frag} {H : Hp} {a b c : Addr} {ds es : List Int} (h : H a = some (.lst [.ref b, .ref c])) (hb : H b = some (.lst (ds.map V.int))) (hc : H c = some (.lst (es.map V.int))) : Dp K H (.ref a) (lII ds es) :=
  .lst (SqL.of h) (.cons (dp_lI hb) (.cons (dp_lI hc) .nil))
/-! ### sorted(a list of pairs) -/
def rSrtP (K : PySem.W.Frag) : List V → Hp → VK → Prop := fun xs H Q => ∃ (a : Addr) (vs : List V) (ps : List PP), xs = [V.ref a] ∧ SqL K H a vs ∧ PairsV H vs ps ∧
  ∀ us p, PairsV H us (srt ps) → H p = none → Q (.ref p) (upd H p (.lst us))
theorem cr_srtP {X : Cx} (K : PySem.W.Frag) (hK : X.K = K := by rfl) : CallR X (.builtin "sorted") (rSrtP K) := by
  subst hK
  intro pins s σ H vs us Q I r h
  obtain ⟨a, xs, ps, e, hs, hp, q⟩ := h
  refine cr_sortedPO pins s σ H vs us Q I r ⟨a, xs, kOf H, e, hs, fun x hx => pairsV_mem hp x hx, fun ys p h1 h2 hn => ?_⟩
  refine q ys p ?_ hn
  have pm := h2.perm
  have e1 : srt ps = ys.map (kOf H) := by
    refine (srt_uniq ?_ ?_).symm
    · rw [pairsV_map hp]
      exact pm.map _
    · rw [List.pairwise_map]
      refine h1.imp fun {a b} z => ?_
      have := SrtO.lexB_no.mp z
      rw [leP_iff]
      omega
  rw [e1]
  exact pairsV_of fun v hv => pairsV_mem hp v (pm.mem_iff.mp hv)
end StV
set_option Elab.async false
set_option linter.all false
set_option maxRecDepth 100000
set_option maxHeartbeats 4000000
/-! An own exception over ValueError, its __init__: super().__init__(text); self.field = field. -/
namespace PySem
namespace Exo
open PySem.W PySem.Calls PyProof.Rows PySem.HandSPX
def iA (p1 p2 : Pos) : Arguments := { posonlyargs := [], args := [{ arg := "self", annotation := none, pos := p1 }, { arg := "field", annotation := none, pos := p2 }], vararg := none, kwonlyargs := [], kw_defaults := [], kwarg := none, defaults := [] }
abbrev sCall (msg : Str) (q1 q2 q3 q4 q5 : Pos) : Expr := .Call (.Attribute (.Call (.Name "super" q1) [] [] q2) "__init__" q3) [.Constant (.str msg) 0 q4] [] q5
def iB (msg : Str) (q1 q2 q3 q4 q5 q6 q7 q8 q9 q10 : Pos) : List Stmt :=
  [.Expr (sCall msg q1 q2 q3 q4 q5) q6, .Assign [.Attribute (.Name "self" q7) "field" q8] (.Name "field" q9) q10]
def iS : Scope := { kind := .function, names := [(PySem.Str.ofString "self", .local), (PySem.Str.ofString "field", .local), (PySem.Str.ofString "__class__", .free), (PySem.Str.ofString "super", .globalImplicit)], isGenerator := false, isCoroutine := false, more := [] }
/-- how the call of the bound __init__ is read -/
def Reads (msg : Str) (q1 q2 q3 q4 q5 : Pos) (env : Env) : Prop := ∃ pl : Sem Bool, eval (sCall msg q1 q2 q3 q4 q5) env = (do
  let ov ← attributeBase (.Call (.Name "super" q1) [] [] q2) "__init__" env (eval (.Call (.Name "super" q1) [] [] q2) env)
  standAt q3.atName
  let (f, first) ← holding [ov] (getMethod ov "__init__" pl)
  callWith q5 f first (backTo q5 (starEach [.Constant (.str msg) 0 q4] env)) [])
/-- what the written part says of the class x, at C, and of its __init__, at fI -/
structure Txt (prog : Program) (K : Frag) (mg : Str → Option Value) (x : Str) (C fI : Addr) : Prop where
  gC : mg x = some (.ref C)
  gS : mg "super" = none
  cls : ∃ nm q N bs bm sn sub ab col dd k0 k1 k2 k3 k5, K.lookup C = some (excClassObj nm q C N bs bm true sn sub ab col dd k0 k1 k2 k3 k5 "ValueError.__new__") ∧ refsVE bm = true
  sup : ks_superIn K C C "__init__" = some (some (.builtin "ValueError.__init__"))
  sVE : subIn K (.ref C) (.type "ValueError") = some true
  own : mroIn K C (.ref C) = some true
  op : nsIn K cStatics "thirdparty.any" = some none
  sa : findIn K (.ref C) "__setattr__" = some (some (.builtin "object.__setattr__"))
  ga : findIn K (.ref C) "__getattribute__" = some (some (.builtin "BaseException.__getattribute__"))
  gg : findIn K (.ref C) "__getattr__" = some none
  noN : findIn K (.ref C) "field" = some none
  iC : findIn K (.ref C) "__init__" = some (some (.ref fI))
  tC : typeIn K (.ref fI) = some (.type "function")
  kC : keepIn K (.ref C) = true
  exC : subIn K (.ref C) (.type "BaseException") = some true
  tyC : typeIn K (.ref C) = some (.type "type")
  hdC : hasDictIn K C = true
  te : exmOne K (.ref C) (.ref C) = some true
  top : (prog.main.scope.names.lookup ("super" : Str)).isSome = false
  fn : ∃ (oc : Value) (od : Option Addr) (doc pm : Value) (an : Option Addr) (ct : Value) (osl : Array (Option Value)) (cda cc : Addr) (qual : Str) (p1 p2 : Pos) (msg : Str) (q1 q2 q3 q4 q5 q6 q7 q8 q9 q10 : Pos)
      (cl : Value) (cld : Option Addr) (csl : Array (Option Value)) (ccl : Value) (cdd : Option Addr) (vs : Array Value) (ccs : Array (Option Value)) (file : Str) (tf : Tok),
    K.lookup fI = some ⟨oc, od, .func (ksFn "__init__" qual (iA p1 p2) (iB msg q1 q2 q3 q4 q5 q6 q7 q8 q9 q10) iS .none .none doc pm an (.ref cda) ct cc), osl⟩ ∧ codeIn K (.ref cda) qual = true ∧
    K.lookup cc = some ⟨cl, cld, .cell (some (.ref C)), csl⟩ ∧ K.lookup cda = some ⟨ccl, cdd, .fields vs, ccs⟩ ∧ vs[2]? = some (.str file tf) ∧ ((prog.main.file : Str) == file) = true ∧ (∀ L : Addr, Reads msg q1 q2 q3 q4 q5 (ksEnv qual iS L fI (.ref cda) cc))
theorem kept_but {K : Frag} {h h' : Heap} {x : Addr} (X : K.In h) (hx : K.lookup x = none) (k : ∀ b o, b ≠ x → h.get? b = some o → h'.get? b = some o) : K.In h' := fun a o e =>
  k a o (fun z => by rw [z, hx] at e; cases e) (X a o e)
theorem one_size (v : Value) : [v].length ≤ sizeLine := by
  rw [sizeLine_eq]
  exact (by decide : 1 ≤ 16777216)
/-- what __init__ leaves of a fresh exception at x -/
structure InitEnd (h h' : Heap) (x C dx t1 : Addr) (v : Value) : Prop where
  keep : ∀ b o, b ≠ x → h.get? b = some o → h'.get? b = some o
  obj : h'.get? x = some { cls := .ref C, dict := some dx, data := .fields #[.ref t1, .none, .none, .none, .bool false, .none] }
  dbig : h.objs.size ≤ dx
  dne : dx ≠ x
  ns : h'.Ns1 dx (fun y => if y = "field" then some v else none)
/-- a made one -/
structure OwnMade (h h' : Heap) (e C d : Addr) (v : Value) : Prop where
  keep : ∀ b o, h.get? b = some o → h'.get? b = some o
  new : h.objs.size ≤ e
  obj : ∃ oe vs, h'.get? e = some oe ∧ oe.cls = .ref C ∧ oe.dict = some d ∧ oe.data = .fields vs ∧ vs[1]? = some .none
  dbig : h.objs.size ≤ d
  dne : d ≠ e
  ns : h'.Ns1 d (fun y => if y = "field" then some v else none)
section
variable {M : Model} {prog : Program} {w : World} {A : Around} {E : Value → Shared → Prop} {h : Heap} {g : Array GenState} {d : Drawn} {t : Nat} {os : OsState}
variable {nm q : Str} {C N : Addr} {bs bm : List Value} {hdct : Bool} {sn : List Str} {sub : List Value} {ab : Bool} {col : Option Bool} {dd : Option Addr} {k0 k1 k2 k3 k5 : Option Value}
/-- the bound ValueError.__init__ is called -/
theorem call_mw {u e t0 : Addr} {rest : List Value} {Q : Value → Shared → Prop}
    (hC : h.get? C = some (excClassObj nm q C N bs bm hdct sn sub ab col dd k0 k1 k2 k3 k5 "ValueError.__new__")) (he : h.get? e = some (excO C t0)) (hu : h.get? u = some (kxs_mw "ValueError.__init__" e)) (hrest : rest.length ≤ sizeLine)
    (hq : ∀ h' t1, (∀ b o, b ≠ e → h.get? b = some o → h'.get? b = some o) → h'.get? e = some (excO C t1) → h.objs.size ≤ h'.objs.size → Q .none ⟨h', g, d, t, os⟩) :
    wpAny (model prog w) A (call (.ref u) rest) Q E ⟨h, g, d, t, os⟩ := by
  refine wpAny_call (codeAny_of_tree ?_)
  show wpAny _ A.in1 (callAny (.ref u) ⟨rest, []⟩) _ _ _
  simp only [callAny]
  refine wpAny_bind (wpAny_load hu ?_)
  simp only [kxs_mw, show (Value.type "method-wrapper" == Value.type "method" || Value.type "method-wrapper" == Value.type "builtin_function_or_method" || Value.type "method-wrapper" == Value.type "method-wrapper") = true by decide, if_true]
  refine KFB.if_so (by decide) ?_
  refine wpAny_bind (check_bound_init F.excBase_ValueError.toExcCallFacts hC he rfl ?_)
  refine wpAny_bind (wpAny_pure (wpAny_pure ?_))
  refine ⟨plainId_quiet F.excBase_ValueError.init.plain _, codeAny_builtin F.excBase_ValueError.initEntry ?_⟩
  refine exc_init_tree (cls := .ref C) (t0 := t0) (dv := none) (c2 := .none) (c3 := .none) (b4 := .bool false) he hrest fun h' k hx ht => hq h' h.objs.size k hx (Nat.le_of_lt (Heap.lt_size ht))
end
section
variable {prog : Program} {w : World} {A : Around} {E : Value → Shared → Prop} {R : Result → Shared → Prop} {s : Shared} {K : Frag} {mg : Str → Option Value} {C fI : Addr} {nm : Str}
theorem ldC {M : Model} {s : Shared} {env : Env} {m : Str → Option Value} {x : Str} {pos : Pos} {v : Value} {Q : Value → Shared → Prop} {A : Around} {E : Value → Shared → Prop} (hn : s.heap.Ns env.locals m) (hv : m x = some v) (h : Q v s)
    (hk : env.scope.kind = .function := by rfl) (hl : env.kindOf x = some .local := by rfl) (hd : (x == ("__debug__" : Str)) = false := by decide) : wpAny M A (eval (.Name x pos) env) Q E s := wpAny_Name (wpAny_loadName_local hk hl hn hv h) hd
theorem init (T : Txt prog K mg nm C fI) {x t0 : Addr} {v : Value} {mb : Str → Option Value} (X : K.In s.heap) (hg : s.heap.Ns mainGlobals mg) (hb : s.heap.Ns builtinsNs mb) (hbv : ∀ y : Str, y ≠ "__name__" → mb y = bootBuiltins y)
    (hlim : s.heap.NoLimit) (hx : s.heap.get? x = some (excO C t0)) (hnx : K.lookup x = none) (hroom : A.depth < recursionLimit)
    (hq : ∀ h' tk dx t1, InitEnd s.heap h' x C dx t1 v → R (.ok (.ret .none)) { s with heap := h', toks := tk }) :
    codeAny (model prog w) A (.call (.ref fI) ⟨[.ref x, v], []⟩) R s := by
  obtain ⟨oc, od, doc, pm, an, ct, osl, cda, cc, qual, p1, p2, msg, q1, q2, q3, q4, q5, q6, q7, q8, q9, q10, cl, cld, csl, ccl, cdd, vs, ccs, file, tf, lk, hcd, hcell, hcode, hvs, hfile, hrd⟩ := T.fn
  obtain ⟨pl, hpl⟩ := hrd s.heap.objs.size
  obtain ⟨cn, q, N, bs, bm, sn, sub, ab, col, dd, k0, k1, k2, k3, k5, hC, hbm⟩ := T.cls
  have hcl : clsIn K C = some { name := cn, bases := bs, mro := .ref C :: bm, ns := N, qualname := q, hasDict := true, slotNames := sn, subclasses := sub, abstract := ab, collection := col, hasDel := false } := by unfold clsIn; rw [hC] <;> rfl
  refine ks_codeAny_call_defAt (fd := ksFn "__init__" qual (iA p1 p2) (iB msg q1 q2 q3 q4 q5 q6 q7 q8 q9 q10) iS .none .none doc pm an (.ref cda) ct cc) (body := iB msg q1 q2 q3 q4 q5 q6 q7 q8 q9 q10) (binds := [("self", .ref x), ("field", v)]) hroom (X _ _ lk) rfl hlim (codeRec_of X hcd) rfl
    (BindsTo.of_eq (by first | rfl | with_unfolding_all rfl)) (show ∀ y ∈ iS.names, y.2 ≠ .cell by decide) (by intro y hy; rcases List.mem_cons.mp hy with rfl | hy <;> first | rfl | (rcases List.mem_cons.mp hy with rfl | hy <;> first | rfl | cases hy)) (fun h₁ hns k => ?_) rfl rfl rfl
  have X₁ : K.In h₁ := X.keeps k
  have hx₁ := k _ _ hx
  have hxL : s.heap.objs.size ≠ x := Nat.ne_of_gt (Heap.lt_size hx)
  have hxC : x ≠ C := fun z => by
    have y := X _ _ hC
    rw [← z, hx] at y
    cases y
  show PySem.wpAt (model prog w) _ _ (execs (iB msg q1 q2 q3 q4 q5 q6 q7 q8 q9 q10) (ksEnv qual iS s.heap.objs.size fI (.ref cda) cc)) _ _ _
  refine ks_wpAt_execs_cons (ks_wpAt_Expr_any (ks_wpAt_MethodCall (pl := pl) ?_ hpl))
  refine ks_wpAt_super_base (env := ksEnv qual iS s.heap.objs.size fI (.ref cda) cc) rfl rfl rfl rfl (X₁ _ _ lk) rfl rfl rfl (X₁ _ _ hcode) rfl hvs hfile T.top ?_
  refine ks_loadName_global rfl rfl (loadGlobal_builtin (env := ksEnv qual iS s.heap.objs.size fI (.ref cda) cc) (hg.keeps k) T.gS (hb.keeps k) ((hbv _ (by decide)).trans PyProof.Rows.Boot.«super») ⟨rfl, ?_⟩)
  refine wpAny_loadName_free (env := ksEnv qual iS s.heap.objs.size fI (.ref cda) cc) rfl rfl rfl ⟨_, X₁ _ _ hcell, rfl⟩ ?_
  refine wpAny_loadName_local (env := ksEnv qual iS s.heap.objs.size fI (.ref cda) cc) (v := .ref x) rfl rfl hns (by first | rfl | with_unfolding_all rfl | kernel_rfl) ?_
  refine ks_wpAny_isType_cls (X₁ _ _ hC) rfl ⟨rfl, ?_⟩
  refine ks_wpAny_call_super (X₁ _ _ hC) rfl hx₁ rfl (fun c e => nomatch e) (looks_mroIn X₁ T.own) (fun h₂ hso k₂ => ?_)
  have X₂ : K.In h₂ := X₁.keeps k₂
  have hx₂ := k₂ _ _ hx₁
  have I₂ : InstAt h₂ x (excO C t0) C none := ⟨hx₂, rfl, rfl, trivial⟩
  have hm := T.sup
  unfold ks_superIn at hm
  rw [hcl] at hm
  refine kxs_getMethod kxs_ValueError hso (looks_opaque X₂ T.op) (l₀ := .ref C :: bm) ((looks_clsIn X₂ hcl).andThen .now) rfl X₂ hm (I₂.type.andThen (looks_subIn X₂ T.sVE)) hxC rfl ?_
  have k₁₂ : ∀ b o, h₁.get? b = some o → (h₂.push (kxs_mw "ValueError.__init__" x)).get? b = some o := fun b o e => Heap.get?_push_of_some _ (k₂ b o e)
  have hu : (h₂.push (kxs_mw "ValueError.__init__" x)).get? h₂.objs.size = some (kxs_mw "ValueError.__init__" x) := Heap.get?_push_at rfl rfl
  have sz₂ : s.heap.objs.size ≤ (h₂.push (kxs_mw "ValueError.__init__" x)).objs.size := by
    have a : h₂.objs.size < (h₂.push (kxs_mw "ValueError.__init__" x)).objs.size := Heap.lt_size hu
    have b : h₁.objs.size < h₂.objs.size := Heap.lt_size hso
    have c : s.heap.objs.size < h₁.objs.size := hns.lt
    omega
  generalize h₂.push (kxs_mw "ValueError.__init__" x) = h₂' at k₁₂ hu sz₂ ⊢
  have X₂' : K.In h₂' := X₁.keeps k₁₂
  show wpAny _ _ (callWith q5 (.ref h₂.objs.size) [] (backTo q5 (starEach (.Constant (.str msg) 0 q4 :: []) (ksEnv qual iS s.heap.objs.size fI (.ref cda) cc))) []) _ _ _
  rw [show starEach (.Constant (.str msg) 0 q4 :: []) (ksEnv qual iS s.heap.objs.size fI (.ref cda) cc) = (false, eval (.Constant (.str msg) 0 q4) (ksEnv qual iS s.heap.objs.size fI (.ref cda) cc)) :: starEach [] (ksEnv qual iS s.heap.objs.size fI (.ref cda) cc) from rfl]
  refine kxs_callWith (i := "ValueError.__init__") (x := x) rfl (evalArgs_plain (Calls.spliced_cons (wpAny_Constant_str (env := ksEnv qual iS s.heap.objs.size fI (.ref cda) cc) (x := msg) (k := 0) (pos := q4) (Calls.spliced_nil ⟨hu, ?_⟩))))
  refine call_mw (X₂' _ _ hC) (k₁₂ _ _ hx₁) hu (one_size _) fun h₃ t1 k₃ hx₃ sz₃ => ?_
  have X₃ : K.In h₃ := kept_but X₂' hnx k₃
  have hns₃ : h₃.Ns s.heap.objs.size (fun y => List.lookup y [(PySem.Str.ofString "self", Value.ref x), (PySem.Str.ofString "field", v)].reverse) := by
    obtain ⟨oL, es, ep, hL, r⟩ := hns
    exact ⟨oL, es, ep, k₃ _ _ hxL (k₁₂ _ _ hL), r⟩
  -- self.field = field
  show PySem.wpAt _ _ _ (execs [.Assign [.Attribute (.Name "self" q7) "field" q8] (.Name "field" q9) q10] (ksEnv qual iS s.heap.objs.size fI (.ref cda) cc)) _ _ _
  refine ks_wpAt_execs_cons (wpAt_of_wpAny (plainObj_wpAny_Assign_Attribute ?_))
  refine ldC (env := ksEnv qual iS s.heap.objs.size fI (.ref cda) cc) (v := v) hns₃ (by first | rfl | with_unfolding_all rfl | kernel_rfl) (ldC (env := ksEnv qual iS s.heap.objs.size fI (.ref cda) cc) (v := .ref x) hns₃ (by first | rfl | with_unfolding_all rfl | kernel_rfl) ?_)
  refine set_plain X₃ (ox := excO C t1) (od := none) ⟨hx₃, rfl, rfl, trivial⟩ T.sa ?_
  refine exc_osa X₃ hx₃ hcl (show refsVE (.ref C :: bm) = true from hbm) rfl T.noN (fun h₄ tk₄ dx k₄ dn dne hx₄ hn₄ => ?_)
  refine wpAt_of_wpAny (wpAny_execs_nil (hq h₄ tk₄ dx t1 ⟨fun b o hb e => k₄ b o hb (k₃ b o hb (k₁₂ b o (k b o e))), hx₄, Nat.le_trans sz₂ (Nat.le_trans sz₃ dn), dne, hn₄⟩))
theorem made (T : Txt prog K mg nm C fI) {v : Value} {mb : Str → Option Value} (X : K.In s.heap) (hg : s.heap.Ns mainGlobals mg) (hb : s.heap.Ns builtinsNs mb) (hbv : ∀ y : Str, y ≠ "__name__" → mb y = bootBuiltins y) (hlim : s.heap.NoLimit)
    (hroom : A.depth + 1 < recursionLimit) (hq : ∀ h' tk e d, OwnMade s.heap h' e C d v → R (.ok (.ret (.ref e))) { s with heap := h', toks := tk }) :
    codeAny (model prog w) A (.call (.ref C) ⟨[v], []⟩) R s := by
  obtain ⟨cn, q, N, bs, bm, sn, sub, ab, col, dd, k0, k1, k2, k3, k5, hC, hbm⟩ := T.cls
  obtain ⟨hp, g, dr, tk, os⟩ := s
  have k : ∀ b o, hp.get? b = some o → ((hp.push (kdv_tup [v])).push (excO C hp.objs.size)).get? b = some o := fun b o e => Heap.get?_push_of_some _ (Heap.get?_push_of_some _ e)
  have hget : ((hp.push (kdv_tup [v])).push (excO C hp.objs.size)).get? (hp.objs.size + 1) = some (excO C hp.objs.size) := by heap_get
  have hnx : K.lookup (hp.objs.size + 1) = none := by
    cases e : K.lookup (hp.objs.size + 1) with
    | none => rfl
    | some o =>
      have z : hp.get? (hp.objs.size + 1) = some o := X _ _ e
      exact absurd (Nat.lt_of_succ_lt (Heap.lt_size z)) (Nat.lt_irrefl _)
  refine call_own F.excBase_ValueError (fun X => refsVE_contains X bm hbm) (X _ _ hC) (looks_findIn X T.iC) (fun self => bind_fn X self T.tC) (one_size v) ?_
  refine init (s := ⟨(hp.push (kdv_tup [v])).push (excO C hp.objs.size), g, dr, tk, os⟩) T (X.keeps k) (hg.keeps k) (hb.keeps k) hbv (hlim.keeps k) hget hnx ?_ fun h' tk' dx t1 ⟨k', hx, dn, dne, hns⟩ => ?_
  · show A.depth + 1 < recursionLimit
    exact hroom
  · have old : ∀ b o, hp.get? b = some o → h'.get? b = some o := fun b o e => k' b o (Nat.ne_of_lt (Nat.lt_succ_of_lt (Heap.lt_size e))) (k b o e)
    have z : hp.objs.size + 1 + 1 ≤ dx := by
      first
        | (simpa only [Heap.size_push] using dn)
        | exact dn
        | (have q := dn; rw [Heap.size_push, Heap.size_push] at q; exact q)
    exact ⟨rfl, hq h' tk' (hp.objs.size + 1) dx ⟨old, Nat.le_succ _, ⟨_, _, hx, rfl, rfl, rfl, rfl⟩, Nat.le_trans (Nat.le_trans (Nat.le_succ _) (Nat.le_succ _)) z, dne, hns⟩⟩
end
end Exo
end PySem
namespace Com
open PySem PySem.Spec PyProof.Rows L2
theorem relO_fld {v : V} {v' : Value} (r : RelV v v') (f : Str) : RelO (List.lookup f [(("field" : Str), v)]) (if f = "field" then some v' else none) := by
  by_cases hw : f = "field"
  · subst hw
    rw [if_pos rfl]
    have q : List.lookup ("field" : Str) [(("field" : Str), v)] = some v := by simp [List.lookup]
    rw [q]
    exact r
  · rw [if_neg hw]
    have qw : (f == ("field" : Str)) = false := by simpa using hw
    have q2 : List.lookup f [(("field" : Str), v)] = none := by simp [List.lookup, qw]
    rw [q2]
    trivial
section
variable {X : Cx} {C fI : Addr}
/-- x(e), x an own exception class at C: a new dict of one field -/
def tMkE (C : Addr) (ta : TA) : L2.St → Hp → XK → Prop := fun σ H Q => ta σ H fun vs H1 => ∃ v, vs = [v] ∧ ∀ d, H1 d = none → Q (.ref C) (some d) (upd H1 d (.xd [(("field" : Str), v)]))
theorem pmk_e {x : Str} {a : Expr} {ta : TA} {p pos : Pos} {k : Nat} (T : PySem.Exo.Txt X.prog X.K X.mg x C fI) (hr : Room k X.A) (ha : PA X [a] ta) (hg : Gl X x := by rfl) (hdb : (x == ("__debug__" : Str)) = false := by decide)
    (he : starEach (a :: []) X.env = (false, eval a X.env) :: starEach [] X.env := by rfl) (hpl : (backTo pos (starEach [] X.env)).any (·.1) = false := by rfl) :
    PMk X (.Call (.Name x p) [a] [] pos) (tMkE C ta) := by
  intro pins s σ H Q I h
  refine wpAny_Call_Name_kw (ld_glob I hg T.gC ?_ hdb)
  refine PySem.W.callWith_K (h₀ := X.base) I.ok.mod.kin T.kC (thn (ha.run pos pins s σ H _ I h) fun us s1 hh => ?_) he hpl
  obtain ⟨vs, H1, I1, r1, v, ev, q1⟩ := hh
  subst ev
  refine ⟨I1.kIn, ?_⟩
  cases r1 with
  | cons rv rn =>
    rename_i v' us'
    cases rn
    show wpAny _ _ (call (.ref C) [v']) _ _ _
    have hlim := I1.nolimit
    obtain ⟨mb, hb1, hb2⟩ := I1.mod.blt
    have hbk := hb1.keeps I1.bk
    have hgk := I1.mod.glob.keeps I1.bk
    obtain ⟨hp, g, dr, tk, os⟩ := s1
    refine wpAny_call (PySem.Exo.made T I1.kIn hgk hbk hb2 hlim (by have := hr.dp; omega) fun h' tk' e d M => ?_)
    show MkP X pins σ Q (.ref e) ⟨h', g, dr, tk', os⟩
    obtain ⟨oe, fv, hoe, hc, hd, hdat, h1⟩ := M.obj
    have hns := M.ns
    obtain ⟨G', g1, g2⟩ := restrict h' fun b => decide (b ≠ e)
    have gk : ∀ b, b ≠ e → G'.get? b = h'.get? b := fun b hb => g1 b (decide_eq_true hb)
    have ge : G'.get? e = none := g2 e (by simp)
    have old : ∀ b o, hp.get? b = some o → G'.get? b = some o := fun b o q => (gk b (Nat.ne_of_lt (Nat.lt_of_lt_of_le (Heap.lt_size q) M.new))).trans (M.keep b o q)
    have ob : ObjOk X.prog X.w (upd H1 d (.xd [(("field" : Str), v)])) G' d (.xd [(("field" : Str), v)]) :=
      ⟨_, hns.at (fun o q => (gk d M.dne).trans q), fun f => relO_fld rv f⟩
    have J : Inv X pins σ (upd H1 d (.xd [(("field" : Str), v)])) ⟨G', g, dr, tk', os⟩ := I1.laid (t' := tk') old M.dbig ob
    refine ⟨e, oe, fv, ⟨G', g, dr, tk', os⟩, _, .ref C, some d, rfl, J, fun b o q => ?_, ge, hoe, ⟨hc, hd⟩, hdat, h1, ?_, rfl, I1.bare, raises_own T.exC T.tyC, q1 d (I1.hok.fresh M.dbig)⟩
    · by_cases hb : b = e
      · have q' : G'.get? b = some o := q
        rw [hb, ge] at q'; cases q'
      · exact (gk b hb).symm.trans q
    · rw [upd_ne (Ne.symm M.dne)]
      exact I1.hok.fresh M.new
/-- raise x(e) -/
theorem ps_raiseE {x : Str} {a : Expr} {ta : TA} {W : WX} {p pos pos2 : Pos} {k : Nat} (T : PySem.Exo.Txt X.prog X.K X.mg x C fI) (hr : Room k X.A) (tk : Takes X W) (ha : PA X [a] ta) (hc : X.calm = true := by rfl) (hg : Gl X x := by rfl) (hdb : (x == ("__debug__" : Str)) = false := by decide)
    (he : starEach (a :: []) X.env = (false, eval a X.env) :: starEach [] X.env := by rfl) (hpl : (backTo pos (starEach [] X.env)).any (·.1) = false := by rfl) :
    PS X (.Raise (some (.Call (.Name x p) [a] [] pos)) none pos2) (fun _ σ H => tMkE C ta σ H fun cls d H' => W cls d σ H') := ps_raise hc tk (pmk_e T hr ha hg hdb he hpl)
theorem xf_of {prog : Program} {K : PySem.W.Frag} {mg : Str → Option Value} {x : Str} (T : PySem.Exo.Txt prog K mg x C fI) : XfC K C := ⟨T.ga, T.gg, T.exC, T.hdC⟩
end
end Com
set_option Elab.async false
set_option linter.all false
set_option maxRecDepth 100000
set_option maxHeartbeats 4000000
/-! An own exception over ValueError, its __init__: super().__init__(text); self.field = field. -/
namespace PySem
namespace Exo_thing
open PySem.W PySem.Calls PyProof.Rows PySem.HandSPX
def iA (p1 p2 : Pos) : Arguments := { posonlyargs := [], args := [{ arg := "self", annotation := none, pos := p1 }, { arg := "thing", annotation := none, pos := p2 }], vararg := none, kwonlyargs := [], kw_defaults := [], kwarg := none, defaults := [] }
abbrev sCall (msg : Str) (q1 q2 q3 q4 q5 : Pos) : Expr := .Call (.Attribute (.Call (.Name "super" q1) [] [] q2) "__init__" q3) [.Constant (.str msg) 0 q4] [] q5
def iB (msg : Str) (q1 q2 q3 q4 q5 q6 q7 q8 q9 q10 : Pos) : List Stmt :=
  [.Expr (sCall msg q1 q2 q3 q4 q5) q6, .Assign [.Attribute (.Name "self" q7) "thing" q8] (.Name "thing" q9) q10]
def iS : Scope := { kind := .function, names := [(PySem.Str.ofString "self", .local), (PySem.Str.ofString "thing", .local), (PySem.Str.ofString "__class__", .free), (PySem.Str.ofString "super", .globalImplicit)], isGenerator := false, isCoroutine := false, more := [] }
/-- how the call of the bound __init__ is read -/
def Reads (msg : Str) (q1 q2 q3 q4 q5 : Pos) (env : Env) : Prop := ∃ pl : Sem Bool, eval (sCall msg q1 q2 q3 q4 q5) env = (do
  let ov ← attributeBase (.Call (.Name "super" q1) [] [] q2) "__init__" env (eval (.Call (.Name "super" q1) [] [] q2) env)
  standAt q3.atName
  let (f, first) ← holding [ov] (getMethod ov "__init__" pl)
  callWith q5 f first (backTo q5 (starEach [.Constant (.str msg) 0 q4] env)) [])
/-- what the written part says of the class x, at C, and of its __init__, at fI -/
structure Txt (prog : Program) (K : Frag) (mg : Str → Option Value) (x : Str) (C fI : Addr) : Prop where
  gC : mg x = some (.ref C)
  gS : mg "super" = none
  cls : ∃ nm q N bs bm sn sub ab col dd k0 k1 k2 k3 k5, K.lookup C = some (excClassObj nm q C N bs bm true sn sub ab col dd k0 k1 k2 k3 k5 "ValueError.__new__") ∧ refsVE bm = true
  sup : ks_superIn K C C "__init__" = some (some (.builtin "ValueError.__init__"))
  sVE : subIn K (.ref C) (.type "ValueError") = some true
  own : mroIn K C (.ref C) = some true
  op : nsIn K cStatics "thirdparty.any" = some none
  sa : findIn K (.ref C) "__setattr__" = some (some (.builtin "object.__setattr__"))
  ga : findIn K (.ref C) "__getattribute__" = some (some (.builtin "BaseException.__getattribute__"))
  gg : findIn K (.ref C) "__getattr__" = some none
  noN : findIn K (.ref C) "thing" = some none
  iC : findIn K (.ref C) "__init__" = some (some (.ref fI))
  tC : typeIn K (.ref fI) = some (.type "function")
  kC : keepIn K (.ref C) = true
  exC : subIn K (.ref C) (.type "BaseException") = some true
  tyC : typeIn K (.ref C) = some (.type "type")
  hdC : hasDictIn K C = true
  te : exmOne K (.ref C) (.ref C) = some true
  top : (prog.main.scope.names.lookup ("super" : Str)).isSome = false
  fn : ∃ (oc : Value) (od : Option Addr) (doc pm : Value) (an : Option Addr) (ct : Value) (osl : Array (Option Value)) (cda cc : Addr) (qual : Str) (p1 p2 : Pos) (msg : Str) (q1 q2 q3 q4 q5 q6 q7 q8 q9 q10 : Pos)
      (cl : Value) (cld : Option Addr) (csl : Array (Option Value)) (ccl : Value) (cdd : Option Addr) (vs : Array Value) (ccs : Array (Option Value)) (file : Str) (tf : Tok),
    K.lookup fI = some ⟨oc, od, .func (ksFn "__init__" qual (iA p1 p2) (iB msg q1 q2 q3 q4 q5 q6 q7 q8 q9 q10) iS .none .none doc pm an (.ref cda) ct cc), osl⟩ ∧ codeIn K (.ref cda) qual = true ∧
    K.lookup cc = some ⟨cl, cld, .cell (some (.ref C)), csl⟩ ∧ K.lookup cda = some ⟨ccl, cdd, .fields vs, ccs⟩ ∧ vs[2]? = some (.str file tf) ∧ ((prog.main.file : Str) == file) = true ∧ (∀ L : Addr, Reads msg q1 q2 q3 q4 q5 (ksEnv qual iS L fI (.ref cda) cc))
theorem kept_but {K : Frag} {h h' : Heap} {x : Addr} (X : K.In h) (hx : K.lookup x = none) (k : ∀ b o, b ≠ x → h.get? b = some o → h'.get? b = some o) : K.In h' := fun a o e =>
  k a o (fun z => by rw [z, hx] at e; cases e) (X a o e)
theorem one_size (v : Value) : [v].length ≤ sizeLine := by
  rw [sizeLine_eq]
  exact (by decide : 1 ≤ 16777216)
/-- what __init__ leaves of a fresh exception at x -/
structure InitEnd (h h' : Heap) (x C dx t1 : Addr) (v : Value) : Prop where
  keep : ∀ b o, b ≠ x → h.get? b = some o → h'.get? b = some o
  obj : h'.get? x = some { cls := .ref C, dict := some dx, data := .fields #[.ref t1, .none, .none, .none, .bool false, .none] }
  dbig : h.objs.size ≤ dx
  dne : dx ≠ x
  ns : h'.Ns1 dx (fun y => if y = "thing" then some v else none)
/-- a made one -/
structure OwnMade (h h' : Heap) (e C d : Addr) (v : Value) : Prop where
  keep : ∀ b o, h.get? b = some o → h'.get? b = some o
  new : h.objs.size ≤ e
  obj : ∃ oe vs, h'.get? e = some oe ∧ oe.cls = .ref C ∧ oe.dict = some d ∧ oe.data = .fields vs ∧ vs[1]? = some .none
  dbig : h.objs.size ≤ d
  dne : d ≠ e
  ns : h'.Ns1 d (fun y => if y = "thing" then some v else none)
section
variable {M : Model} {prog : Program} {w : World} {A : Around} {E : Value → Shared → Prop} {h : Heap} {g : Array GenState} {d : Drawn} {t : Nat} {os : OsState}
variable {nm q : Str} {C N : Addr} {bs bm : List Value} {hdct : Bool} {sn : List Str} {sub : List Value} {ab : Bool} {col : Option Bool} {dd : Option Addr} {k0 k1 k2 k3 k5 : Option Value}
/-- the bound ValueError.__init__ is called -/
theorem call_mw {u e t0 : Addr} {rest : List Value} {Q : Value → Shared → Prop}
    (hC : h.get? C = some (excClassObj nm q C N bs bm hdct sn sub ab col dd k0 k1 k2 k3 k5 "ValueError.__new__")) (he : h.get? e = some (excO C t0)) (hu : h.get? u = some (kxs_mw "ValueError.__init__" e)) (hrest : rest.length ≤ sizeLine)
    (hq : ∀ h' t1, (∀ b o, b ≠ e → h.get? b = some o → h'.get? b = some o) → h'.get? e = some (excO C t1) → h.objs.size ≤ h'.objs.size → Q .none ⟨h', g, d, t, os⟩) :
    wpAny (model prog w) A (call (.ref u) rest) Q E ⟨h, g, d, t, os⟩ := by
  refine wpAny_call (codeAny_of_tree ?_)
  show wpAny _ A.in1 (callAny (.ref u) ⟨rest, []⟩) _ _ _
  simp only [callAny]
  refine wpAny_bind (wpAny_load hu ?_)
  simp only [kxs_mw, show (Value.type "method-wrapper" == Value.type "method" || Value.type "method-wrapper" == Value.type "builtin_function_or_method" || Value.type "method-wrapper" == Value.type "method-wrapper") = true by decide, if_true]
  refine KFB.if_so (by decide) ?_
  refine wpAny_bind (check_bound_init F.excBase_ValueError.toExcCallFacts hC he rfl ?_)
  refine wpAny_bind (wpAny_pure (wpAny_pure ?_))
  refine ⟨plainId_quiet F.excBase_ValueError.init.plain _, codeAny_builtin F.excBase_ValueError.initEntry ?_⟩
  refine exc_init_tree (cls := .ref C) (t0 := t0) (dv := none) (c2 := .none) (c3 := .none) (b4 := .bool false) he hrest fun h' k hx ht => hq h' h.objs.size k hx (Nat.le_of_lt (Heap.lt_size ht))
end
section
variable {prog : Program} {w : World} {A : Around} {E : Value → Shared → Prop} {R : Result → Shared → Prop} {s : Shared} {K : Frag} {mg : Str → Option Value} {C fI : Addr} {nm : Str}
theorem ldC {M : Model} {s : Shared} {env : Env} {m : Str → Option Value} {x : Str} {pos : Pos} {v : Value} {Q : Value → Shared → Prop} {A : Around} {E : Value → Shared → Prop} (hn : s.heap.Ns env.locals m) (hv : m x = some v) (h : Q v s)
    (hk : env.scope.kind = .function := by rfl) (hl : env.kindOf x = some .local := by rfl) (hd : (x == ("__debug__" : Str)) = false := by decide) : wpAny M A (eval (.Name x pos) env) Q E s := wpAny_Name (wpAny_loadName_local hk hl hn hv h) hd
theorem init (T : Txt prog K mg nm C fI) {x t0 : Addr} {v : Value} {mb : Str → Option Value} (X : K.In s.heap) (hg : s.heap.Ns mainGlobals mg) (hb : s.heap.Ns builtinsNs mb) (hbv : ∀ y : Str, y ≠ "__name__" → mb y = bootBuiltins y)
    (hlim : s.heap.NoLimit) (hx : s.heap.get? x = some (excO C t0)) (hnx : K.lookup x = none) (hroom : A.depth < recursionLimit)
    (hq : ∀ h' tk dx t1, InitEnd s.heap h' x C dx t1 v → R (.ok (.ret .none)) { s with heap := h', toks := tk }) :
    codeAny (model prog w) A (.call (.ref fI) ⟨[.ref x, v], []⟩) R s := by
  obtain ⟨oc, od, doc, pm, an, ct, osl, cda, cc, qual, p1, p2, msg, q1, q2, q3, q4, q5, q6, q7, q8, q9, q10, cl, cld, csl, ccl, cdd, vs, ccs, file, tf, lk, hcd, hcell, hcode, hvs, hfile, hrd⟩ := T.fn
  obtain ⟨pl, hpl⟩ := hrd s.heap.objs.size
  obtain ⟨cn, q, N, bs, bm, sn, sub, ab, col, dd, k0, k1, k2, k3, k5, hC, hbm⟩ := T.cls
  have hcl : clsIn K C = some { name := cn, bases := bs, mro := .ref C :: bm, ns := N, qualname := q, hasDict := true, slotNames := sn, subclasses := sub, abstract := ab, collection := col, hasDel := false } := by unfold clsIn; rw [hC] <;> rfl
  refine ks_codeAny_call_defAt (fd := ksFn "__init__" qual (iA p1 p2) (iB msg q1 q2 q3 q4 q5 q6 q7 q8 q9 q10) iS .none .none doc pm an (.ref cda) ct cc) (body := iB msg q1 q2 q3 q4 q5 q6 q7 q8 q9 q10) (binds := [("self", .ref x), ("thing", v)]) hroom (X _ _ lk) rfl hlim (codeRec_of X hcd) rfl
    (BindsTo.of_eq (by first | rfl | with_unfolding_all rfl)) (show ∀ y ∈ iS.names, y.2 ≠ .cell by decide) (by intro y hy; rcases List.mem_cons.mp hy with rfl | hy <;> first | rfl | (rcases List.mem_cons.mp hy with rfl | hy <;> first | rfl | cases hy)) (fun h₁ hns k => ?_) rfl rfl rfl
  have X₁ : K.In h₁ := X.keeps k
  have hx₁ := k _ _ hx
  have hxL : s.heap.objs.size ≠ x := Nat.ne_of_gt (Heap.lt_size hx)
  have hxC : x ≠ C := fun z => by
    have y := X _ _ hC
    rw [← z, hx] at y
    cases y
  show PySem.wpAt (model prog w) _ _ (execs (iB msg q1 q2 q3 q4 q5 q6 q7 q8 q9 q10) (ksEnv qual iS s.heap.objs.size fI (.ref cda) cc)) _ _ _
  refine ks_wpAt_execs_cons (ks_wpAt_Expr_any (ks_wpAt_MethodCall (pl := pl) ?_ hpl))
  refine ks_wpAt_super_base (env := ksEnv qual iS s.heap.objs.size fI (.ref cda) cc) rfl rfl rfl rfl (X₁ _ _ lk) rfl rfl rfl (X₁ _ _ hcode) rfl hvs hfile T.top ?_
  refine ks_loadName_global rfl rfl (loadGlobal_builtin (env := ksEnv qual iS s.heap.objs.size fI (.ref cda) cc) (hg.keeps k) T.gS (hb.keeps k) ((hbv _ (by decide)).trans PyProof.Rows.Boot.«super») ⟨rfl, ?_⟩)
  refine wpAny_loadName_free (env := ksEnv qual iS s.heap.objs.size fI (.ref cda) cc) rfl rfl rfl ⟨_, X₁ _ _ hcell, rfl⟩ ?_
  refine wpAny_loadName_local (env := ksEnv qual iS s.heap.objs.size fI (.ref cda) cc) (v := .ref x) rfl rfl hns (by first | rfl | with_unfolding_all rfl | kernel_rfl) ?_
  refine ks_wpAny_isType_cls (X₁ _ _ hC) rfl ⟨rfl, ?_⟩
  refine ks_wpAny_call_super (X₁ _ _ hC) rfl hx₁ rfl (fun c e => nomatch e) (looks_mroIn X₁ T.own) (fun h₂ hso k₂ => ?_)
  have X₂ : K.In h₂ := X₁.keeps k₂
  have hx₂ := k₂ _ _ hx₁
  have I₂ : InstAt h₂ x (excO C t0) C none := ⟨hx₂, rfl, rfl, trivial⟩
  have hm := T.sup
  unfold ks_superIn at hm
  rw [hcl] at hm
  refine kxs_getMethod kxs_ValueError hso (looks_opaque X₂ T.op) (l₀ := .ref C :: bm) ((looks_clsIn X₂ hcl).andThen .now) rfl X₂ hm (I₂.type.andThen (looks_subIn X₂ T.sVE)) hxC rfl ?_
  have k₁₂ : ∀ b o, h₁.get? b = some o → (h₂.push (kxs_mw "ValueError.__init__" x)).get? b = some o := fun b o e => Heap.get?_push_of_some _ (k₂ b o e)
  have hu : (h₂.push (kxs_mw "ValueError.__init__" x)).get? h₂.objs.size = some (kxs_mw "ValueError.__init__" x) := Heap.get?_push_at rfl rfl
  have sz₂ : s.heap.objs.size ≤ (h₂.push (kxs_mw "ValueError.__init__" x)).objs.size := by
    have a : h₂.objs.size < (h₂.push (kxs_mw "ValueError.__init__" x)).objs.size := Heap.lt_size hu
    have b : h₁.objs.size < h₂.objs.size := Heap.lt_size hso
    have c : s.heap.objs.size < h₁.objs.size := hns.lt
    omega
  generalize h₂.push (kxs_mw "ValueError.__init__" x) = h₂' at k₁₂ hu sz₂ ⊢
  have X₂' : K.In h₂' := X₁.keeps k₁₂
  show wpAny _ _ (callWith q5 (.ref h₂.objs.size) [] (backTo q5 (starEach (.Constant (.str msg) 0 q4 :: []) (ksEnv qual iS s.heap.objs.size fI (.ref cda) cc))) []) _ _ _
  rw [show starEach (.Constant (.str msg) 0 q4 :: []) (ksEnv qual iS s.heap.objs.size fI (.ref cda) cc) = (false, eval (.Constant (.str msg) 0 q4) (ksEnv qual iS s.heap.objs.size fI (.ref cda) cc)) :: starEach [] (ksEnv qual iS s.heap.objs.size fI (.ref cda) cc) from rfl]
  refine kxs_callWith (i := "ValueError.__init__") (x := x) rfl (evalArgs_plain (Calls.spliced_cons (wpAny_Constant_str (env := ksEnv qual iS s.heap.objs.size fI (.ref cda) cc) (x := msg) (k := 0) (pos := q4) (Calls.spliced_nil ⟨hu, ?_⟩))))
  refine call_mw (X₂' _ _ hC) (k₁₂ _ _ hx₁) hu (one_size _) fun h₃ t1 k₃ hx₃ sz₃ => ?_
  have X₃ : K.In h₃ := kept_but X₂' hnx k₃
  have hns₃ : h₃.Ns s.heap.objs.size (fun y => List.lookup y [(PySem.Str.ofString "self", Value.ref x), (PySem.Str.ofString "thing", v)].reverse) := by
    obtain ⟨oL, es, ep, hL, r⟩ := hns
    exact ⟨oL, es, ep, k₃ _ _ hxL (k₁₂ _ _ hL), r⟩
  -- self.field = field
  show PySem.wpAt _ _ _ (execs [.Assign [.Attribute (.Name "self" q7) "thing" q8] (.Name "thing" q9) q10] (ksEnv qual iS s.heap.objs.size fI (.ref cda) cc)) _ _ _
  refine ks_wpAt_execs_cons (wpAt_of_wpAny (plainObj_wpAny_Assign_Attribute ?_))
  refine ldC (env := ksEnv qual iS s.heap.objs.size fI (.ref cda) cc) (v := v) hns₃ (by first | rfl | with_unfolding_all rfl | kernel_rfl) (ldC (env := ksEnv qual iS s.heap.objs.size fI (.ref cda) cc) (v := .ref x) hns₃ (by first | rfl | with_unfolding_all rfl | kernel_rfl) ?_)
  refine set_plain X₃ (ox := excO C t1) (od := none) ⟨hx₃, rfl, rfl, trivial⟩ T.sa ?_
  refine exc_osa X₃ hx₃ hcl (show refsVE (.ref C :: bm) = true from hbm) rfl T.noN (fun h₄ tk₄ dx k₄ dn dne hx₄ hn₄ => ?_)
  refine wpAt_of_wpAny (wpAny_execs_nil (hq h₄ tk₄ dx t1 ⟨fun b o hb e => k₄ b o hb (k₃ b o hb (k₁₂ b o (k b o e))), hx₄, Nat.le_trans sz₂ (Nat.le_trans sz₃ dn), dne, hn₄⟩))
theorem made (T : Txt prog K mg nm C fI) {v : Value} {mb : Str → Option Value} (X : K.In s.heap) (hg : s.heap.Ns mainGlobals mg) (hb : s.heap.Ns builtinsNs mb) (hbv : ∀ y : Str, y ≠ "__name__" → mb y = bootBuiltins y) (hlim : s.heap.NoLimit)
    (hroom : A.depth + 1 < recursionLimit) (hq : ∀ h' tk e d, OwnMade s.heap h' e C d v → R (.ok (.ret (.ref e))) { s with heap := h', toks := tk }) :
    codeAny (model prog w) A (.call (.ref C) ⟨[v], []⟩) R s := by
  obtain ⟨cn, q, N, bs, bm, sn, sub, ab, col, dd, k0, k1, k2, k3, k5, hC, hbm⟩ := T.cls
  obtain ⟨hp, g, dr, tk, os⟩ := s
  have k : ∀ b o, hp.get? b = some o → ((hp.push (kdv_tup [v])).push (excO C hp.objs.size)).get? b = some o := fun b o e => Heap.get?_push_of_some _ (Heap.get?_push_of_some _ e)
  have hget : ((hp.push (kdv_tup [v])).push (excO C hp.objs.size)).get? (hp.objs.size + 1) = some (excO C hp.objs.size) := by heap_get
  have hnx : K.lookup (hp.objs.size + 1) = none := by
    cases e : K.lookup (hp.objs.size + 1) with
    | none => rfl
    | some o =>
      have z : hp.get? (hp.objs.size + 1) = some o := X _ _ e
      exact absurd (Nat.lt_of_succ_lt (Heap.lt_size z)) (Nat.lt_irrefl _)
  refine call_own F.excBase_ValueError (fun X => refsVE_contains X bm hbm) (X _ _ hC) (looks_findIn X T.iC) (fun self => bind_fn X self T.tC) (one_size v) ?_
  refine init (s := ⟨(hp.push (kdv_tup [v])).push (excO C hp.objs.size), g, dr, tk, os⟩) T (X.keeps k) (hg.keeps k) (hb.keeps k) hbv (hlim.keeps k) hget hnx ?_ fun h' tk' dx t1 ⟨k', hx, dn, dne, hns⟩ => ?_
  · show A.depth + 1 < recursionLimit
    exact hroom
  · have old : ∀ b o, hp.get? b = some o → h'.get? b = some o := fun b o e => k' b o (Nat.ne_of_lt (Nat.lt_succ_of_lt (Heap.lt_size e))) (k b o e)
    have z : hp.objs.size + 1 + 1 ≤ dx := by
      first
        | (simpa only [Heap.size_push] using dn)
        | exact dn
        | (have q := dn; rw [Heap.size_push, Heap.size_push] at q; exact q)
    exact ⟨rfl, hq h' tk' (hp.objs.size + 1) dx ⟨old, Nat.le_succ _, ⟨_, _, hx, rfl, rfl, rfl, rfl⟩, Nat.le_trans (Nat.le_trans (Nat.le_succ _) (Nat.le_succ _)) z, dne, hns⟩⟩
end
end Exo_thing
end PySem
namespace Com_thing
open PySem PySem.Spec PyProof.Rows L2 Com
theorem relO_fld {v : V} {v' : Value} (r : RelV v v') (f : Str) : RelO (List.lookup f [(("thing" : Str), v)]) (if f = "thing" then some v' else none) := by
  by_cases hw : f = "thing"
  · subst hw
    rw [if_pos rfl]
    have q : List.lookup ("thing" : Str) [(("thing" : Str), v)] = some v := by simp [List.lookup]
    rw [q]
    exact r
  · rw [if_neg hw]
    have qw : (f == ("thing" : Str)) = false := by simpa using hw
    have q2 : List.lookup f [(("thing" : Str), v)] = none := by simp [List.lookup, qw]
    rw [q2]
    trivial
section
variable {X : Cx} {C fI : Addr}
/-- x(e), x an own exception class at C: a new dict of one field -/
def tMkE (C : Addr) (ta : TA) : L2.St → Hp → XK → Prop := fun σ H Q => ta σ H fun vs H1 => ∃ v, vs = [v] ∧ ∀ d, H1 d = none → Q (.ref C) (some d) (upd H1 d (.xd [(("thing" : Str), v)]))
theorem pmk_e {x : Str} {a : Expr} {ta : TA} {p pos : Pos} {k : Nat} (T : PySem.Exo_thing.Txt X.prog X.K X.mg x C fI) (hr : Room k X.A) (ha : PA X [a] ta) (hg : Gl X x := by rfl) (hdb : (x == ("__debug__" : Str)) = false := by decide)
    (he : starEach (a :: []) X.env = (false, eval a X.env) :: starEach [] X.env := by rfl) (hpl : (backTo pos (starEach [] X.env)).any (·.1) = false := by rfl) :
    PMk X (.Call (.Name x p) [a] [] pos) (tMkE C ta) := by
  intro pins s σ H Q I h
  refine wpAny_Call_Name_kw (ld_glob I hg T.gC ?_ hdb)
  refine PySem.W.callWith_K (h₀ := X.base) I.ok.mod.kin T.kC (thn (ha.run pos pins s σ H _ I h) fun us s1 hh => ?_) he hpl
  obtain ⟨vs, H1, I1, r1, v, ev, q1⟩ := hh
  subst ev
  refine ⟨I1.kIn, ?_⟩
  cases r1 with
  | cons rv rn =>
    rename_i v' us'
    cases rn
    show wpAny _ _ (call (.ref C) [v']) _ _ _
    have hlim := I1.nolimit
    obtain ⟨mb, hb1, hb2⟩ := I1.mod.blt
    have hbk := hb1.keeps I1.bk
    have hgk := I1.mod.glob.keeps I1.bk
    obtain ⟨hp, g, dr, tk, os⟩ := s1
    refine wpAny_call (PySem.Exo_thing.made T I1.kIn hgk hbk hb2 hlim (by have := hr.dp; omega) fun h' tk' e d M => ?_)
    show MkP X pins σ Q (.ref e) ⟨h', g, dr, tk', os⟩
    obtain ⟨oe, fv, hoe, hc, hd, hdat, h1⟩ := M.obj
    have hns := M.ns
    obtain ⟨G', g1, g2⟩ := restrict h' fun b => decide (b ≠ e)
    have gk : ∀ b, b ≠ e → G'.get? b = h'.get? b := fun b hb => g1 b (decide_eq_true hb)
    have ge : G'.get? e = none := g2 e (by simp)
    have old : ∀ b o, hp.get? b = some o → G'.get? b = some o := fun b o q => (gk b (Nat.ne_of_lt (Nat.lt_of_lt_of_le (Heap.lt_size q) M.new))).trans (M.keep b o q)
    have ob : ObjOk X.prog X.w (upd H1 d (.xd [(("thing" : Str), v)])) G' d (.xd [(("thing" : Str), v)]) :=
      ⟨_, hns.at (fun o q => (gk d M.dne).trans q), fun f => relO_fld rv f⟩
    have J : Inv X pins σ (upd H1 d (.xd [(("thing" : Str), v)])) ⟨G', g, dr, tk', os⟩ := I1.laid (t' := tk') old M.dbig ob
    refine ⟨e, oe, fv, ⟨G', g, dr, tk', os⟩, _, .ref C, some d, rfl, J, fun b o q => ?_, ge, hoe, ⟨hc, hd⟩, hdat, h1, ?_, rfl, I1.bare, raises_own T.exC T.tyC, q1 d (I1.hok.fresh M.dbig)⟩
    · by_cases hb : b = e
      · have q' : G'.get? b = some o := q
        rw [hb, ge] at q'; cases q'
      · exact (gk b hb).symm.trans q
    · rw [upd_ne (Ne.symm M.dne)]
      exact I1.hok.fresh M.new
/-- raise x(e) -/
theorem ps_raiseE {x : Str} {a : Expr} {ta : TA} {W : WX} {p pos pos2 : Pos} {k : Nat} (T : PySem.Exo_thing.Txt X.prog X.K X.mg x C fI) (hr : Room k X.A) (tk : Takes X W) (ha : PA X [a] ta) (hc : X.calm = true := by rfl) (hg : Gl X x := by rfl) (hdb : (x == ("__debug__" : Str)) = false := by decide)
    (he : starEach (a :: []) X.env = (false, eval a X.env) :: starEach [] X.env := by rfl) (hpl : (backTo pos (starEach [] X.env)).any (·.1) = false := by rfl) :
    PS X (.Raise (some (.Call (.Name x p) [a] [] pos)) none pos2) (fun _ σ H => tMkE C ta σ H fun cls d H' => W cls d σ H') := ps_raise hc tk (pmk_e T hr ha hg hdb he hpl)
theorem xf_of {prog : Program} {K : PySem.W.Frag} {mg : Str → Option Value} {x : Str} (T : PySem.Exo_thing.Txt prog K mg x C fI) : XfC K C := ⟨T.ga, T.gg, T.exC, T.hdC⟩
end
end Com_thing
set_option Elab.async false
set_option linter.all false
set_option maxRecDepth 100000
set_option maxHeartbeats 4000000
/-! An own exception over ValueError, its __init__: super().__init__(text); self.field = field. -/
namespace PySem
namespace Exo_side
open PySem.W PySem.Calls PyProof.Rows PySem.HandSPX
def iA (p1 p2 : Pos) : Arguments := { posonlyargs := [], args := [{ arg := "self", annotation := none, pos := p1 }, { arg := "side", annotation := none, pos := p2 }], vararg := none, kwonlyargs := [], kw_defaults := [], kwarg := none, defaults := [] }
abbrev sCall (msg : Str) (q1 q2 q3 q4 q5 : Pos) : Expr := .Call (.Attribute (.Call (.Name "super" q1) [] [] q2) "__init__" q3) [.Constant (.str msg) 0 q4] [] q5
def iB (msg : Str) (q1 q2 q3 q4 q5 q6 q7 q8 q9 q10 : Pos) : List Stmt :=
  [.Expr (sCall msg q1 q2 q3 q4 q5) q6, .Assign [.Attribute (.Name "self" q7) "side" q8] (.Name "side" q9) q10]
def iS : Scope := { kind := .function, names := [(PySem.Str.ofString "self", .local), (PySem.Str.ofString "side", .local), (PySem.Str.ofString "__class__", .free), (PySem.Str.ofString "super", .globalImplicit)], isGenerator := false, isCoroutine := false, more := [] }
/-- how the call of the bound __init__ is read -/
def Reads (msg : Str) (q1 q2 q3 q4 q5 : Pos) (env : Env) : Prop := ∃ pl : Sem Bool, eval (sCall msg q1 q2 q3 q4 q5) env = (do
  let ov ← attributeBase (.Call (.Name "super" q1) [] [] q2) "__init__" env (eval (.Call (.Name "super" q1) [] [] q2) env)
  standAt q3.atName
  let (f, first) ← holding [ov] (getMethod ov "__init__" pl)
  callWith q5 f first (backTo q5 (starEach [.Constant (.str msg) 0 q4] env)) [])
/-- what the written part says of the class x, at C, and of its __init__, at fI -/
structure Txt (prog : Program) (K : Frag) (mg : Str → Option Value) (x : Str) (C fI : Addr) : Prop where
  gC : mg x = some (.ref C)
  gS : mg "super" = none
  cls : ∃ nm q N bs bm sn sub ab col dd k0 k1 k2 k3 k5, K.lookup C = some (excClassObj nm q C N bs bm true sn sub ab col dd k0 k1 k2 k3 k5 "ValueError.__new__") ∧ refsVE bm = true
  sup : ks_superIn K C C "__init__" = some (some (.builtin "ValueError.__init__"))
  sVE : subIn K (.ref C) (.type "ValueError") = some true
  own : mroIn K C (.ref C) = some true
  op : nsIn K cStatics "thirdparty.any" = some none
  sa : findIn K (.ref C) "__setattr__" = some (some (.builtin "object.__setattr__"))
  ga : findIn K (.ref C) "__getattribute__" = some (some (.builtin "BaseException.__getattribute__"))
  gg : findIn K (.ref C) "__getattr__" = some none
  noN : findIn K (.ref C) "side" = some none
  iC : findIn K (.ref C) "__init__" = some (some (.ref fI))
  tC : typeIn K (.ref fI) = some (.type "function")
  kC : keepIn K (.ref C) = true
  exC : subIn K (.ref C) (.type "BaseException") = some true
  tyC : typeIn K (.ref C) = some (.type "type")
  hdC : hasDictIn K C = true
  te : exmOne K (.ref C) (.ref C) = some true
  top : (prog.main.scope.names.lookup ("super" : Str)).isSome = false
  fn : ∃ (oc : Value) (od : Option Addr) (doc pm : Value) (an : Option Addr) (ct : Value) (osl : Array (Option Value)) (cda cc : Addr) (qual : Str) (p1 p2 : Pos) (msg : Str) (q1 q2 q3 q4 q5 q6 q7 q8 q9 q10 : Pos)
      (cl : Value) (cld : Option Addr) (csl : Array (Option Value)) (ccl : Value) (cdd : Option Addr) (vs : Array Value) (ccs : Array (Option Value)) (file : Str) (tf : Tok),
    K.lookup fI = some ⟨oc, od, .func (ksFn "__init__" qual (iA p1 p2) (iB msg q1 q2 q3 q4 q5 q6 q7 q8 q9 q10) iS .none .none doc pm an (.ref cda) ct cc), osl⟩ ∧ codeIn K (.ref cda) qual = true ∧
    K.lookup cc = some ⟨cl, cld, .cell (some (.ref C)), csl⟩ ∧ K.lookup cda = some ⟨ccl, cdd, .fields vs, ccs⟩ ∧ vs[2]? = some (.str file tf) ∧ ((prog.main.file : Str) == file) = true ∧ (∀ L : Addr, Reads msg q1 q2 q3 q4 q5 (ksEnv qual iS L fI (.ref cda) cc))
theorem kept_but {K : Frag} {h h' : Heap} {x : Addr} (X : K.In h) (hx : K.lookup x = none) (k : ∀ b o, b ≠ x → h.get? b = some o → h'.get? b = some o) : K.In h' := fun a o e =>
  k a o (fun z => by rw [z, hx] at e; cases e) (X a o e)
theorem one_size (v : Value) : [v].length ≤ sizeLine := by
  rw [sizeLine_eq]
  exact (by decide : 1 ≤ 16777216)
/-- what __init__ leaves of a fresh exception at x -/
structure InitEnd (h h' : Heap) (x C dx t1 : Addr) (v : Value) : Prop where
  keep : ∀ b o, b ≠ x → h.get? b = some o → h'.get? b = some o
  obj : h'.get? x = some { cls := .ref C, dict := some dx, data := .fields #[.ref t1, .none, .none, .none, .bool false, .none] }
  dbig : h.objs.size ≤ dx
  dne : dx ≠ x
  ns : h'.Ns1 dx (fun y => if y = "side" then some v else none)
/-- a made one -/
structure OwnMade (h h' : Heap) (e C d : Addr) (v : Value) : Prop where
  keep : ∀ b o, h.get? b = some o → h'.get? b = some o
  new : h.objs.size ≤ e
  obj : ∃ oe vs, h'.get? e = some oe ∧ oe.cls = .ref C ∧ oe.dict = some d ∧ oe.data = .fields vs ∧ vs[1]? = some .none
  dbig : h.objs.size ≤ d
  dne : d ≠ e
  ns : h'.Ns1 d (fun y => if y = "side" then some v else none)
section
variable {M : Model} {prog : Program} {w : World} {A : Around} {E : Value → Shared → Prop} {h : Heap} {g : Array GenState} {d : Drawn} {t : Nat} {os : OsState}
variable {nm q : Str} {C N : Addr} {bs bm : List Value} {hdct : Bool} {sn : List Str} {sub : List Value} {ab : Bool} {col : Option Bool} {dd : Option Addr} {k0 k1 k2 k3 k5 : Option Value}
/-- the bound ValueError.__init__ is called -/
theorem call_mw {u e t0 : Addr} {rest : List Value} {Q : Value → Shared → Prop}
    (hC : h.get? C = some (excClassObj nm q C N bs bm hdct sn sub ab col dd k0 k1 k2 k3 k5 "ValueError.__new__")) (he : h.get? e = some (excO C t0)) (hu : h.get? u = some (kxs_mw "ValueError.__init__" e)) (hrest : rest.length ≤ sizeLine)
    (hq : ∀ h' t1, (∀ b o, b ≠ e → h.get? b = some o → h'.get? b = some o) → h'.get? e = some (excO C t1) → h.objs.size ≤ h'.objs.size → Q .none ⟨h', g, d, t, os⟩) :
    wpAny (model prog w) A (call (.ref u) rest) Q E ⟨h, g, d, t, os⟩ := by
  refine wpAny_call (codeAny_of_tree ?_)
  show wpAny _ A.in1 (callAny (.ref u) ⟨rest, []⟩) _ _ _
  simp only [callAny]
  refine wpAny_bind (wpAny_load hu ?_)
  simp only [kxs_mw, show (Value.type "method-wrapper" == Value.type "method" || Value.type "method-wrapper" == Value.type "builtin_function_or_method" || Value.type "method-wrapper" == Value.type "method-wrapper") = true by decide, if_true]
  refine KFB.if_so (by decide) ?_
  refine wpAny_bind (check_bound_init F.excBase_ValueError.toExcCallFacts hC he rfl ?_)
  refine wpAny_bind (wpAny_pure (wpAny_pure ?_))
  refine ⟨plainId_quiet F.excBase_ValueError.init.plain _, codeAny_builtin F.excBase_ValueError.initEntry ?_⟩
  refine exc_init_tree (cls := .ref C) (t0 := t0) (dv := none) (c2 := .none) (c3 := .none) (b4 := .bool false) he hrest fun h' k hx ht => hq h' h.objs.size k hx (Nat.le_of_lt (Heap.lt_size ht))
end
section
variable {prog : Program} {w : World} {A : Around} {E : Value → Shared → Prop} {R : Result → Shared → Prop} {s : Shared} {K : Frag} {mg : Str → Option Value} {C fI : Addr} {nm : Str}
theorem ldC {M : Model} {s : Shared} {env : Env} {m : Str → Option Value} {x : Str} {pos : Pos} {v : Value} {Q : Value → Shared → Prop} {A : Around} {E : Value → Shared → Prop} (hn : s.heap.Ns env.locals m) (hv : m x = some v) (h : Q v s)
    (hk : env.scope.kind = .function := by rfl) (hl : env.kindOf x = some .local := by rfl) (hd : (x == ("__debug__" : Str)) = false := by decide) : wpAny M A (eval (.Name x pos) env) Q E s := wpAny_Name (wpAny_loadName_local hk hl hn hv h) hd
theorem init (T : Txt prog K mg nm C fI) {x t0 : Addr} {v : Value} {mb : Str → Option Value} (X : K.In s.heap) (hg : s.heap.Ns mainGlobals mg) (hb : s.heap.Ns builtinsNs mb) (hbv : ∀ y : Str, y ≠ "__name__" → mb y = bootBuiltins y)
    (hlim : s.heap.NoLimit) (hx : s.heap.get? x = some (excO C t0)) (hnx : K.lookup x = none) (hroom : A.depth < recursionLimit)
    (hq : ∀ h' tk dx t1, InitEnd s.heap h' x C dx t1 v → R (.ok (.ret .none)) { s with heap := h', toks := tk }) :
    codeAny (model prog w) A (.call (.ref fI) ⟨[.ref x, v], []⟩) R s := by
  obtain ⟨oc, od, doc, pm, an, ct, osl, cda, cc, qual, p1, p2, msg, q1, q2, q3, q4, q5, q6, q7, q8, q9, q10, cl, cld, csl, ccl, cdd, vs, ccs, file, tf, lk, hcd, hcell, hcode, hvs, hfile, hrd⟩ := T.fn
  obtain ⟨pl, hpl⟩ := hrd s.heap.objs.size
  obtain ⟨cn, q, N, bs, bm, sn, sub, ab, col, dd, k0, k1, k2, k3, k5, hC, hbm⟩ := T.cls
  have hcl : clsIn K C = some { name := cn, bases := bs, mro := .ref C :: bm, ns := N, qualname := q, hasDict := true, slotNames := sn, subclasses := sub, abstract := ab, collection := col, hasDel := false } := by unfold clsIn; rw [hC] <;> rfl
  refine ks_codeAny_call_defAt (fd := ksFn "__init__" qual (iA p1 p2) (iB msg q1 q2 q3 q4 q5 q6 q7 q8 q9 q10) iS .none .none doc pm an (.ref cda) ct cc) (body := iB msg q1 q2 q3 q4 q5 q6 q7 q8 q9 q10) (binds := [("self", .ref x), ("side", v)]) hroom (X _ _ lk) rfl hlim (codeRec_of X hcd) rfl
    (BindsTo.of_eq (by first | rfl | with_unfolding_all rfl)) (show ∀ y ∈ iS.names, y.2 ≠ .cell by decide) (by intro y hy; rcases List.mem_cons.mp hy with rfl | hy <;> first | rfl | (rcases List.mem_cons.mp hy with rfl | hy <;> first | rfl | cases hy)) (fun h₁ hns k => ?_) rfl rfl rfl
  have X₁ : K.In h₁ := X.keeps k
  have hx₁ := k _ _ hx
  have hxL : s.heap.objs.size ≠ x := Nat.ne_of_gt (Heap.lt_size hx)
  have hxC : x ≠ C := fun z => by
    have y := X _ _ hC
    rw [← z, hx] at y
    cases y
  show PySem.wpAt (model prog w) _ _ (execs (iB msg q1 q2 q3 q4 q5 q6 q7 q8 q9 q10) (ksEnv qual iS s.heap.objs.size fI (.ref cda) cc)) _ _ _
  refine ks_wpAt_execs_cons (ks_wpAt_Expr_any (ks_wpAt_MethodCall (pl := pl) ?_ hpl))
  refine ks_wpAt_super_base (env := ksEnv qual iS s.heap.objs.size fI (.ref cda) cc) rfl rfl rfl rfl (X₁ _ _ lk) rfl rfl rfl (X₁ _ _ hcode) rfl hvs hfile T.top ?_
  refine ks_loadName_global rfl rfl (loadGlobal_builtin (env := ksEnv qual iS s.heap.objs.size fI (.ref cda) cc) (hg.keeps k) T.gS (hb.keeps k) ((hbv _ (by decide)).trans PyProof.Rows.Boot.«super») ⟨rfl, ?_⟩)
  refine wpAny_loadName_free (env := ksEnv qual iS s.heap.objs.size fI (.ref cda) cc) rfl rfl rfl ⟨_, X₁ _ _ hcell, rfl⟩ ?_
  refine wpAny_loadName_local (env := ksEnv qual iS s.heap.objs.size fI (.ref cda) cc) (v := .ref x) rfl rfl hns (by first | rfl | with_unfolding_all rfl | kernel_rfl) ?_
  refine ks_wpAny_isType_cls (X₁ _ _ hC) rfl ⟨rfl, ?_⟩
  refine ks_wpAny_call_super (X₁ _ _ hC) rfl hx₁ rfl (fun c e => nomatch e) (looks_mroIn X₁ T.own) (fun h₂ hso k₂ => ?_)
  have X₂ : K.In h₂ := X₁.keeps k₂
  have hx₂ := k₂ _ _ hx₁
  have I₂ : InstAt h₂ x (excO C t0) C none := ⟨hx₂, rfl, rfl, trivial⟩
  have hm := T.sup
  unfold ks_superIn at hm
  rw [hcl] at hm
  refine kxs_getMethod kxs_ValueError hso (looks_opaque X₂ T.op) (l₀ := .ref C :: bm) ((looks_clsIn X₂ hcl).andThen .now) rfl X₂ hm (I₂.type.andThen (looks_subIn X₂ T.sVE)) hxC rfl ?_
  have k₁₂ : ∀ b o, h₁.get? b = some o → (h₂.push (kxs_mw "ValueError.__init__" x)).get? b = some o := fun b o e => Heap.get?_push_of_some _ (k₂ b o e)
  have hu : (h₂.push (kxs_mw "ValueError.__init__" x)).get? h₂.objs.size = some (kxs_mw "ValueError.__init__" x) := Heap.get?_push_at rfl rfl
  have sz₂ : s.heap.objs.size ≤ (h₂.push (kxs_mw "ValueError.__init__" x)).objs.size := by
    have a : h₂.objs.size < (h₂.push (kxs_mw "ValueError.__init__" x)).objs.size := Heap.lt_size hu
    have b : h₁.objs.size < h₂.objs.size := Heap.lt_size hso
    have c : s.heap.objs.size < h₁.objs.size := hns.lt
    omega
  generalize h₂.push (kxs_mw "ValueError.__init__" x) = h₂' at k₁₂ hu sz₂ ⊢
  have X₂' : K.In h₂' := X₁.keeps k₁₂
  show wpAny _ _ (callWith q5 (.ref h₂.objs.size) [] (backTo q5 (starEach (.Constant (.str msg) 0 q4 :: []) (ksEnv qual iS s.heap.objs.size fI (.ref cda) cc))) []) _ _ _
  rw [show starEach (.Constant (.str msg) 0 q4 :: []) (ksEnv qual iS s.heap.objs.size fI (.ref cda) cc) = (false, eval (.Constant (.str msg) 0 q4) (ksEnv qual iS s.heap.objs.size fI (.ref cda) cc)) :: starEach [] (ksEnv qual iS s.heap.objs.size fI (.ref cda) cc) from rfl]
  refine kxs_callWith (i := "ValueError.__init__") (x := x) rfl (evalArgs_plain (Calls.spliced_cons (wpAny_Constant_str (env := ksEnv qual iS s.heap.objs.size fI (.ref cda) cc) (x := msg) (k := 0) (pos := q4) (Calls.spliced_nil ⟨hu, ?_⟩))))
  refine call_mw (X₂' _ _ hC) (k₁₂ _ _ hx₁) hu (one_size _) fun h₃ t1 k₃ hx₃ sz₃ => ?_
  have X₃ : K.In h₃ := kept_but X₂' hnx k₃
  have hns₃ : h₃.Ns s.heap.objs.size (fun y => List.lookup y [(PySem.Str.ofString "self", Value.ref x), (PySem.Str.ofString "side", v)].reverse) := by
    obtain ⟨oL, es, ep, hL, r⟩ := hns
    exact ⟨oL, es, ep, k₃ _ _ hxL (k₁₂ _ _ hL), r⟩
  -- self.field = field
  show PySem.wpAt _ _ _ (execs [.Assign [.Attribute (.Name "self" q7) "side" q8] (.Name "side" q9) q10] (ksEnv qual iS s.heap.objs.size fI (.ref cda) cc)) _ _ _
  refine ks_wpAt_execs_cons (wpAt_of_wpAny (plainObj_wpAny_Assign_Attribute ?_))
  refine ldC (env := ksEnv qual iS s.heap.objs.size fI (.ref cda) cc) (v := v) hns₃ (by first | rfl | with_unfolding_all rfl | kernel_rfl) (ldC (env := ksEnv qual iS s.heap.objs.size fI (.ref cda) cc) (v := .ref x) hns₃ (by first | rfl | with_unfolding_all rfl | kernel_rfl) ?_)
  refine set_plain X₃ (ox := excO C t1) (od := none) ⟨hx₃, rfl, rfl, trivial⟩ T.sa ?_
  refine exc_osa X₃ hx₃ hcl (show refsVE (.ref C :: bm) = true from hbm) rfl T.noN (fun h₄ tk₄ dx k₄ dn dne hx₄ hn₄ => ?_)
  refine wpAt_of_wpAny (wpAny_execs_nil (hq h₄ tk₄ dx t1 ⟨fun b o hb e => k₄ b o hb (k₃ b o hb (k₁₂ b o (k b o e))), hx₄, Nat.le_trans sz₂ (Nat.le_trans sz₃ dn), dne, hn₄⟩))
theorem made (T : Txt prog K mg nm C fI) {v : Value} {mb : Str → Option Value} (X : K.In s.heap) (hg : s.heap.Ns mainGlobals mg) (hb : s.heap.Ns builtinsNs mb) (hbv : ∀ y : Str, y ≠ "__name__" → mb y = bootBuiltins y) (hlim : s.heap.NoLimit)
    (hroom : A.depth + 1 < recursionLimit) (hq : ∀ h' tk e d, OwnMade s.heap h' e C d v → R (.ok (.ret (.ref e))) { s with heap := h', toks := tk }) :
    codeAny (model prog w) A (.call (.ref C) ⟨[v], []⟩) R s := by
  obtain ⟨cn, q, N, bs, bm, sn, sub, ab, col, dd, k0, k1, k2, k3, k5, hC, hbm⟩ := T.cls
  obtain ⟨hp, g, dr, tk, os⟩ := s
  have k : ∀ b o, hp.get? b = some o → ((hp.push (kdv_tup [v])).push (excO C hp.objs.size)).get? b = some o := fun b o e => Heap.get?_push_of_some _ (Heap.get?_push_of_some _ e)
  have hget : ((hp.push (kdv_tup [v])).push (excO C hp.objs.size)).get? (hp.objs.size + 1) = some (excO C hp.objs.size) := by heap_get
  have hnx : K.lookup (hp.objs.size + 1) = none := by
    cases e : K.lookup (hp.objs.size + 1) with
    | none => rfl
    | some o =>
      have z : hp.get? (hp.objs.size + 1) = some o := X _ _ e
      exact absurd (Nat.lt_of_succ_lt (Heap.lt_size z)) (Nat.lt_irrefl _)
  refine call_own F.excBase_ValueError (fun X => refsVE_contains X bm hbm) (X _ _ hC) (looks_findIn X T.iC) (fun self => bind_fn X self T.tC) (one_size v) ?_
  refine init (s := ⟨(hp.push (kdv_tup [v])).push (excO C hp.objs.size), g, dr, tk, os⟩) T (X.keeps k) (hg.keeps k) (hb.keeps k) hbv (hlim.keeps k) hget hnx ?_ fun h' tk' dx t1 ⟨k', hx, dn, dne, hns⟩ => ?_
  · show A.depth + 1 < recursionLimit
    exact hroom
  · have old : ∀ b o, hp.get? b = some o → h'.get? b = some o := fun b o e => k' b o (Nat.ne_of_lt (Nat.lt_succ_of_lt (Heap.lt_size e))) (k b o e)
    have z : hp.objs.size + 1 + 1 ≤ dx := by
      first
        | (simpa only [Heap.size_push] using dn)
        | exact dn
        | (have q := dn; rw [Heap.size_push, Heap.size_push] at q; exact q)
    exact ⟨rfl, hq h' tk' (hp.objs.size + 1) dx ⟨old, Nat.le_succ _, ⟨_, _, hx, rfl, rfl, rfl, rfl⟩, Nat.le_trans (Nat.le_trans (Nat.le_succ _) (Nat.le_succ _)) z, dne, hns⟩⟩
end
end Exo_side
end PySem
namespace Com_side
open PySem PySem.Spec PyProof.Rows L2 Com
theorem relO_fld {v : V} {v' : Value} (r : RelV v v') (f : Str) : RelO (List.lookup f [(("side" : Str), v)]) (if f = "side" then some v' else none) := by
  by_cases hw : f = "side"
  · subst hw
    rw [if_pos rfl]
    have q : List.lookup ("side" : Str) [(("side" : Str), v)] = some v := by simp [List.lookup]
    rw [q]
    exact r
  · rw [if_neg hw]
    have qw : (f == ("side" : Str)) = false := by simpa using hw
    have q2 : List.lookup f [(("side" : Str), v)] = none := by simp [List.lookup, qw]
    rw [q2]
    trivial
section
variable {X : Cx} {C fI : Addr}
/-- x(e), x an own exception class at C: a new dict of one field -/
def tMkE (C : Addr) (ta : TA) : L2.St → Hp → XK → Prop := fun σ H Q => ta σ H fun vs H1 => ∃ v, vs = [v] ∧ ∀ d, H1 d = none → Q (.ref C) (some d) (upd H1 d (.xd [(("side" : Str), v)]))
theorem pmk_e {x : Str} {a : Expr} {ta : TA} {p pos : Pos} {k : Nat} (T : PySem.Exo_side.Txt X.prog X.K X.mg x C fI) (hr : Room k X.A) (ha : PA X [a] ta) (hg : Gl X x := by rfl) (hdb : (x == ("__debug__" : Str)) = false := by decide)
    (he : starEach (a :: []) X.env = (false, eval a X.env) :: starEach [] X.env := by rfl) (hpl : (backTo pos (starEach [] X.env)).any (·.1) = false := by rfl) :
    PMk X (.Call (.Name x p) [a] [] pos) (tMkE C ta) := by
  intro pins s σ H Q I h
  refine wpAny_Call_Name_kw (ld_glob I hg T.gC ?_ hdb)
  refine PySem.W.callWith_K (h₀ := X.base) I.ok.mod.kin T.kC (thn (ha.run pos pins s σ H _ I h) fun us s1 hh => ?_) he hpl
  obtain ⟨vs, H1, I1, r1, v, ev, q1⟩ := hh
  subst ev
  refine ⟨I1.kIn, ?_⟩
  cases r1 with
  | cons rv rn =>
    rename_i v' us'
    cases rn
    show wpAny _ _ (call (.ref C) [v']) _ _ _
    have hlim := I1.nolimit
    obtain ⟨mb, hb1, hb2⟩ := I1.mod.blt
    have hbk := hb1.keeps I1.bk
    have hgk := I1.mod.glob.keeps I1.bk
    obtain ⟨hp, g, dr, tk, os⟩ := s1
    refine wpAny_call (PySem.Exo_side.made T I1.kIn hgk hbk hb2 hlim (by have := hr.dp; omega) fun h' tk' e d M => ?_)
    show MkP X pins σ Q (.ref e) ⟨h', g, dr, tk', os⟩
    obtain ⟨oe, fv, hoe, hc, hd, hdat, h1⟩ := M.obj
    have hns := M.ns
    obtain ⟨G', g1, g2⟩ := restrict h' fun b => decide (b ≠ e)
    have gk : ∀ b, b ≠ e → G'.get? b = h'.get? b := fun b hb => g1 b (decide_eq_true hb)
    have ge : G'.get? e = none := g2 e (by simp)
    have old : ∀ b o, hp.get? b = some o → G'.get? b = some o := fun b o q => (gk b (Nat.ne_of_lt (Nat.lt_of_lt_of_le (Heap.lt_size q) M.new))).trans (M.keep b o q)
    have ob : ObjOk X.prog X.w (upd H1 d (.xd [(("side" : Str), v)])) G' d (.xd [(("side" : Str), v)]) :=
      ⟨_, hns.at (fun o q => (gk d M.dne).trans q), fun f => relO_fld rv f⟩
    have J : Inv X pins σ (upd H1 d (.xd [(("side" : Str), v)])) ⟨G', g, dr, tk', os⟩ := I1.laid (t' := tk') old M.dbig ob
    refine ⟨e, oe, fv, ⟨G', g, dr, tk', os⟩, _, .ref C, some d, rfl, J, fun b o q => ?_, ge, hoe, ⟨hc, hd⟩, hdat, h1, ?_, rfl, I1.bare, raises_own T.exC T.tyC, q1 d (I1.hok.fresh M.dbig)⟩
    · by_cases hb : b = e
      · have q' : G'.get? b = some o := q
        rw [hb, ge] at q'; cases q'
      · exact (gk b hb).symm.trans q
    · rw [upd_ne (Ne.symm M.dne)]
      exact I1.hok.fresh M.new
/-- raise x(e) -/
theorem ps_raiseE {x : Str} {a : Expr} {ta : TA} {W : WX} {p pos pos2 : Pos} {k : Nat} (T : PySem.Exo_side.Txt X.prog X.K X.mg x C fI) (hr : Room k X.A) (tk : Takes X W) (ha : PA X [a] ta) (hc : X.calm = true := by rfl) (hg : Gl X x := by rfl) (hdb : (x == ("__debug__" : Str)) = false := by decide)
    (he : starEach (a :: []) X.env = (false, eval a X.env) :: starEach [] X.env := by rfl) (hpl : (backTo pos (starEach [] X.env)).any (·.1) = false := by rfl) :
    PS X (.Raise (some (.Call (.Name x p) [a] [] pos)) none pos2) (fun _ σ H => tMkE C ta σ H fun cls d H' => W cls d σ H') := ps_raise hc tk (pmk_e T hr ha hg hdb he hpl)
theorem xf_of {prog : Program} {K : PySem.W.Frag} {mg : Str → Option Value} {x : Str} (T : PySem.Exo_side.Txt prog K mg x C fI) : XfC K C := ⟨T.ga, T.gg, T.exC, T.hdC⟩
end
end Com_side
set_option Elab.async false
set_option linter.all false
set_option maxRecDepth 100000
set_option maxHeartbeats 4000000
/-! Defs that raise, calls within a try. -/
namespace Com
open PySem PySem.Spec PyProof.Rows L2
/-- within a def that lets out what E allows: a callee of the same wish -/
theorem passE {P : Program} {w : World} {K : PySem.W.Frag} {mg : Str → Option Value} {base : Heap} {N : List Str} {qual : Str} {scope : Scope} {f : Addr} {cd : Value} {A : Around} {outer : List Env} {s : Shared} {H : Hp} {E : XK} :
    Passes (L2.CX P w) (cxOf (L2.CX P w) P w K mg base N qual scope f cd A outer s H E) E :=
  passes_call (X := cxOf (L2.CX P w) P w K mg base N qual scope f cd A outer s H E) (takes_of rfl rfl rfl rfl) fun _ _ _ _ h => h
section
variable {P : Program} {w : World} {K : PySem.W.Frag} {mg : Str → Option Value} {base : Heap} {x qual : Str} {C : Addr} {st : Stmt} {ps N : List Str} {k : Nat} {sp : Sp}
theorem DefAt.okX (D : DefAt K mg x st ps) (S : FnScope N ps (defScope st)) (len : ∀ vs H Q E, sp vs H Q E → vs.length = ps.length)
    (hbody : ∀ (f : Addr) (cdv : Value) (A : Around) (outer : List Env) (s : Shared) (H : Hp) (vs : List V) (Q : VK) (E : XK), Room k (A.deeper (envOfC x (defScope st) s.heap.objs.size f cdv)) → sp vs H Q E →
      ∃ t, PSs (cxOf (L2.CX P w) P w K mg base N x (defScope st) f cdv A outer s H E) (defBody st) t ∧ t { nx := fun _ H' => Q .non H', rt := Q } (start N vs) H) : DefOk P w K mg base (L2.CX P w) (k + 1) x sp := by
  obtain ⟨f, fd, F, m, b⟩ := D.ex
  exact ⟨f, raw0 (F.okX S len (fun cdv A outer s H vs Q E hr h => hbody f cdv A outer s H vs Q E hr h)) b, m, F.kp⟩
theorem MethAt.fnX (D : MethAt K C x qual st ps) (S : FnScope N ps (defScope st)) (len : ∀ vs H Q E, sp vs H Q E → vs.length = ps.length)
    (hbody : ∀ (f : Addr) (cdv : Value) (A : Around) (outer : List Env) (s : Shared) (H : Hp) (vs : List V) (Q : VK) (E : XK), Room k (A.deeper (envOfC qual (defScope st) s.heap.objs.size f cdv)) → sp vs H Q E →
      ∃ t, PSs (cxOf (L2.CX P w) P w K mg base N qual (defScope st) f cdv A outer s H E) (defBody st) t ∧ t { nx := fun _ H' => Q .non H', rt := Q } (start N vs) H) : MethOk P w K mg base (L2.CX P w) (k + 1) C x sp := by
  obtain ⟨f, fd, F, m, b⟩ := D.ex
  exact ⟨f, raw0 (F.okX S len (fun cdv A outer s H vs Q E hr h => hbody f cdv A outer s H vs Q E hr h)) b, m⟩
end
/-! ### calls whose wish about exceptions speaks of the slots -/
section
variable {X : Cx} {CX : CXT} {k j : Nat} {C f : Addr} {sp : Sp} {E : XK} {ES : L2.St → XK} {x m : Str} {p pos apos : Pos} {o e : Expr} {es : List Expr} {ta : TE} {t : TA}
theorem runS {pins : List (Addr × Obj)} {σ : L2.St} {H : Hp} {s : Shared} {Q : VK} {us : List Value} {vs : List V} (F : FnR X.prog X.w X.K X.mg X.base CX j f sp) (hr : Room k X.A) (hjk : j ≤ k) (hx : PassesAt CX X σ E) (I : Inv X pins σ H s) (r : Vals vs us) (h : sp vs H Q E) :
    wpAny (model X.prog X.w) X.A (call (.ref f) us) (EP X pins σ Q) X.xe s := by
  refine wpAny_call (codeAny_mono (F X.A X.stack s H us vs Q E (hr.mono hjk) I.env0 r h) fun r s' hq => ?_)
  cases r with
  | error e => exact hx pins H s e s' I hq
  | ok fl =>
    cases fl with
    | ret u => exact I.after hq
    | next => exact False.elim hq
    | brk => exact False.elim hq
    | cont => exact False.elim hq
theorem runNewS {pins : List (Addr × Obj)} {σ : L2.St} {H : Hp} {s : Shared} {Q : VK} {us : List Value} {vs : List V} (M : Mk X.K C f) (F : FnR X.prog X.w X.K X.mg X.base CX j f sp) (hr : Room (k + 1) X.A) (hjk : j ≤ k)
    (hx : PassesAt CX X σ E) (I : Inv X pins σ H s) (r : Vals vs us)
    (h : ∀ x dx, H x = none → H dx = none → dx ≠ x → sp (.ref x :: vs) (upd (upd H dx (.own x)) x (.ins C dx [])) (fun v H2 => v = .non ∧ Q (.ref x) H2) E) :
    wpAny (model X.prog X.w) X.A (call (.ref C) us) (EP X pins σ Q) X.xe s := by
  have hq := h (s.heap.objs.size + 1) s.heap.objs.size (I.hok.fresh (Nat.le_succ _)) (I.hok.fresh (Nat.le_refl _)) (Nat.ne_of_lt (Nat.lt_succ_self _))
  have I2 := Inv.made (C := C) I
  have r2 : Vals (V.ref (s.heap.objs.size + 1) :: vs) (Value.ref (s.heap.objs.size + 1) :: us) := .cons rfl r
  refine wpAny_call (make_map (f := f) I.kIn M.makes M.init (beq_iff_eq.mp M.fn) (codeAny_mono (F _ X.stack _ _ (Value.ref (s.heap.objs.size + 1) :: us) _ _ E ((hr.make C us []).mono hjk)
    (I2.env0.make C us []) r2 hq) fun r s' hq' => ?_))
  cases r with
  | error e => exact hx pins _ _ e s' I2 hq'
  | ok fl =>
    cases fl with
    | ret u =>
      obtain ⟨v, H', I3, rv, ev, q3⟩ := I2.after hq'
      subst ev
      exact ⟨rv, ⟨V.ref (s.heap.objs.size + 1), H', I3, rfl, q3⟩⟩
    | next => exact False.elim hq'
    | brk => exact False.elim hq'
    | cont => exact False.elim hq'
def tNewS (C : Addr) (sp : Sp) (ES : L2.St → XK) (t : TA) : TE := fun σ H Q => t σ H fun vs H1 => ∀ x dx, H1 x = none → H1 dx = none → dx ≠ x →
  sp (.ref x :: vs) (upd (upd H1 dx (.own x)) x (.ins C dx [])) (fun v H2 => v = .non ∧ Q (.ref x) H2) (ES σ)
def tMthS (C : Addr) (m : Str) (sp : Sp) (ES : L2.St → XK) (ta : TE) (t : TA) : TE := fun σ H Q => ta σ H fun x H1 => ∃ a dx fs, x = .ref a ∧ H1 a = some (.ins C dx fs) ∧ fs.lookup m = none ∧ t σ H1 fun vs H2 => sp (x :: vs) H2 Q (ES σ)
theorem pe_newS (M : NewOk X.prog X.w X.K X.mg X.base CX j x C sp) (hr : Room (k + 1) X.A) (hjk : j ≤ k) (hx : ∀ σ, PassesAt CX X σ (ES σ)) (ha : PA X (e :: es) t) (hg : Gl X x := by rfl) (hdb : (x == ("__debug__" : Str)) = false := by decide)
    (he : starEach (e :: es) X.env = (false, eval e X.env) :: starEach es X.env := by rfl) (hpl : (backTo pos (starEach es X.env)).any (·.1) = false := by rfl) :
    PE X (.Call (.Name x p) (e :: es) [] pos) (tNewS C sp ES t) := by
  obtain ⟨f, F, M1⟩ := M.ex
  refine ⟨fun pins s σ H Q I h => ?_⟩
  refine wpAny_Call_Name_kw (ld_glob I hg M.mg ?_ hdb)
  refine PySem.W.callWith_K (h₀ := X.base) I.ok.mod.kin M1.kp (thn (ha.run pos pins s σ H _ I h) fun us s1 ⟨vs, H1, I1, r, q⟩ => ⟨I1.kIn, ?_⟩) he hpl
  exact runNewS M1 F hr hjk (hx σ) I1 r q
theorem pe_mthS {pl : Sem Bool} (he : PE X o ta) (c : Cls X.K C) (M : MethOk X.prog X.w X.K X.mg X.base CX j C m sp) (hr : Room k X.A) (hjk : j ≤ k) (hx : ∀ σ, PassesAt CX X σ (ES σ)) (ha : PA X (e :: es) t)
    (hst : starEach (e :: es) X.env = (false, eval e X.env) :: starEach es X.env := by rfl) (hpl : (backTo pos (starEach es X.env)).any (·.1) = false := by rfl)
    (ht : eval (.Call (.Attribute o m apos) (e :: es) [] pos) X.env = (do
      let ov ← eval o X.env
      standAt apos.atName
      let (f, first) ← holding [ov] (getMethod ov m pl)
      callWith pos f first (backTo pos (starEach (e :: es) X.env)) (backToKw pos (keywordEach [] X.env))) := by rfl) :
    PE X (.Call (.Attribute o m apos) (e :: es) [] pos) (tMthS C m sp ES ta t) := by
  obtain ⟨g, F, hm⟩ := M.ex
  refine ⟨fun pins s σ H Q I h => ?_⟩
  refine PySem.W.methodCall_KW (pl := pl) (thn (he.run pins s σ H _ I h) fun u s1 ⟨x, H1, I1, rx, a, dx, fs, ex, ea, l, q⟩ => ?_) ht
  subst ex
  obtain rfl : u = Value.ref a := rx
  refine getmeth_ok I1 ea c hm l ?_
  refine PySem.W.callWith_K (first := [.ref a]) (h₀ := X.base) I.ok.mod.kin hm.kp (thn (ha.run pos pins s1 σ H1 _ I1 q) fun us s2 ⟨vs, H2, I2, r, q2⟩ => ⟨I2.kIn, ?_⟩) hst hpl
  exact runS (us := .ref a :: us) (vs := .ref a :: vs) F hr hjk (hx σ) I2 (.cons rfl r) q2
end
section
open ClX
variable {X : Cx} {CX : CXT} {k j : Nat} {C p g q : Addr} {mc : Value} {sp : Sp} {E : XK} {ES : L2.St → XK} {o e : Expr} {es : List Expr} {f m : Str} {pos apos : Pos} {ta : TE} {t : TA} {pl : Sem Bool}
theorem run_cmS {pins : List (Addr × Obj)} {σ : L2.St} {H : Hp} {s : Shared} {Q : VK} {us : List Value} {vs : List V} (F : FnR X.prog X.w X.K X.mg X.base CX j g sp) (hr : Room k X.A) (hjk : j ≤ k) (hx : PassesAt CX X σ E) (I : Inv X ((q, PySem.W.methodObj (.ref g) (.ref C)) :: pins) σ H s)
    (r : Vals vs us) (h : sp (.ref C :: vs) H Q E) : wpAny (model X.prog X.w) X.A (call (.ref q) us) (EP X pins σ Q) X.xe s := by
  refine thn (Q := EP X ((q, PySem.W.methodObj (.ref g) (.ref C)) :: pins) σ Q) (wpAny_call (PySem.W.method_call (pin_at I) (codeAny_mono (F X.A X.stack s H (.ref C :: us) (.ref C :: vs) Q E (hr.mono hjk) I.env0 (.cons rfl r) h) fun r s' hq => ?_))) fun _ _ y => unpinE y
  cases r with
  | error e => exact hx _ H s e s' I hq
  | ok fl =>
    cases fl with
    | ret u => exact I.after hq
    | next => exact False.elim hq
    | brk => exact False.elim hq
    | cont => exact False.elim hq
def tClsS (C : Addr) (sp : Sp) (ES : L2.St → XK) (ta : TE) (t : TA) : TE := fun σ H Q => ta σ H fun x H1 => x = .ref C ∧ t σ H1 fun vs H2 => sp (.ref C :: vs) H2 Q (ES σ)
theorem pe_clsS (he : PE X o ta) (M : CMethOk X.prog X.w X.K X.mg X.base CX j C m sp) (hr : Room k X.A) (hjk : j ≤ k) (hx : ∀ σ, PassesAt CX X σ (ES σ)) (ha : PA X (e :: es) t)
    (hst : starEach (e :: es) X.env = (false, eval e X.env) :: starEach es X.env := by rfl) (hpl : (backTo pos (starEach es X.env)).any (·.1) = false := by rfl)
    (ht : eval (.Call (.Attribute o m apos) (e :: es) [] pos) X.env = (do
      let ov ← eval o X.env
      standAt apos.atName
      let (f, first) ← holding [ov] (getMethod ov m pl)
      callWith pos f first (backTo pos (starEach (e :: es) X.env)) (backToKw pos (keywordEach [] X.env))) := by rfl) :
    PE X (.Call (.Attribute o m apos) (e :: es) [] pos) (tClsS C sp ES ta t) := by
  obtain ⟨mc, p, g, r, c, F⟩ := M.ex
  refine ⟨fun pins s σ H Q I h => ?_⟩
  refine PySem.W.methodCall_KW (pl := pl) (thn (he.run pins s σ H _ I h) fun u s1 ⟨x, H1, I1, rx, ex, q⟩ => ?_) ht
  subst ex
  obtain rfl : u = Value.ref C := rx
  refine getmethcm_ok I1 r c fun s2 I2 => ?_
  refine callwith_cm I2 (base_none I1 (Nat.le_refl _)) c.fi (thn (ha.run pos _ s2 σ H1 _ I2 q) fun us s3 ⟨vs, H2, I3, rv, q2⟩ => ⟨⟨pin_at I3, I3.kIn⟩, ?_⟩) hst hpl
  exact run_cmS F hr hjk (hx σ) I3 rv q2
end
/-! ### try: a call / except C as e: a suite of one statement -/
section
variable {X : Cx} {x n : Str} {i : Nat} {e : Expr} {suite : List Stmt} {b₀ : Stmt} {np pos pos' pos2 : Pos} {C fI : Addr} {te : WX → TE} {ts : Addr → Value → Option Addr → TS}
/-- in a def that lets nothing out -/
theorem ps_tryE (T : PySem.Exo.Txt X.prog X.K X.mg x C fI) (hN : X.N.Nodup) (hi : X.N[i]? = some n) (hln : X.env.kindOf n = some .local)
    (hb : ∀ (W : WX) (pn : List (Addr × Obj)) (xe : Value → Shared → Prop), Takes (X.tr pn xe) W → PE (X.tr pn xe) e (te W))
    (hsu : ∀ (a : Addr) (oe : Obj) (cls : Value) (d : Option Addr) (pn : List (Addr × Obj)), Zc cls d oe → (∃ vs, oe.data = .fields vs) → PSs (X.suite a ((a, oe) :: pn)) (b₀ :: suite) (ts a cls d))
    (hs : X.stack = X.env :: X.outer := by rfl) (hf : X.env.frame = some X.env.locals := by rfl) (hg : Gl X x := by rfl) (hdb : (x == ("__debug__" : Str)) = false := by decide) (hsw : swapsWith e none pos2.line X.env = pure false := by rfl) :
    PS X (.Try [.Expr e pos2] [.ExceptHandler (some (.Name x np)) (some n) (b₀ :: suite) pos'] [] [] pos) (fun D σ H => tDrop (te (wAs X.K (.ref C) i ts (fun _ _ _ _ => False) D)) D σ H) :=
  ps_try_as (tb := fun W => tDrop (te W)) hs hf hN hi hln ⟨hg, hdb, .inl T.gC⟩ takes0 (fun W pn xe tk _ => pss_one (ps_expr (hb W pn xe tk) hsw)) hsu
end
end Com
set_option Elab.async false
set_option linter.all false
set_option maxRecDepth 100000
set_option maxHeartbeats 4000000
/-! x == y, y of an own class, x of a built-in kind: the left side declines, the own __eq__ answers. -/
namespace Com
open PySem PySem.Spec PyProof.Rows L2 PySem.W
theorem int_eq_ins (a : Int) (t : Tok) (x dx C : Addr) :
    Meets (Builtin.«int.__eq__» ⟨[.int a t, .ref x], []⟩) (fun _ R s => s.heap.get? x = some (instObj C dx) ∧ R (.ok (.ret Value.notImplemented)) s) :=
  .of_wp fun prog w A R s h => by
    obtain ⟨hp, g, d, tk, os⟩ := s; obtain ⟨hl, h⟩ := h
    unfold instObj at hl
    wp_walk using wpAny_loadPart' hl
    exact ⟨_, rfl, h⟩
theorem bool_eq_ins (a : Bool) (x dx C : Addr) :
    Meets (Builtin.«int.__eq__» ⟨[.bool a, .ref x], []⟩) (fun _ R s => s.heap.get? x = some (instObj C dx) ∧ R (.ok (.ret Value.notImplemented)) s) :=
  .of_wp fun prog w A R s h => by
    obtain ⟨hp, g, d, tk, os⟩ := s; obtain ⟨hl, h⟩ := h
    unfold instObj at hl
    wp_walk using wpAny_loadPart' hl
    exact ⟨_, rfl, h⟩
theorem str_eq_ins (a : Str) (t : Tok) (x dx C : Addr) :
    Meets (Builtin.«str.__eq__» ⟨[.str a t, .ref x], []⟩) (fun _ R s => s.heap.get? x = some (instObj C dx) ∧ R (.ok (.ret Value.notImplemented)) s) :=
  .of_wp fun prog w A R s h => by
    obtain ⟨hp, g, d, tk, os⟩ := s; obtain ⟨hl, h⟩ := h
    unfold instObj at hl
    wp_walk using wpAny_loadPart' hl
    exact ⟨_, rfl, h⟩
theorem none_eq_ins (x dx C : Addr) :
    Meets (Builtin.«NoneType.__eq__» ⟨[.none, .ref x], []⟩) (fun _ R s => s.heap.get? x = some (instObj C dx) ∧ R (.ok (.ret Value.notImplemented)) s) :=
  .of_wp fun prog w A R s h => by
    obtain ⟨hp, g, d, tk, os⟩ := s; obtain ⟨hl, h⟩ := h
    unfold instObj at hl
    wp_walk using wpAny_loadPart' hl
    exact ⟨_, rfl, h⟩
theorem list_eq_ins (a x dx C : Addr) (o : Obj) (its : Array Value) (n : Nat) :
    Meets (Builtin.«list.__eq__» ⟨[.ref a, .ref x], []⟩) (fun _ R s => s.heap.get? x = some (instObj C dx) ∧ s.heap.get? a = some o ∧ o.cls = .type "list" ∧ (∀ M, PySem.W.Looks M s.heap (isSubtype (.ref C) (.type "list")) false) ∧ o.data = .seq its n ∧ R (.ok (.ret Value.notImplemented)) s) :=
  .of_wp fun prog w A R s h => by
    obtain ⟨hp, g, d, tk, os⟩ := s; obtain ⟨hl, ha, hc, hs, hd, h⟩ := h
    unfold instObj at hl
    wp_walk using wpAny_loadPart' hl, wpAny_loadPart' ha
    refine (hs _).here ?_
    wp_walk using wpAny_loadPart' hl, wpAny_loadPart' ha
    exact ⟨_, rfl, h⟩
theorem tuple_eq_ins (a x dx C : Addr) (o : Obj) (its : Array Value) (n : Nat) :
    Meets (Builtin.«tuple.__eq__» ⟨[.ref a, .ref x], []⟩) (fun _ R s => s.heap.get? x = some (instObj C dx) ∧ s.heap.get? a = some o ∧ o.cls = .type "tuple" ∧ (∀ M, PySem.W.Looks M s.heap (isSubtype (.ref C) (.type "tuple")) false) ∧ o.data = .seq its n ∧ R (.ok (.ret Value.notImplemented)) s) :=
  .of_wp fun prog w A R s h => by
    obtain ⟨hp, g, d, tk, os⟩ := s; obtain ⟨hl, ha, hc, hs, hd, h⟩ := h
    unfold instObj at hl
    wp_walk using wpAny_loadPart' hl, wpAny_loadPart' ha
    refine (hs _).here ?_
    wp_walk using wpAny_loadPart' hl, wpAny_loadPart' ha
    exact ⟨_, rfl, h⟩
theorem dict_eq_ins (a x dx C : Addr) (o : Obj) (es : Array DictEntry) (n : Nat) :
    Meets (Builtin.«dict.__eq__» ⟨[.ref a, .ref x], []⟩) (fun _ R s => s.heap.get? x = some (instObj C dx) ∧ s.heap.get? a = some o ∧ o.cls = .type "dict" ∧ (∀ M, PySem.W.Looks M s.heap (isSubtype (.ref C) (.type "dict")) false) ∧ o.data = .dict es n ∧ R (.ok (.ret Value.notImplemented)) s) :=
  .of_wp fun prog w A R s h => by
    obtain ⟨hp, g, d, tk, os⟩ := s; obtain ⟨hl, ha, hc, hs, hd, h⟩ := h
    unfold instObj at hl
    wp_walk using wpAny_loadPart' hl, wpAny_loadPart' ha
    refine (hs _).here ?_
    wp_walk using wpAny_loadPart' hl, wpAny_loadPart' ha
    exact ⟨_, rfl, h⟩
end Com
namespace Com
open PySem PySem.Spec PyProof.Rows L2 PySem.W
section
variable {prog : Program} {w : World} {A : Around} {E : Value → Shared → Prop} {s : Shared} {K : Frag} {x C L f : Addr} {h₀ : Heap} {m : Str → Option Value} {ox : Obj} {od : Option Obj}
theorem rcmp_K {a : Value} {T : String} {Q : Value → Shared → Prop} (hu : A.units < cLine) (F : Fr h₀ L s.heap m) (X₀ : K.In h₀) (I : InstAt s.heap x ox C od) (ha : Looks (model prog w) s.heap (typeOf a) (.type T)) (hone : oneThing? .Eq a (.ref x) = none)
    (hsub : subIn K (.ref C) (.type T) = some false) (hdec : wpAny (model prog w) A (tryCompare a "__eq__" (.ref x)) (fun r s' => r = none ∧ s' = s) E s) (hs : findIn K (.ref C) "__eq__" = some (some (.ref f))) (hf : isFn K (.ref f) = true)
    (h : wpAny (model prog w) A (call (.ref f) [.ref x, a]) (PySem.W.CmpBack Q) E s) : wpAny (model prog w) A (richCompare .Eq a (.ref x)) Q E s := by
  have X := X₀.keeps F.keep
  have one : wpAny (model prog w) A (tryCompare (.ref x) "__eq__" a) (fun r s' => ∃ v, r = some v ∧ Q v s') E s := by
    unfold tryCompare
    refine wpAny_bind (ifBound_K X I hs hf (wpAny_mono h (fun v s' hv => ?_) fun _ _ e => e))
    cases v <;> first | exact hv.elim | exact wpAny_pure ⟨_, rfl, hv⟩
  have hne : (Value.type T != Value.ref C) = true := by simp
  unfold richCompare
  simp only [hone]
  refine wpAny_holding (wpAny_bind (wpAny_cRoomFor hu ?_))
  refine wpAny_bind (ha.here (wpAny_bind (I.type.here ?_)))
  rw [if_pos hne]
  refine wpAny_bind ((looks_subIn X hsub).here ?_)
  simp only [Bool.false_eq_true, if_false]
  refine wpAny_bind (wpAny_mono hdec (fun r s' z => ?_) fun _ _ e => e)
  obtain ⟨rfl, rfl⟩ := z
  simp only [Bool.not_false, if_true]
  refine wpAny_bind (wpAny_mono one (fun r s' z => ?_) fun _ _ e => e)
  obtain ⟨v, rfl, hq⟩ := z
  exact wpAny_pure hq
end
end Com
namespace Com
open PySem PySem.Spec PyProof.Rows L2
/-- a left side that declines -/
inductive Left (H : Hp) : V → String → Prop where
  | non : Left H .non "NoneType"
  | bl (b : Bool) : Left H (.bl b) "bool"
  | int (i : Int) : Left H (.int i) "int"
  | str (x : Str) : Left H (.str x) "str"
  | lst {a : Addr} {xs : List V} (e : H a = some (.lst xs)) : Left H (.ref a) "list"
  | tup {a : Addr} {xs : List V} (e : H a = some (.tup xs)) : Left H (.ref a) "tuple"
  | dK {a : Addr} {kvs : List (Key × V)} (e : H a = some (.dK kvs)) : Left H (.ref a) "dict"
def rEqR (K : PySem.W.Frag) (C : Addr) (sp : Sp) (E : XK) : R2 := fun x y H Q => ∃ (T : String) (b dy : Addr) (gs : List (Str × V)), Left H x T ∧ y = .ref b ∧ H b = some (.ins C dy gs) ∧ PySem.W.subIn K (.ref C) (.type T) = some false ∧ sp [y, x] H Q E
theorem eqR (K : PySem.W.Frag) {X : Cx} {CX : CXT} {k j : Nat} {C : Addr} {sp : Sp} {E : XK} (M : MethOk X.prog X.w X.K X.mg X.base CX j C "__eq__" sp) (hr : Room k X.A) (hjk : j ≤ k) (hx : Passes CX X E) (hK : X.K = K := by rfl) : OpR X (compareOp .Eq) (rEqR K C sp E) := by
  subst hK
  obtain ⟨g, FR, hm⟩ := M.ex
  intro pins s σ H x y v u Q I rx ry h
  obtain ⟨T, b, dy, gs, lf, rfl, hb, hsub, q⟩ := h
  cases (show u = Value.ref b from ry)
  obtain ⟨mB, O, _⟩ := ins_get I.hok hb
  have hobj := O.obj
  obtain ⟨od, J, _⟩ := O.look
  obtain ⟨mm, hF⟩ := I.fr
  have run : wpAny (model X.prog X.w) X.A (call (.ref g) [.ref b, v]) (PySem.W.CmpBack (EP X pins σ Q)) X.xe s := by
    refine wpAny_mono (runR (us := [.ref b, v]) (vs := [.ref b, x]) FR hr hjk hx I (.cons rfl (.cons rx .nil)) q) (fun w s' z => ?_) fun _ _ x => x
    obtain ⟨z', H', I', rz, qz⟩ := z
    exact SlX.cmpback rz ⟨z', H', I', rz, qz⟩
  have hsb : ∀ M, PySem.W.Looks M s.heap (isSubtype (.ref C) (.type T)) false := fun M => PySem.W.looks_subIn I.kIn hsub
  show wpAny (model X.prog X.w) X.A (richCompare .Eq v (.ref b)) (EP X pins σ Q) X.xe s
  cases lf with
  | non =>
    obtain rfl : v = Value.none := rx
    have hT : s.TypeIs .none "NoneType" := rfl
    exact rcmp_K (T := "NoneType") hr.units0 hF I.ok.mod.kin J (PySem.W.Looks.of_pure rfl) rfl hsub (wpAny_tryCompare_declines hT F.slot_NoneType_eq (call_meets F.slot_NoneType_eq hT F.entry_NoneType_eq (F.args_NoneType_eq_2 _ _) (none_eq_ins b dy C) ⟨hobj, rfl, rfl, rfl⟩)) hm.at_ hm.fn run
  | bl i =>
    obtain rfl : v = Value.bool i := rx
    have hT : s.TypeIs (.bool i) "bool" := rfl
    exact rcmp_K (T := "bool") hr.units0 hF I.ok.mod.kin J (PySem.W.Looks.of_pure rfl) rfl hsub (wpAny_tryCompare_declines hT F.slot_bool_eq (call_meets F.slot_bool_eq hT F.entry_int_eq (F.args_int_eq_2 _ _) (bool_eq_ins i b dy C) ⟨hobj, rfl, rfl, rfl⟩)) hm.at_ hm.fn run
  | int i =>
    obtain ⟨t, rfl⟩ := (show ∃ t, v = Value.int i t from rx)
    have hT : s.TypeIs (.int i t) "int" := rfl
    exact rcmp_K (T := "int") hr.units0 hF I.ok.mod.kin J (PySem.W.Looks.of_pure rfl) rfl hsub (wpAny_tryCompare_declines hT F.slot_int_eq (call_meets F.slot_int_eq hT F.entry_int_eq (F.args_int_eq_2 _ _) (int_eq_ins i t b dy C) ⟨hobj, rfl, rfl, rfl⟩)) hm.at_ hm.fn run
  | str i =>
    obtain ⟨t, rfl⟩ := (show ∃ t, v = Value.str i t from rx)
    have hT : s.TypeIs (.str i t) "str" := rfl
    exact rcmp_K (T := "str") hr.units0 hF I.ok.mod.kin J (PySem.W.Looks.of_pure rfl) rfl hsub (wpAny_tryCompare_declines hT F.slot_str_eq (call_meets F.slot_str_eq hT F.entry_str_eq (F.args_str_eq_2 _ _) (str_eq_ins i t b dy C) ⟨hobj, rfl, rfl, rfl⟩)) hm.at_ hm.fn run
  | @lst a xs e =>
    obtain rfl : v = Value.ref a := rx
    obtain ⟨_, its, n, r, ho⟩ := I.hok _ _ e
    have hT : s.TypeIs (.ref a) "list" := ⟨_, ho, rfl⟩
    exact rcmp_K (T := "list") hr.units0 hF I.ok.mod.kin J (fun A Q E s k q => wpAny_typeOf_ref (k _ _ ho) q) rfl hsub (wpAny_tryCompare_declines hT F.slot_list_eq (call_meets F.slot_list_eq hT F.entry_list_eq (F.args_list_eq_2 _ _) (list_eq_ins a b dy C _ _ n) ⟨hobj, ho, rfl, hsb, rfl, rfl, rfl, rfl⟩)) hm.at_ hm.fn run
  | @tup a xs e =>
    obtain rfl : v = Value.ref a := rx
    obtain ⟨_, its, r, o, ho, hc, n, hd⟩ := I.hok _ _ e
    have hT : s.TypeIs (.ref a) "tuple" := ⟨_, ho, hc⟩
    exact rcmp_K (T := "tuple") hr.units0 hF I.ok.mod.kin J (fun A Q E s k q => wpAny_typeOf_ref (k _ _ ho) (by rw [hc]; exact q)) rfl hsub (wpAny_tryCompare_declines hT F.slot_tuple_eq (call_meets F.slot_tuple_eq hT F.entry_tuple_eq (F.args_tuple_eq_2 _ _) (tuple_eq_ins a b dy C o _ n) ⟨hobj, ho, hc, hsb, hd, rfl, rfl, rfl⟩)) hm.at_ hm.fn run
  | @dK a kvs e =>
    obtain rfl : v = Value.ref a := rx
    obtain ⟨_, _, vs, _, o, es, ep, ho, hc, hd, _⟩ := I.hok _ _ e
    have hT : s.TypeIs (.ref a) "dict" := ⟨_, ho, hc.1⟩
    exact rcmp_K (T := "dict") hr.units0 hF I.ok.mod.kin J (fun A Q E s k q => wpAny_typeOf_ref (k _ _ ho) (by rw [hc.1]; exact q)) rfl hsub (wpAny_tryCompare_declines hT F.slot_dict_eq (call_meets F.slot_dict_eq hT F.entry_dict_eq (F.args_dict_eq_2 _ _) (dict_eq_ins a b dy C o es ep) ⟨hobj, ho, hc.1, hsb, hd, rfl, rfl, rfl⟩)) hm.at_ hm.fn run
end Com
set_option Elab.async false
set_option linter.all false
set_option maxRecDepth 100000
set_option maxHeartbeats 4000000
/-! What the laws' texts say of flows, exchanges, kinds: the promises, not yet any def. -/
namespace Gn
open PySem PySem.Spec PyProof.Rows L2 Com
/-! ### the draws -/
def spFlow (K : PySem.W.Frag) : Sp := fun vs H Q _ => ∃ (a : Addr) (ns : List Int) (k : Nat), vs = [.ref a, .int (k : Int)] ∧ SqL K H a (ns.map V.int) ∧ ns.length ≤ 63 ∧ k ≤ 1000 ∧
  ∀ p H', H p = none → FlowAt H' p → But p H H' → Q (.ref p) H'
def spPick : Sp := fun vs H Q _ => ∃ (a : Addr) (size : Int), vs = [.ref a, .int size] ∧ FlowAt H a ∧ 1 ≤ size ∧ size < 2 ^ 200 ∧
  ∀ d H', 0 ≤ d → d < size → FlowAt H' a → But a H H' → Q (.int d) H'
/-! ### kinds -/
def spPlain (K : PySem.W.Frag) : Sp := fun vs H Q _ => ∃ x b, vs = [x] ∧ PlainI K H x b ∧ Q (.bl b) H
/-! ### exchanges -/
def spWithin (K : PySem.W.Frag) : Sp := fun vs H Q _ => ∃ x lo hi b, vs = [x, .int lo, .int hi] ∧ InR K H x lo hi b ∧ Q (.bl b) H
/-- a side: a tuple of 1 to 4 integers from 1 to 4; the answer for any value -/
def SideV (K : PySem.W.Frag) (H : Hp) (x : V) (b : Bool) : Prop :=
  (∃ (a : Addr) (xs : List V) (bs : List Bool), x = .ref a ∧ H a = some (.tup xs) ∧ bs.length = xs.length ∧ (∀ (i : Nat) v c, xs[i]? = some v → bs[i]? = some c → InR K H v 1 4 c) ∧ b = (decide (1 ≤ xs.length) && decide (xs.length ≤ 4) && bs.all id)) ∨
  (∃ t, TyX K H x t ∧ PySem.W.kitOne K t (.type "tuple") = some false ∧ b = false)
def spSide (K : PySem.W.Frag) : Sp := fun vs H Q _ => ∃ x b, vs = [x] ∧ SideV K H x b ∧ ∀ H', Same H H' → Q (.bl b) H'
/-! ### the class Exchange, by good arguments -/
def exF (i o : Addr) (m : Int) : List (Str × V) := [("ins", .ref i), ("outs", .ref o), ("middles", .int m)]
/-- an exchange at p: its sides at i, o -/
def ExO (C : Addr) (H : Hp) (p i o : Addr) (m : Int) : Prop := ∃ dx, H p = some (.ins C dx (exF i o m))
def Good (ds : List Int) : Prop := 1 ≤ ds.length ∧ ds.length ≤ 4 ∧ ∀ d ∈ ds, 1 ≤ d ∧ d ≤ 4
def Tup (H : Hp) (i : Addr) (ds : List Int) : Prop := H i = some (.tup (ds.map V.int))
theorem Good.side {K : PySem.W.Frag} {H : Hp} {i : Addr} {ds : List Int} (g : Good ds) (h : Tup H i ds) : SideV K H (.ref i) true := by
  obtain ⟨g1, g2, g3⟩ := g
  refine .inl ⟨i, _, List.replicate ds.length true, rfl, h, by simp, fun j v c h1 h2 => ?_, ?_⟩
  · rw [List.getElem?_map] at h1
    cases e : ds[j]? with
    | none =>
      rw [e] at h1
      cases h1
    | some z =>
      rw [e] at h1
      cases h1
      have hc : c = true := by
        have := List.mem_of_getElem? h2
        exact (List.mem_replicate.mp this).2
      subst hc
      have hz := g3 z (List.mem_of_getElem? e)
      exact InR.good hz.1 hz.2
  · rw [List.length_map, decide_eq_true g1, decide_eq_true g2]
    simp
/-- what the top has made of the class -/
structure ExT (K : PySem.W.Frag) (mg : Str → Option Value) (C : Addr) : Prop where
  cl : Cls K C
  nI : NoAttr K C "ins"
  nO : NoAttr K C "outs"
  nM : NoAttr K C "middles"
  ca : PySem.W.findIn K (.ref C) "__class__" = some (some (.builtin "object.__class__"))
  cn : PySem.W.specialIn K (.builtin "object.__class__") "__get__" = some (some (.builtin "getset_descriptor.__get__"))
  ct : PySem.W.takesIn K (.builtin "object.__class__") = some true
  cm : PySem.W.mroIn K C (.type "object") = some true
  kS : PySem.W.kitOne K (.ref C) (.ref C) = some true
  kT : PySem.W.kitOne K (.type "tuple") (.ref C) = some false
  kI : PySem.W.kitOne K (.type "int") (.ref C) = some false
  fS : PySem.W.notFirst K C (.ref C) = true
  fT : PySem.W.notFirst K C (.type "tuple") = true
  fI : PySem.W.notFirst K C (.type "int") = true
  g_Exchange : mg "Exchange" = some (.ref C)
theorem exTy {K : PySem.W.Frag} {mg : Str → Option Value} {C : Addr} (T : ExT K mg C) {H : Hp} {p dx : Addr} {fs : List (Str × V)} (h : H p = some (.ins C dx fs)) : TyX K H (.ref p) (.ref C) := .base (.ins h T.cl T.ca T.cn T.ct T.cm)
def Old (p : Addr) (H H' : Hp) : Prop := ∀ b o, H b = some o → b ≠ p → H' b = some o
def spInit (C : Addr) : Sp := fun vs H Q _ => ∃ (p dx i o : Addr) (ds es : List Int) (m : Int), vs = [.ref p, .ref i, .ref o, .int m] ∧ H p = some (.ins C dx []) ∧ Tup H i ds ∧ Good ds ∧ Tup H o es ∧ Good es ∧ 1 ≤ m ∧ m ≤ 7 ∧
  ∀ H', ExO C H' p i o m → Old p H H' → Q .non H'
theorem no1 : ¬ (("ins" : Str) = "outs") := by decide +kernel
theorem no2 : ¬ (("ins" : Str) = "middles") := by decide +kernel
theorem no3 : ¬ (("outs" : Str) = "middles") := by decide +kernel
theorem exF_put (i o : Addr) (m : Int) : putF "middles" (.int m) (putF "outs" (.ref o) (putF "ins" (.ref i) [])) = exF i o m := by
  rw [putF_nil, putF_ne no1, putF_nil, putF_ne no2, putF_ne no3, putF_nil]
  rfl
theorem exF_ins (i o : Addr) (m : Int) : (exF i o m).lookup ("ins" : Str) = some (.ref i) := lk_eq
theorem exF_outs (i o : Addr) (m : Int) : (exF i o m).lookup ("outs" : Str) = some (.ref o) := by
  unfold exF
  rw [lk_ne (by decide +kernel), lk_eq]
theorem exF_middles (i o : Addr) (m : Int) : (exF i o m).lookup ("middles" : Str) = some (.int m) := by
  unfold exF
  rw [lk_ne (by decide +kernel), lk_ne (by decide +kernel), lk_eq]
theorem exF_no (i o : Addr) (m : Int) {f : Str} (h1 : (f == ("ins" : Str)) = false) (h2 : (f == ("outs" : Str)) = false) (h3 : (f == ("middles" : Str)) = false) : (exF i o m).lookup f = none := by
  unfold exF
  rw [lk_ne h1, lk_ne h2, lk_ne h3]
  rfl
theorem Same.tup {H H' : Hp} (s : Same H H') {i : Addr} {ds : List Int} (h : Tup H i ds) : Tup H' i ds := s _ _ h
theorem Same.exO {C : Addr} {H H' : Hp} (s : Same H H') {p i o : Addr} {m : Int} (h : ExO C H p i o m) : ExO C H' p i o m := let ⟨dx, e⟩ := h; ⟨dx, s _ _ e⟩
/-! ### the methods of an exchange -/
theorem new_ex {C : Addr} {H : Hp} {Q : VK} {E : XK} {i o : Addr} {ds es : List Int} {m : Int} (hi : Tup H i ds) (gi : Good ds) (ho : Tup H o es) (go : Good es) (m1 : 1 ≤ m) (m2 : m ≤ 7)
    (q : ∀ x H', H x = none → ExO C H' x i o m → Same H H' → Q (.ref x) H') : ∀ x dx, H x = none → H dx = none → dx ≠ x →
    spInit C (.ref x :: [.ref i, .ref o, .int m]) (upd (upd H dx (.own x)) x (.ins C dx [])) (fun v H2 => v = .non ∧ Q (.ref x) H2) E := by
  intro x dx hx hdx ne
  refine ⟨x, dx, i, o, ds, es, m, rfl, upd_same, ?_, gi, ?_, go, m1, m2, fun H' ex old => ⟨rfl, q x H' hx ex (Same.made hx hdx old)⟩⟩
  · show upd _ _ _ i = _
    rw [upd_ne (ne_of_none hi hx), upd_ne (ne_of_none hi hdx)]
    exact hi
  · show upd _ _ _ o = _
    rw [upd_ne (ne_of_none ho hx), upd_ne (ne_of_none ho hdx)]
    exact ho
theorem new_ex' {C : Addr} {H : Hp} {R : VK} {E : XK} {i o x dx : Addr} {ds es : List Int} {m : Int} (hi : Tup H i ds) (gi : Good ds) (ho : Tup H o es) (go : Good es) (m1 : 1 ≤ m) (m2 : m ≤ 7) (hx : H x = none) (hdx : H dx = none)
    (q : ∀ H', ExO C H' x i o m → Same H H' → R .non H') : spInit C (.ref x :: [.ref i, .ref o, .int m]) (upd (upd H dx (.own x)) x (.ins C dx [])) R E := by
  refine ⟨x, dx, i, o, ds, es, m, rfl, upd_same, ?_, gi, ?_, go, m1, m2, fun H' ex old => q H' ex (Same.made hx hdx old)⟩
  · show upd _ _ _ i = _
    rw [upd_ne (ne_of_none hi hx), upd_ne (ne_of_none hi hdx)]
    exact hi
  · show upd _ _ _ o = _
    rw [upd_ne (ne_of_none ho hx), upd_ne (ne_of_none ho hdx)]
    exact ho
/-- p an exchange whose sides at i, o are ds, es -/
structure ExAt (C : Addr) (H : Hp) (p i o : Addr) (ds es : List Int) (m : Int) : Prop where
  ob : ExO C H p i o m
  ti : Tup H i ds
  gi : Good ds
  to : Tup H o es
  go : Good es
  m1 : 1 ≤ m
  m2 : m ≤ 7
theorem ExAt.same {C : Addr} {H H' : Hp} {p i o : Addr} {ds es : List Int} {m : Int} (s : Same H H') (h : ExAt C H p i o ds es m) : ExAt C H' p i o ds es m := ⟨Same.exO s h.ob, Same.tup s h.ti, h.gi, Same.tup s h.to, h.go, h.m1, h.m2⟩
theorem rep_good {s d : Int} (s1 : 1 ≤ s) (s2 : s ≤ 4) (d1 : 1 ≤ d) (d2 : d ≤ 4) : Good (List.replicate s.toNat d) := by
  refine ⟨by rw [List.length_replicate]; omega, by rw [List.length_replicate]; omega, fun z hz => ?_⟩
  rw [(List.mem_replicate.mp hz).2]
  exact ⟨d1, d2⟩
theorem rep_tup {H : Hp} {i : Addr} {z d : Int} (hi : H i = some (.tup (List.replicate z.toNat [V.int d]).flatten)) : Tup H i (List.replicate z.toNat d) := by
  show H i = _
  rw [hi]
  congr 2
  rw [List.map_replicate]
  induction z.toNat with
  | zero => rfl
  | succ n ih => rw [List.replicate_succ, List.replicate_succ, List.flatten_cons, ih]; rfl
/-! ### pairs, square -/
def spPairs (C : Addr) : Sp := fun vs H Q _ => ∃ (p i o : Addr) (ds es : List Int) (m : Int), vs = [.ref p] ∧ ExAt C H p i o ds es m ∧ ∀ D H' xs, H D = none → H' D = some (.lst xs) → PairsV H' xs (pairsL ds.length es.length) → Same H H' → Q (.ref D) H'
/-! ### the law's own helpers -/
def spDoors : Sp := fun vs H Q _ => ∃ (a : Addr) (most d : Int), vs = [.ref a, .int most, .int d] ∧ FlowAt H a ∧ 1 ≤ most ∧ most ≤ 4 ∧ 1 ≤ d ∧ d ≤ 4 ∧
  ∀ i ds H', H i = none → Tup H' i ds → Good ds → FlowAt H' a → Old a H H' → Q (.ref i) H'
theorem small200 {x : Int} (h : x ≤ 1000) : x < 2 ^ 200 := by
  have : (1000 : Int) < 2 ^ 200 := by decide
  omega
theorem But.old {a : Addr} {H H' : Hp} (h : But a H H') : Old a H H' := fun b o e ne => by rw [h b ne]; exact e
theorem Old.trans {a : Addr} {H H1 H2 : Hp} (h : Old a H H1) (g : Old a H1 H2) : Old a H H2 := fun b o e ne => g b o (h b o e ne) ne
/-! ### kept: all but lists stay, lists stay lists -/
def Kept (H H' : Hp) : Prop := (∀ b o, H b = some o → (∀ xs, o ≠ .lst xs) → H' b = some o) ∧ ∀ b xs, H b = some (.lst xs) → ∃ ys, H' b = some (.lst ys)
theorem Kept.trans {H H1 H2 : Hp} (a : Kept H H1) (b : Kept H1 H2) : Kept H H2 := ⟨fun c o e n => b.1 c o (a.1 c o e n) n, fun c xs e => let ⟨ys, e1⟩ := a.2 c xs e; b.2 c ys e1⟩
theorem Kept.of {H H' : Hp} (s : Same H H') : Kept H H' := ⟨fun b o e _ => s b o e, fun b xs e => ⟨xs, s b _ e⟩⟩
theorem Kept.but {a : Addr} {H H' : Hp} (h : But a H H') (f : FlowAt H a) (f' : FlowAt H' a) : Kept H H' := by
  obtain ⟨n, c, r, e0⟩ := f
  obtain ⟨n', c', r', e1⟩ := f'
  refine ⟨fun b o e ne => ?_, fun b xs e => ?_⟩
  · rw [h b (fun z => by rw [z, e0] at e; cases e; exact ne _ rfl)]
    exact e
  · by_cases z : b = a
    · rw [z]
      exact ⟨_, e1⟩
    · rw [h b z]
      exact ⟨xs, e⟩
theorem TyX.kept {K : PySem.W.Frag} {H H' : Hp} (s : Kept H H') {x : V} {t : Value} (h : TyX K H x t) : TyX K H' x t := by
  cases h with
  | base h =>
    refine .base ?_
    cases h with
    | non => exact .non
    | bl x => exact .bl x
    | int i => exact .int i
    | str x => exact .str x
    | flt x => exact .flt x
    | lst e => obtain ⟨ys, e1⟩ := s.2 _ _ e; exact .lst e1
    | frz e => exact .frz (s.1 _ _ e fun _ z => by cases z)
    | tup e => exact .tup (s.1 _ _ e fun _ z => by cases z)
    | dK e => exact .dK (s.1 _ _ e fun _ z => by cases z)
    | dT e => exact .dT (s.1 _ _ e fun _ z => by cases z)
    | ins e cl ha hn htk hm => exact .ins (s.1 _ _ e fun _ z => by cases z) cl ha hn htk hm
  | byt b => exact .byt b
  | set e => exact .set (s.1 _ _ e fun _ z => by cases z)
  | kList e c => exact .kList e c
  | kTuple e c => exact .kTuple e c
  | kDict e c => exact .kDict e c
  | fTuple e => exact .fTuple (s.1 _ _ e fun _ z => by cases z)
  | fDict e => exact .fDict (s.1 _ _ e fun _ z => by cases z)
theorem PlainI.kept {K : PySem.W.Frag} {H H' : Hp} (s : Kept H H') {x : V} {b : Bool} (h : PlainI K H x b) : PlainI K H' x b := let ⟨t, b1, ty, r⟩ := h; ⟨t, b1, TyX.kept s ty, r⟩
theorem InR.kept {K : PySem.W.Frag} {H H' : Hp} (s : Kept H H') {x : V} {lo hi : Int} {b : Bool} (h : InR K H x lo hi b) : InR K H' x lo hi b := h.elim .inl fun ⟨p, e⟩ => .inr ⟨PlainI.kept s p, e⟩
theorem SideV.kept {K : PySem.W.Frag} {H H' : Hp} (s : Kept H H') {x : V} {b : Bool} (h : SideV K H x b) : SideV K H' x b := by
  rcases h with ⟨a, xs, bs, e, hx, hl, hin, hb⟩ | ⟨t, ty, k, hb⟩
  · exact .inl ⟨a, xs, bs, e, s.1 _ _ hx (fun _ z => by cases z), hl, fun i v c h1 h2 => InR.kept s (hin i v c h1 h2), hb⟩
  · exact .inr ⟨t, TyX.kept s ty, k, hb⟩
theorem InR.true_int {K : PySem.W.Frag} {H : Hp} {x : V} {lo hi : Int} (h : InR K H x lo hi true) : ∃ i, x = .int i ∧ lo ≤ i ∧ i ≤ hi := by
  rcases h with ⟨i, e, hb⟩ | ⟨_, hb⟩
  · have := (Bool.and_eq_true_iff.mp hb.symm)
    exact ⟨i, e, of_decide_eq_true this.1, of_decide_eq_true this.2⟩
  · cases hb
/-! ### odd values -/
theorem Kept.old {a : Addr} {H H' : Hp} (h : Old a H H') (f : FlowAt H a) (f' : FlowAt H' a) : Kept H H' := by
  obtain ⟨n, c, r, e0⟩ := f
  obtain ⟨n', c', r', e1⟩ := f'
  refine ⟨fun b o e ne => h b o e (fun z => by rw [z, e0] at e; cases e; exact ne _ rfl), fun b xs e => ?_⟩
  by_cases z : b = a
  · rw [z]
    exact ⟨_, e1⟩
  · exact ⟨xs, h b _ e z⟩
def Ins (K : PySem.W.Frag) (H : Hp) (xs : List V) (bs : List Bool) : Prop := bs.length = xs.length ∧ ∀ (i : Nat) v c, xs[i]? = some v → bs[i]? = some c → InR K H v 1 4 c
section
variable {K : PySem.W.Frag} {H : Hp}
theorem Ins.app {xs ys : List V} {bs cs : List Bool} (h : Ins K H xs bs) (g : Ins K H ys cs) : Ins K H (xs ++ ys) (bs ++ cs) := by
  refine ⟨by rw [List.length_append, List.length_append, h.1, g.1], fun i v c e1 e2 => ?_⟩
  by_cases lt : i < xs.length
  · rw [List.getElem?_append_left lt] at e1
    rw [List.getElem?_append_left (by rw [h.1]; exact lt)] at e2
    exact h.2 i v c e1 e2
  · rw [List.getElem?_append_right (by omega)] at e1
    rw [List.getElem?_append_right (by rw [h.1]; omega), h.1] at e2
    exact g.2 _ v c e1 e2
theorem Ins.one {v : V} {c : Bool} (h : InR K H v 1 4 c) : Ins K H [v] [c] := by
  refine ⟨rfl, fun i x d e1 e2 => ?_⟩
  cases i with
  | zero =>
    cases e1
    cases e2
    exact h
  | succ n => simp at e1
theorem Ins.good {ds : List Int} (h : ∀ d ∈ ds, 1 ≤ d ∧ d ≤ 4) : Ins K H (ds.map V.int) (List.replicate ds.length true) := by
  refine ⟨by simp, fun i v c e1 e2 => ?_⟩
  rw [List.getElem?_map] at e1
  cases e : ds[i]? with
  | none =>
    rw [e] at e1
    cases e1
  | some z =>
    rw [e] at e1
    cases e1
    have hc : c = true := (List.mem_replicate.mp (List.mem_of_getElem? e2)).2
    subst hc
    have hz := h z (List.mem_of_getElem? e)
    exact InR.good hz.1 hz.2
theorem side_no {p : Addr} {xs : List V} {bs : List Bool} (h : H p = some (.tup xs)) (i : Ins K H xs bs) (hb : (decide (1 ≤ xs.length) && decide (xs.length ≤ 4) && bs.all id) = false) : SideV K H (.ref p) false := .inl ⟨p, xs, bs, rfl, h, i.1, i.2, hb.symm⟩
theorem side_ty {x : V} {t : Value} (ty : TyX K H x t) (k : PySem.W.kitOne K t (.type "tuple") = some false) : SideV K H x false := .inr ⟨t, ty, k, rfl⟩
theorem in_ty {x : V} {t : Value} {lo hi : Int} (ty : TyX K H x t) (k : PySem.W.kitOne K t (.type "int") = some false) : InR K H x lo hi false := .inr ⟨⟨t, false, ty, k, fun _ => rfl, (fun h => nomatch h)⟩, rfl⟩
theorem in_bl {b : Bool} {lo hi : Int} : InR K H (.bl b) lo hi false := .inr ⟨⟨.type "bool", true, .base (.bl b), kit_ty (by decide +kernel), (fun h => nomatch h), fun _ => ⟨true, kit_ty (by decide +kernel), rfl⟩⟩, rfl⟩
theorem in_out {i lo hi : Int} (h : ¬ (lo ≤ i ∧ i ≤ hi)) : InR K H (.int i) lo hi false := .inl ⟨i, rfl, by
  by_cases a : lo ≤ i
  · rw [decide_eq_false (fun b => h ⟨a, b⟩), Bool.and_false]
  · rw [decide_eq_false a, Bool.false_and]⟩
end
theorem cut_to (xs : List V) {k : Int} (h : 0 ≤ k) : cutV xs none (some k) = xs.take k.toNat := by
  unfold cutV
  rw [HT.sIx_none]
  show List.take ((if k < 0 then (k + (xs.length : Int)).toNat else min k.toNat xs.length) - 0) (xs.drop 0) = _
  rw [if_neg (by omega), List.drop_zero, Nat.sub_zero]
  by_cases c : k.toNat ≤ xs.length
  · rw [Nat.min_eq_left c]
  · rw [Nat.min_eq_right (by omega), List.take_length, List.take_of_length_le (by omega)]
theorem cut_from (xs : List V) {k : Int} (h : 0 ≤ k) : cutV xs (some k) none = xs.drop k.toNat := by
  unfold cutV
  rw [HT.sIx_none]
  show List.take (xs.length - (if k < 0 then (k + (xs.length : Int)).toNat else min k.toNat xs.length)) (xs.drop (if k < 0 then (k + (xs.length : Int)).toNat else min k.toNat xs.length)) = _
  rw [if_neg (by omega)]
  by_cases c : k.toNat ≤ xs.length
  · rw [Nat.min_eq_left c, List.take_of_length_le (by rw [List.length_drop]; exact Nat.le_refl _)]
  · rw [Nat.min_eq_right (by omega), List.drop_of_length_le (Nat.le_refl _), List.drop_of_length_le (by omega)]
    simp
theorem pickL {xs : List V} {j : Int} (h0 : 0 ≤ j) (h1 : j < (xs.length : Nat)) : ∃ v, v ∈ xs ∧ atI xs j = some v := by
  obtain ⟨n, rfl⟩ := Int.eq_ofNat_of_zero_le h0
  have hn : n < xs.length := by omega
  exact ⟨xs[n], List.getElem_mem hn, atI_nat (List.getElem?_eq_getElem hn)⟩
theorem FlowAt.same {a : Addr} {H H' : Hp} (f : FlowAt H a) (s : Same H H') : FlowAt H' a := let ⟨x, y, z, e⟩ := f; ⟨x, y, z, s _ _ e⟩
theorem FlowAt.ne {a b : Addr} {H : Hp} (f : FlowAt H a) (h : H b = none) : b ≠ a := fun z => by
  obtain ⟨x, y, r, e⟩ := f
  rw [z, e] at h
  cases h
theorem tup_ne {a b : Addr} {H : Hp} {xs : List V} (f : FlowAt H a) (h : H b = some (.tup xs)) : b ≠ a := fun z => by
  obtain ⟨x, y, r, e⟩ := f
  rw [z, e] at h
  cases h
theorem at_st {t : TS} {D : Ends} {σ σ' : L2.St} {H : Hp} (e : σ = σ') (h : t D σ' H) : t D σ H := by subst e; exact h
theorem same_old {a : Addr} {H H' : Hp} (s : Same H H') : Old a H H' := fun b o e _ => s b o e
/-- another class whose instances stand among the odd values -/
structure Oth (K : PySem.W.Frag) (C2 : Addr) : Prop where
  ty : ∀ {H : Hp} {p dx : Addr} {fs : List (Str × V)}, H p = some (.ins C2 dx fs) → TyX K H (.ref p) (.ref C2)
  kT : PySem.W.kitOne K (.ref C2) (.type "tuple") = some false
  kI : PySem.W.kitOne K (.ref C2) (.type "int") = some false
/-- Share(n) -/
def spSh (C2 : Addr) : Sp := fun vs H Q _ => ∃ (p dx : Addr) (i : Int), vs = [.ref p, .int i] ∧ H p = some (.ins C2 dx []) ∧ ∀ H' dx' fs, H' p = some (.ins C2 dx' fs) → Old p H H' → Q .non H'
theorem new_sh1 {C2 : Addr} {H : Hp} {R : VK} {E : XK} {x dx : Addr} {i : Int} (hx : H x = none) (hdx : H dx = none) (q : ∀ H' dx' fs, H' x = some (.ins C2 dx' fs) → Same H H' → R .non H') : spSh C2 (.ref x :: [.int i]) (upd (upd H dx (.own x)) x (.ins C2 dx [])) R E :=
  ⟨x, dx, i, rfl, upd_same, fun H' dx' fs e old => q H' dx' fs e (Same.made hx hdx old)⟩
def spBad (K : PySem.W.Frag) : Sp := fun vs H Q _ => ∃ (a g : Addr) (ds : List Int), vs = [.ref a, .ref g] ∧ FlowAt H a ∧ Tup H g ds ∧ Good ds ∧ ∀ v H', SideV K H' v false → FlowAt H' a → Old a H H' → Q v H'
def spLaw (K : PySem.W.Frag) : Sp := fun vs H Q _ => ∃ (a : Addr) (ns : List Int), vs = [.ref a] ∧ SqL K H a (ns.map V.int) ∧ ns.length ≤ 63 ∧ ∀ H', Q (.bl true) H'
theorem sqlS {K : PySem.W.Frag} {H H' : Hp} {a : Addr} {xs : List V} (h : SqL K H a xs) (e : Same H H') : SqL K H' a xs :=
  h.elim (fun h => .inl (h.elim (fun h => .inl (e _ _ h)) fun ⟨o, h⟩ => .inr ⟨o, e _ _ h⟩)) fun h => .inr h
end Gn
set_option Elab.async false
set_option linter.all false
set_option maxRecDepth 100000
set_option maxHeartbeats 4000000
/-! The promises of pairs, loads, standings. -/
namespace Gn
open PySem PySem.Spec PyProof.Rows L2 Com Sd StV
abbrev Frg := PySem.W.Frag
def NoTup (K : Frg) (H : Hp) (v : V) : Prop := ∃ t, TyX K H v t ∧ PySem.W.kitOne K t (.type "tuple") = some false
theorem NoTup.same {K : Frg} {H H' : Hp} (s : Same H H') {v : V} (h : NoTup K H v) : NoTup K H' v := let ⟨t, a, b⟩ := h; ⟨t, TyX.same s a, b⟩
/-- is_pair's answer for any value -/
def PairJ (K : Frg) (H : Hp) (n m : Nat) (v : V) (b : Bool) : Prop :=
  (∃ a x y b1 b2, v = .ref a ∧ H a = some (.tup [x, y]) ∧ InR K H x 0 ((n : Nat) - 1) b1 ∧ InR K H y 0 ((m : Nat) - 1) b2 ∧ b = (b1 && b2)) ∨
  (∃ a xs, v = .ref a ∧ H a = some (.tup xs) ∧ xs.length ≠ 2 ∧ b = false) ∨
  (NoTup K H v ∧ b = false)
theorem PairJ.same {K : Frg} {H H' : Hp} (s : Same H H') {n m : Nat} {v : V} {b : Bool} (h : PairJ K H n m v b) : PairJ K H' n m v b := by
  rcases h with ⟨a, x, y, b1, b2, e, h, i, j, z⟩ | ⟨a, xs, e, h, l, z⟩ | ⟨h, z⟩
  · exact .inl ⟨a, x, y, b1, b2, e, s _ _ h, i.same s, j.same s, z⟩
  · exact .inr (.inl ⟨a, xs, e, s _ _ h, l, z⟩)
  · exact .inr (.inr ⟨h.same s, z⟩)
theorem PairJ.good {K : Frg} {H : Hp} {n m : Nat} {v : V} {p : PP} (h : PairV H v p) (g : InP n m p) : PairJ K H n m v true := by
  obtain ⟨a, e, x⟩ := h
  obtain ⟨g1, g2, g3, g4⟩ := g
  exact .inl ⟨a, _, _, true, true, e, x, InR.good g1 (by omega), InR.good g3 (by omega), rfl⟩
def ascB (L : List PP) : Bool := decide ((L.map (·.1)).Pairwise (· < ·)) && decide (L.map (·.2)).Nodup
theorem ascB_ok {n m : Nat} {L : List PP} (h : LoadOk n m L) : ascB L = true := by
  unfold ascB
  rw [decide_eq_true h.asc, decide_eq_true h.nd]
  rfl
/-- is_load's answer for any value -/
def LoadJ (K : Frg) (H : Hp) (n m : Nat) (v : V) (b : Bool) : Prop :=
  (∃ a xs, v = .ref a ∧ H a = some (.tup xs) ∧ n < xs.length ∧ b = false) ∨
  (∃ (a : Addr) (xs : List V) (bs : List Bool), v = .ref a ∧ H a = some (.tup xs) ∧ xs.length ≤ n ∧ bs.length = xs.length ∧ (∀ (i : Nat) v c, xs[i]? = some v → bs[i]? = some c → PairJ K H n m v c) ∧ bs.all id = false ∧ b = false) ∨
  (∃ L, LoadV H v L ∧ L.length ≤ n ∧ (∀ p ∈ L, InP n m p) ∧ b = ascB L) ∨
  (NoTup K H v ∧ b = false)
theorem LoadJ.same {K : Frg} {H H' : Hp} (s : Same H H') {n m : Nat} {v : V} {b : Bool} (h : LoadJ K H n m v b) : LoadJ K H' n m v b := by
  rcases h with ⟨a, xs, e, h, l, z⟩ | ⟨a, xs, bs, e, h, l, l2, j, z⟩ | ⟨L, h, l, g, z⟩ | ⟨h, z⟩
  · exact .inl ⟨a, xs, e, s _ _ h, l, z⟩
  · exact .inr (.inl ⟨a, xs, bs, e, s _ _ h, l, l2, fun i v c a b => (j i v c a b).same s, z⟩)
  · exact .inr (.inr (.inl ⟨L, h.same s, l, g, z⟩))
  · exact .inr (.inr (.inr ⟨h.same s, z⟩))
theorem LoadJ.good {K : Frg} {H : Hp} {n m : Nat} {v : V} {L : List PP} (h : LoadV H v L) (g : LoadOk n m L) : LoadJ K H n m v true :=
  .inr (.inr (.inl ⟨L, h, g.len, g.rng, (ascB_ok g).symm⟩))
def doorB (ds es : List Int) (S : List (List PP)) : Bool := decide (∀ d ∈ left ds (fs S), 0 ≤ d) && decide (∀ d ∈ left es (sn S), 0 ≤ d)
/-- is_standing's answer for any value -/
def StaJ (K : Frg) (H : Hp) (ds es : List Int) (mid : Int) (v : V) (b : Bool) : Prop :=
  (∃ a xs, v = .ref a ∧ H a = some (.tup xs) ∧ ((xs.length : Nat) : Int) ≠ mid ∧ b = false) ∨
  (∃ (a : Addr) (xs : List V) (bs : List Bool), v = .ref a ∧ H a = some (.tup xs) ∧ ((xs.length : Nat) : Int) = mid ∧ bs.length = xs.length ∧ (∀ (i : Nat) v c, xs[i]? = some v → bs[i]? = some c → LoadJ K H ds.length es.length v c) ∧ bs.all id = false ∧ b = false) ∨
  (∃ S, StaV H v S ∧ ((S.length : Nat) : Int) = mid ∧ (∀ L ∈ S, LoadOk ds.length es.length L) ∧ b = doorB ds es S) ∨
  (NoTup K H v ∧ b = false)
theorem StaJ.same {K : Frg} {H H' : Hp} (s : Same H H') {ds es : List Int} {mid : Int} {v : V} {b : Bool} (h : StaJ K H ds es mid v b) : StaJ K H' ds es mid v b := by
  rcases h with ⟨a, xs, e, h, l, z⟩ | ⟨a, xs, bs, e, h, l, l2, j, z⟩ | ⟨L, h, l, g, z⟩ | ⟨h, z⟩
  · exact .inl ⟨a, xs, e, s _ _ h, l, z⟩
  · exact .inr (.inl ⟨a, xs, bs, e, s _ _ h, l, l2, fun i v c a b => (j i v c a b).same s, z⟩)
  · exact .inr (.inr (.inl ⟨L, h.same s, l, g, z⟩))
  · exact .inr (.inr (.inr ⟨h.same s, z⟩))
theorem StaJ.good {K : Frg} {H : Hp} {ds es : List Int} {mid : Int} {v : V} {S : List (List PP)} (h : StaV H v S) (g : StdOk ds es mid S) : StaJ K H ds es mid v true := by
  refine .inr (.inr (.inl ⟨S, h, g.len, g.ld, ?_⟩))
  unfold doorB
  rw [decide_eq_true g.ci, decide_eq_true g.co]
  rfl
def Rng (n m : Nat) (S : List (List PP)) : Prop := ∀ L ∈ S, ∀ p ∈ L, InP n m p
theorem Rng.of {ds es : List Int} {mid : Int} {S : List (List PP)} (g : StdOk ds es mid S) : Rng ds.length es.length S := fun L hL => (g.ld L hL).rng
def LisI (H : Hp) (a : Addr) (ds : List Int) : Prop := H a = some (.lst (ds.map V.int))
def spIsPair (K : Frg) (C : Addr) : Sp := fun vs H Q _ => ∃ (p i o : Addr) (ds es : List Int) (m : Int) (v : V) (b : Bool), vs = [.ref p, v] ∧ ExAt C H p i o ds es m ∧ PairJ K H ds.length es.length v b ∧ Q (.bl b) H
def spIsLoad (K : Frg) (C : Addr) : Sp := fun vs H Q _ => ∃ (p i o : Addr) (ds es : List Int) (m : Int) (v : V) (b : Bool), vs = [.ref p, v] ∧ ExAt C H p i o ds es m ∧ LoadJ K H ds.length es.length v b ∧ ∀ H', Same H H' → Q (.bl b) H'
def spIsStanding (K : Frg) (C : Addr) : Sp := fun vs H Q _ => ∃ (p i o : Addr) (ds es : List Int) (m : Int) (v : V) (b : Bool), vs = [.ref p, v] ∧ ExAt C H p i o ds es m ∧ StaJ K H ds es m v b ∧ ∀ H', Same H H' → Q (.bl b) H'
/-- (ins, outs): two new lists -/
def spDoorsLeft (C : Addr) : Sp := fun vs H Q _ => ∃ (p i o : Addr) (ds es : List Int) (m : Int) (v : V) (S : List (List PP)), vs = [.ref p, v] ∧ ExAt C H p i o ds es m ∧ StaV H v S ∧ Rng ds.length es.length S ∧
  ∀ t a b H', H a = none → H b = none → a ≠ b → H' t = some (.tup [.ref a, .ref b]) → LisI H' a (left ds (fs S)) → LisI H' b (left es (sn S)) → Same H H' → Q (.ref t) H'
def spSta (C : Addr) (R : (ds es : List Int) → (S : List (List PP)) → Hp → VK → Prop) : Sp := fun vs H Q _ => ∃ (p i o : Addr) (ds es : List Int) (m : Int) (v : V) (S : List (List PP)), vs = [.ref p, v] ∧ ExAt C H p i o ds es m ∧ StaV H v S ∧ StdOk ds es m S ∧ R ds es S H Q
def spStaP (C : Addr) (R : (ds es : List Int) → (S : List (List PP)) → PP → Hp → VK → Prop) : Sp := fun vs H Q _ => ∃ (p i o : Addr) (ds es : List Int) (m : Int) (v : V) (S : List (List PP)) (u : V) (pr : PP), vs = [.ref p, v, u] ∧ ExAt C H p i o ds es m ∧ StaV H v S ∧ StdOk ds es m S ∧ PairV H u pr ∧ InP ds.length es.length pr ∧ R ds es S pr H Q
/-- a new list of ints -/
def newI (ns : List Int) (H : Hp) (Q : VK) : Prop := ∀ q H', H q = none → LisI H' q ns → Same H H' → Q (.ref q) H'
/-- a new list of pairs -/
def newP (ps : List PP) (H : Hp) (Q : VK) : Prop := ∀ q us H', H q = none → H' q = some (.lst us) → PairsV H' us ps → Same H H' → Q (.ref q) H'
def newB (b : Bool) (H : Hp) (Q : VK) : Prop := ∀ H', Same H H' → Q (.bl b) H'
def openB (ds es : List Int) (S : List (List PP)) (p : PP) : Bool := decide (0 < (left ds (fs S)).getD p.1.toNat 0) && decide (0 < (left es (sn S)).getD p.2.toNat 0)
def opens (ds es : List Int) (S : List (List PP)) : List PP := (pairsL ds.length es.length).filter (openB ds es S)
def spChkS (C : Addr) : Sp := spSta C fun _ _ _ H Q => ∀ H', Same H H' → Q .non H'
def spChkP (C : Addr) : Sp := fun vs H Q _ => ∃ (p i o : Addr) (ds es : List Int) (m : Int) (u : V) (pr : PP), vs = [.ref p, u] ∧ ExAt C H p i o ds es m ∧ PairV H u pr ∧ InP ds.length es.length pr ∧ ∀ H', Same H H' → Q .non H'
def spCalls (C : Addr) : Sp := spSta C fun _ _ S H Q => newP (srt S.flatten) H Q
def spFreeDoors (C : Addr) : Sp := spSta C fun ds es S H Q => ∀ t a b H', H a = none → H b = none → a ≠ b → H' t = some (.tup [.ref a, .ref b]) → LisI H' a (left ds (fs S)) → LisI H' b (left es (sn S)) → Same H H' → Q (.ref t) H'
def spFreeMid (C : Addr) : Sp := spStaP C fun _ _ S p H Q => newI (frees S p) H Q
def barB (ds es : List Int) (S : List (List PP)) (p : PP) : Bool := openB ds es S p && decide (frees S p = [])
def spBarred (C : Addr) : Sp := spStaP C fun ds es S p H Q => newB (barB ds es S p) H Q
def spOpenPairs (C : Addr) : Sp := spSta C fun ds es S H Q => newP (opens ds es S) H Q
/-- a load, as a list or as a tuple -/
def LoadX (H : Hp) (v : V) (L : List PP) : Prop := ∃ b us, v = .ref b ∧ (H b = some (.lst us) ∨ H b = some (.tup us)) ∧ PairsV H us L
def spIsFree : Sp := fun vs H Q _ => ∃ (v u : V) (L : List PP) (p : PP), vs = [v, u] ∧ LoadX H v L ∧ L.length ≤ 500 ∧ PairV H u p ∧ newB (freeB L p) H Q
def spFreeFor : Sp := fun vs H Q _ => ∃ (v u : V) (S : List (List PP)) (p : PP), vs = [v, u] ∧ StaV H v S ∧ S.length ≤ 500 ∧ (∀ L ∈ S, L.length ≤ 500) ∧ PairV H u p ∧ newI (frees S p) H Q
theorem LoadV.x {H : Hp} {v : V} {L : List PP} (h : LoadV H v L) : LoadX H v L := let ⟨b, us, e, x, p⟩ := h; ⟨b, us, e, .inr x, p⟩
theorem atI_at {ds : List Int} {n : Nat} {i x : Int} (e : i = (n : Int)) (h : ds[n]? = some x) : atI (ds.map V.int) i = some (V.int x) := by
  subst e
  exact atI_nat (by rw [List.getElem?_map, h]; rfl)
theorem ixN_at {ds : List Int} {n : Nat} {i x : Int} (e : i = (n : Int)) (h : ds[n]? = some x) : ixN (ds.map V.int).length i = some n := by
  subst e
  have hl : n < ds.length := (List.getElem?_eq_some_iff.mp h).1
  unfold ixN
  rw [if_pos (by omega), if_pos (by rw [List.length_map]; omega)]
  simp
theorem set_int (ds : List Int) (n : Nat) (y : Int) : (ds.map V.int).set n (V.int y) = (ds.set n y).map V.int := by rw [List.map_set]
/-! ### walked: a list or a tuple -/
def iSeq (K : Frg) (tl : TE) : TI := fun σ H R => tl σ H fun x H1 => ∃ a, x = .ref a ∧ ((∃ xs, SqL K H1 a xs ∧ R (Itl K a) H1) ∨ (∃ xs, SqT K H1 a xs ∧ R (Itt K a) H1))
theorem pi_seq {X : Cx} (K : Frg) {tg l : Expr} {tl : TE} (hl : PE X l tl) (hK : X.K = K := by rfl) : PI X tg l (iSeq K tl) := by
  subst hK
  refine ⟨fun pins s σ H R I h => ?_⟩
  refine thn (hl.run pins s σ H _ I h) fun v s1 ⟨x, H1, I1, r1, q1⟩ => ?_
  obtain ⟨a, e, q1⟩ := q1
  subst e
  cases r1
  rcases q1 with ⟨xs, hq, q⟩ | ⟨xs, hq, q⟩
  · obtain ⟨its, rv, p, hz⟩ := I1.list hq
    refine wpAny_pyIter_list p.isList ?_
    refine ⟨s1.heap.objs.size, [s1.heap.objs.size], _, _, H1, rfl, I1.kept (t' := s1.toks) fun b o e => Heap.get?_push_of_some _ e, turn_list a _, ⟨_, Heap.get?_push_size _ rfl, rfl, rfl⟩, fun b hb => ?_, q⟩
    have e : b = s1.heap.objs.size := by simpa using hb
    subst e
    exact I1.fpOk (Nat.le_refl _) (I1.hok.fresh (Nat.le_refl _))
  · obtain ⟨its, rv, p, hz⟩ := I1.tuple hq
    refine wpAny_pyIter_tuple (show s1.heap.IsTuple a its.toArray from p) ?_
    refine ⟨s1.heap.objs.size, [s1.heap.objs.size], _, _, H1, rfl, I1.kept (t' := s1.toks) fun b o e => Heap.get?_push_of_some _ e, turn_tuple a _, ⟨_, Heap.get?_push_size _ rfl, rfl, rfl⟩, fun b hb => ?_, q⟩
    have e : b = s1.heap.objs.size := by simpa using hb
    subst e
    exact I1.fpOk (Nat.le_refl _) (I1.hok.fresh (Nat.le_refl _))
/-- a comprehension's walk over enumerate(tuple) -/
theorem lp_enumT {K : Frg} {a : Addr} {xs : List V} {H0 : Hp} {Qd : Hp → Prop} {B : V → Hp → (Hp → Prop) → Prop} (Pv : Nat → Hp → Prop) (h0 : Pv 0 H0) (hl : ∀ i H, i ≤ xs.length → Pv i H → SqT K H a xs)
    (hs : ∀ i x H T, xs[i]? = some x → Pv i H → H T = none → B (.ref T) (upd H T (.tup [.int (i : Nat), x])) (Pv (i + 1))) (hd : ∀ H, Pv xs.length H → Qd H) :
    ∃ W : Nat → Nat → Hp → Prop, (∃ m, W 0 m H0) ∧ ∀ i m H, W i m H → ((Ext.Iet K a).stop i H ∧ Qd H) ∨ ((Ext.Iet K a).go i H ∧ ∃ Nx : Hp → Prop, (∀ H', Nx H' → ∃ m', m' < m ∧ W (i + 1) m' H') ∧ ∀ x H', (Ext.Iet K a).yld i H x H' → B x H' Nx) := by
  refine ⟨fun i m H => m = xs.length - i ∧ i ≤ xs.length ∧ Pv i H, ⟨xs.length, by simp, Nat.zero_le _, h0⟩, ?_⟩
  rintro i m H ⟨rfl, hi, p⟩
  have q := hl i H hi p
  by_cases hlt : i < xs.length
  · refine .inr ⟨⟨xs, xs[i], q, by simp [hlt]⟩, Pv (i + 1), fun H' p' => ⟨xs.length - (i + 1), by omega, rfl, hlt, p'⟩, fun x H' y => ?_⟩
    obtain ⟨T, z, e, hT, e2, y⟩ := y
    subst e
    subst e2
    exact hs i z _ T (y xs q) p hT
  · have e : i = xs.length := by omega
    subst e
    exact .inl ⟨⟨xs, q, Nat.le_refl _⟩, hd H p⟩
/-- the new list of a comprehension grows: all else stays -/
theorem Same.grow {H H1 : Hp} {D : Addr} {o : HO} (hD : H D = none) (s : Same H H1) : Same H (upd H1 D o) := fun b u e => by
  rw [upd_ne (ne_of_none e hD)]
  exact s b u e
end Gn
namespace Gn
open PySem PySem.Spec PyProof.Rows L2 Com Sd StV
theorem pairsL_iff {n m : Nat} {p : PP} : p ∈ pairsL n m ↔ InP n m p := by
  unfold pairsL rowL InP
  rw [List.mem_flatMap]
  constructor
  · rintro ⟨i, hi, hp⟩
    obtain ⟨j, hj, rfl⟩ := List.mem_map.mp hp
    rw [List.mem_range] at hi hj
    refine ⟨?_, ?_, ?_, ?_⟩ <;> simp <;> omega
  · rintro ⟨h1, h2, h3, h4⟩
    refine ⟨p.1.toNat, List.mem_range.mpr (by omega), List.mem_map.mpr ⟨p.2.toNat, List.mem_range.mpr (by omega), ?_⟩⟩
    exact Prod.ext (by show ((p.1.toNat : Nat) : Int) = p.1; omega) (by show ((p.2.toNat : Nat) : Int) = p.2; omega)
theorem pairsL_in {n m : Nat} {p : PP} (h : p ∈ pairsL n m) : InP n m p := pairsL_iff.mp h
theorem pairsL_mem {n m : Nat} {p : PP} (h : InP n m p) : p ∈ pairsL n m := pairsL_iff.mpr h
end Gn
set_option Elab.async false
set_option linter.all false
set_option maxRecDepth 100000
set_option maxHeartbeats 4000000
/-! The promises of the laws' own helpers that draw and count. -/
namespace Gn
open PySem PySem.Spec PyProof.Rows L2 Com Sd StV
def spExchange (C : Addr) : Sp := fun vs H Q _ => ∃ (a : Addr) (most d mid : Int), vs = [.ref a, .int most, .int d, .int mid] ∧ FlowAt H a ∧ 1 ≤ most ∧ most ≤ 4 ∧ 1 ≤ d ∧ d ≤ 4 ∧ 1 ≤ mid ∧ mid ≤ 7 ∧
  ∀ p i o ds es m H', H p = none → ExAt C H' p i o ds es m → FlowAt H' a → Old a H H' → Q (.ref p) H'
def spLoads : Sp := fun vs H Q _ => ∃ (a i o : Addr) (ds es : List Int) (m many : Int), vs = [.ref a, .ref i, .ref o, .int m, .int many] ∧ FlowAt H a ∧ Tup H i ds ∧ Good ds ∧ Tup H o es ∧ Good es ∧ 1 ≤ m ∧ m ≤ 7 ∧ 0 ≤ many ∧ many ≤ 1000 ∧
  ∀ v S H', StaV H' v S → StdOk ds es m S → FlowAt H' a → Old a H H' → Q v H'
def spLCalls : Sp := fun vs H Q _ => ∃ (v : V) (S : List (List PP)), vs = [v] ∧ StaV H v S ∧ S.length ≤ 100 ∧ (∀ L ∈ S, L.length ≤ 5) ∧ newP (srt S.flatten) H Q
/-- [ins, outs]: three new lists -/
def spLLeft (C : Addr) : Sp := spSta C fun ds es S H Q => ∀ t a b H', H' t = some (.lst [.ref a, .ref b]) → LisI H' a (left ds (fs S)) → LisI H' b (left es (sn S)) → Same H H' → Q (.ref t) H'
def spLOpen (C : Addr) : Sp := spStaP C fun ds es S p H Q => newB (openB ds es S p) H Q
def spLMid : Sp := fun vs H Q _ => ∃ (v u : V) (S : List (List PP)) (p : PP), vs = [v, u] ∧ StaV H v S ∧ S.length ≤ 500 ∧ (∀ L ∈ S, L.length ≤ 500) ∧ PairV H u p ∧ newI (frees S p) H Q
def spFlag : Sp := fun vs H Q _ => ∃ a b : Bool, vs = [.bl a, .bl b] ∧ Q (.bl (decide (a = b))) H
def spInts : Sp := fun vs H Q _ => ∃ (a : Addr) (ds : List Int), vs = [.ref a] ∧ LisI H a ds ∧ ds.length ≤ 500 ∧ newB true H Q
/-- lists of loads, each of its own, none of them one of the five -/
def LoadsL (a A L0 I0 I1 : Addr) (H : Hp) : List V → List (List PP) → Prop := Paired fun v L => ∃ b us, v = .ref b ∧ H b = some (.lst us) ∧ PairsV H us L ∧ b ≠ a ∧ b ≠ A ∧ b ≠ L0 ∧ b ≠ I0 ∧ b ≠ I1
theorem LoadsL.fr {a A L0 I0 I1 : Addr} {H H' : Hp} (s : ∀ b u, H b = some u → b ≠ a → b ≠ A → b ≠ L0 → b ≠ I0 → b ≠ I1 → H' b = some u) (t : TupS H H') {vs : List V} {S : List (List PP)} (h : LoadsL a A L0 I0 I1 H vs S) : LoadsL a A L0 I0 I1 H' vs S :=
  paired_imp (fun _ _ ⟨b, us, e, hb, hp, n1, n2, n3, n4, n5⟩ => ⟨b, us, e, s b _ hb n1 n2 n3 n4 n5, PairsV.mono t hp, n1, n2, n3, n4, n5⟩) h
/-- the five apart, and new -/
structure Apart (H : Hp) (a A L0 I0 I1 : Addr) : Prop where
  nA : H A = none
  nL : H L0 = none
  n0 : H I0 = none
  n1 : H I1 = none
  aA : a ≠ A
  aL : a ≠ L0
  a0 : a ≠ I0
  a1 : a ≠ I1
  AL : A ≠ L0
  A0 : A ≠ I0
  A1 : A ≠ I1
  L0' : L0 ≠ I0
  L1 : L0 ≠ I1
  I01 : I0 ≠ I1
structure LdI (a A L0 I0 I1 : Addr) (ds es : List Int) (m : Int) (H H' : Hp) (S : List (List PP)) (vs : List V) : Prop where
  fl : FlowAt H' a
  hA : H' A = some (.lst vs)
  hS : LoadsL a A L0 I0 I1 H' vs S
  hL : H' L0 = some (.lst [.ref I0, .ref I1])
  h0 : LisI H' I0 (left ds (fs S))
  h1 : LisI H' I1 (left es (sn S))
  ok : StdOk ds es m S
  old : Old a H H'
section
variable {a A L0 I0 I1 : Addr} {ds es : List Int} {m : Int} {H H' H2 : Hp} {S : List (List PP)} {vs : List V}
theorem TupS.but (h : But a H H2) (f : FlowAt H a) : TupS H H2 := fun b xs e => by rw [h b (tup_ne f e)]; exact e
theorem LdI.but (Z : Apart H a A L0 I0 I1) (I : LdI a A L0 I0 I1 ds es m H H' S vs) (b : But a H' H2) (f : FlowAt H2 a) : LdI a A L0 I0 I1 ds es m H H2 S vs :=
  ⟨f, by rw [b A Z.aA.symm]; exact I.hA, LoadsL.fr (fun c u e n _ _ _ _ => by rw [b c n]; exact e) (TupS.but b I.fl) I.hS, by rw [b L0 Z.aL.symm]; exact I.hL, by show H2 I0 = _; rw [b I0 Z.a0.symm]; exact I.h0, by show H2 I1 = _; rw [b I1 Z.a1.symm]; exact I.h1, I.ok, Old.trans I.old (But.old b)⟩
theorem LdI.same (I : LdI a A L0 I0 I1 ds es m H H' S vs) (s : Same H' H2) : LdI a A L0 I0 I1 ds es m H H2 S vs :=
  ⟨FlowAt.same I.fl s, s _ _ I.hA, LoadsL.fr (fun c u e _ _ _ _ _ => s c u e) (TupS.of s) I.hS, s _ _ I.hL, s _ _ I.h0, s _ _ I.h1, I.ok, Old.trans I.old (same_old s)⟩
/-- the load k gets the pair: a new list q stands there, both counts go down -/
theorem LdI.put (Z : Apart H a A L0 I0 I1) (I : LdI a A L0 I0 I1 ds es m H H' S vs) {k : Nat} {L : List PP} {p : PP} {x y : Int} {q : Addr} {us : List V} (hk : S[k]? = some L) (hp : InP ds.length es.length p) (hf : freeB L p = true)
    (hx : (left ds (fs S))[p.1.toNat]? = some x) (x0 : 0 < x) (hy : (left es (sn S))[p.2.toNat]? = some y) (y0 : 0 < y) (hq : H' q = some (.lst us)) (hu : PairsV H' us (srt (L ++ [p]))) (nq : q ≠ a ∧ q ≠ A ∧ q ≠ L0 ∧ q ≠ I0 ∧ q ≠ I1) :
    LdI a A L0 I0 I1 ds es m H (upd (upd (upd H' A (.lst (vs.set k (.ref q)))) I0 (.lst (((left ds (fs S)).set p.1.toNat (x - 1)).map V.int))) I1 (.lst (((left es (sn S)).set p.2.toNat (y - 1)).map V.int))) (S.set k (srt (L ++ [p]))) (vs.set k (.ref q)) := by
  obtain ⟨o1, o2, o3⟩ := I.ok.set hk hp hf hx x0 hy y0
  have off : ∀ b, b ≠ A → b ≠ I0 → b ≠ I1 → upd (upd (upd H' A (.lst (vs.set k (.ref q)))) I0 (.lst (((left ds (fs S)).set p.1.toNat (x - 1)).map V.int))) I1 (.lst (((left es (sn S)).set p.2.toNat (y - 1)).map V.int)) b = H' b := fun b e1 e2 e3 => by
    rw [upd_ne e3, upd_ne e2, upd_ne e1]
  have ts : TupS H' (upd (upd (upd H' A (.lst (vs.set k (.ref q)))) I0 (.lst (((left ds (fs S)).set p.1.toNat (x - 1)).map V.int))) I1 (.lst (((left es (sn S)).set p.2.toNat (y - 1)).map V.int))) := fun b xs e => by
    rw [off b (fun z => by rw [z, I.hA] at e; cases e) (fun z => by rw [z, I.h0] at e; cases e) (fun z => by rw [z, I.h1] at e; cases e)]
    exact e
  refine ⟨?_, ?_, ?_, ?_, ?_, ?_, o1, ?_⟩
  · obtain ⟨u, v, w, e⟩ := I.fl
    exact ⟨u, v, w, by rw [off a Z.aA Z.a0 Z.a1]; exact e⟩
  · rw [upd_ne Z.A1, upd_ne Z.A0, upd_same]
  · refine paired_set ⟨q, us, rfl, ?_, PairsV.mono ts hu, nq⟩ (LoadsL.fr (fun b u e n1 n2 n3 n4 n5 => by rw [off b n2 n4 n5]; exact e) ts I.hS)
    rw [off q nq.2.1 nq.2.2.2.1 nq.2.2.2.2]
    exact hq
  · rw [off L0 Z.AL.symm Z.L0' Z.L1]
    exact I.hL
  · show upd _ _ _ _ = _
    rw [upd_ne Z.I01, upd_same, o2]
  · show upd _ _ _ _ = _
    rw [upd_same, o3]
  · intro b u e ne
    rw [off b (ne_of_none e Z.nA) (ne_of_none e Z.n0) (ne_of_none e Z.n1)]
    exact I.old b u e ne
end
end Gn
namespace Gn
open PySem PySem.Spec PyProof.Rows L2 Com Sd StV
/-! ### defs called by names -/
structure KwD (P : Program) (w : World) (K : Frg) (mg : Str → Option Value) (base : Heap) (CX : CXT) (k : Nat) (x : Str) (n : Nat) (ks : List Str) (gV : List V → List V → List V) (sp : Sp) : Prop where
  ex : ∃ (f : Addr) (fd : FuncData) (ps : List Str) (g : List Value → List Value → List Value), FnOk P w K mg base CX k f fd ps sp ∧ mg x = some (.ref f) ∧ PySem.W.keepIn K (.ref f) = true ∧ KBn K fd ps n ks g gV
def app {α : Type} (us ws : List α) : List α := us ++ ws
theorem app_rel {vs : List V} {us : List Value} {zs : List V} {ws : List Value} (r1 : Vals vs us) (r2 : Vals zs ws) : Vals (app vs zs) (app us ws) := r1.append r2
theorem pe_kwD {X : Cx} {CX : CXT} {k j n : Nat} {ks : List Str} {gV : List V → List V → List V} {sp : Sp} {E : XK} {x : Str} {p pos : Pos} {e : Expr} {es : List Expr} {kws : List Keyword} {t tk : TA} (M : KwD X.prog X.w X.K X.mg X.base CX j x n ks gV sp) (hr : Room k X.A) (hjk : j ≤ k) (hx : Passes CX X E)
    (ha : PA X (e :: es) t) (hkw : PK X kws tk) (hg : Gl X x := by rfl) (hall : (backToKw pos (keywordEach kws X.env)).all (·.1.isSome) = true := by rfl) (hks : (backToKw pos (keywordEach kws X.env)).filterMap (·.1) = ks := by rfl)
    (hdb : (x == ("__debug__" : Str)) = false := by decide) (he : starEach (e :: es) X.env = (false, eval e X.env) :: starEach es X.env := by rfl)
    (hpl : ((backTo pos (starEach (e :: es) X.env)).any (·.1) || (backToKw pos (keywordEach kws X.env)).any (·.1.isNone)) = false := by rfl) :
    PE X (.Call (.Name x p) (e :: es) kws pos) (tCallN n ks.length sp gV E t tk) := by
  obtain ⟨f, fd, ps, g, F, m, kp, b⟩ := M.ex
  exact pe_callN F (hr.mono hjk) hg m kp b hx ha hkw hall hks hdb he hpl
theorem DefOk.of_fn {P : Program} {w : World} {K : Frg} {mg : Str → Option Value} {base : Heap} {CX : CXT} {k : Nat} {x : Str} {f : Addr} {fd : FuncData} {ps : List Str} {sp : Sp} (F : FnOk P w K mg base CX k f fd ps sp) (b : Binds K fd ps []) (m : mg x = some (.ref f)) (kp : PySem.W.keepIn K (.ref f) = true) : DefOk P w K mg base CX k x sp := ⟨f, raw0 F b, m, kp⟩
/-! ### x and y: one way on -/
theorem and_join {c : Bool} {te : TE} {σ : L2.St} {H : Hp} {Q : VK} (R : Bool → Hp → Prop) (hT : c = true → ∀ Q' : VK, (∀ b Hn, R b Hn → Q' (.bl b) Hn) → te σ H Q') (hF : c = false → R false H) (h : ∀ b Hn, R b Hn → Q (.bl b) Hn) :
    if c = true then te σ H Q else Q (.bl false) H := by
  cases c with
  | true => exact iteT (hT rfl Q h)
  | false => exact iteF (h false H (hF rfl))
theorem of_old {a : Addr} {H H' : Hp} (ha : H a = none) (o : Old a H H') : Same H H' := fun b u e => o b u e (ne_of_none e ha)
theorem neq_f {b : Bool} (h : b = true) : (!b) = false := by rw [h]; rfl
theorem flat_len {n : Nat} : ∀ {S : List (List PP)}, (∀ L ∈ S, L.length ≤ n) → S.flatten.length ≤ S.length * n
  | [], _ => by simp
  | L :: S, h => by
    have h1 := h L (List.mem_cons_self ..)
    have h2 := flat_len (S := S) fun M hM => h M (List.mem_cons_of_mem _ hM)
    rw [List.flatten_cons, List.length_append, List.length_cons, Nat.succ_mul]
    omega
end Gn
set_option Elab.async false
set_option linter.all false
set_option maxRecDepth 100000
set_option maxHeartbeats 4000000
/-! Errors with a thing; the promises of the counts. -/
namespace Gn
open PySem PySem.Spec PyProof.Rows L2 Com Sd StV
section
variable {X : Cx} {x n : Str} {i : Nat} {e : Expr} {suite : List Stmt} {b₀ : Stmt} {np pos pos' pos2 : Pos} {C fI : Addr} {te : WX → TE} {ts : Addr → Value → Option Addr → TS}
theorem ps_tryT (T : PySem.Exo_thing.Txt X.prog X.K X.mg x C fI) (hN : X.N.Nodup) (hi : X.N[i]? = some n) (hln : X.env.kindOf n = some .local)
    (hb : ∀ (W : WX) (pn : List (Addr × Obj)) (xe : Value → Shared → Prop), Takes (X.tr pn xe) W → PE (X.tr pn xe) e (te W))
    (hsu : ∀ (a : Addr) (oe : Obj) (cls : Value) (d : Option Addr) (pn : List (Addr × Obj)), Zc cls d oe → (∃ vs, oe.data = .fields vs) → PSs (X.suite a ((a, oe) :: pn)) (b₀ :: suite) (ts a cls d))
    (hs : X.stack = X.env :: X.outer := by rfl) (hf : X.env.frame = some X.env.locals := by rfl) (hg : Gl X x := by rfl) (hdb : (x == ("__debug__" : Str)) = false := by decide) (hsw : swapsWith e none pos2.line X.env = pure false := by rfl) :
    PS X (.Try [.Expr e pos2] [.ExceptHandler (some (.Name x np)) (some n) (b₀ :: suite) pos'] [] [] pos) (fun D σ H => tDrop (te (wAs X.K (.ref C) i ts (fun _ _ _ _ => False) D)) D σ H) :=
  ps_try_as (tb := fun W => tDrop (te W)) hs hf hN hi hln ⟨hg, hdb, .inl T.gC⟩ takes0 (fun W pn xe tk _ => pss_one (ps_expr (hb W pn xe tk) hsw)) hsu
end
/-- a def called in a try -/
def tDefS (sp : Sp) (ES : L2.St → XK) (t : TA) : TE := fun σ H Q => t σ H fun vs H1 => sp vs H1 Q (ES σ)
theorem pe_defS {X : Cx} {CX : CXT} {k j : Nat} {sp : Sp} {ES : L2.St → XK} {x : Str} {p pos : Pos} {e : Expr} {es : List Expr} {t : TA} (D : DefOk X.prog X.w X.K X.mg X.base CX j x sp) (hr : Room k X.A) (hjk : j ≤ k) (hx : ∀ σ, PassesAt CX X σ (ES σ)) (ha : PA X (e :: es) t) (hg : Gl X x := by rfl) (hdb : (x == ("__debug__" : Str)) = false := by decide)
    (he : starEach (e :: es) X.env = (false, eval e X.env) :: starEach es X.env := by rfl) (hpl : (backTo pos (starEach es X.env)).any (·.1) = false := by rfl) :
    PE X (.Call (.Name x p) (e :: es) [] pos) (tDefS sp ES t) := by
  obtain ⟨f, F, m, kp⟩ := D.ex
  refine ⟨fun pins s σ H Q I h => ?_⟩
  refine wpAny_Call_Name_kw (ld_glob I hg m ?_ hdb)
  refine PySem.W.callWith_K (h₀ := X.base) I.ok.mod.kin kp (thn (ha.run pos pins s σ H _ I h) fun us s1 ⟨vs, H1, I1, r, q⟩ => ⟨I1.kIn, ?_⟩) he hpl
  exact runS F hr hjk (hx σ) I1 r q
/-- refused: an error of the class at CE with the thing v -/
def RefT (CE : Addr) (H : Hp) (v : V) (E : XK) : Prop := ∀ d H', H' d = some (.xd [("thing", v)]) → Same H H' → E (.ref CE) (some d) H'
theorem thing_look (v : V) : List.lookup ("thing" : Str) [(("thing" : Str), v)] = some v := lk_eq
def spWith (C : Addr) : Sp := fun vs H Q _ => ∃ (p i o : Addr) (ds es : List Int) (m m' : Int), vs = [.ref p, .int m'] ∧ ExAt C H p i o ds es m ∧ 1 ≤ m' ∧ m' ≤ 7 ∧ ∀ x H', H x = none → ExAt C H' x i o ds es m' → Same H H' → Q (.ref x) H'
def spTurned (C : Addr) : Sp := fun vs H Q _ => ∃ (p i o : Addr) (ds es : List Int) (m : Int), vs = [.ref p] ∧ ExAt C H p i o ds es m ∧ ∀ x H', H x = none → ExAt C H' x o i es ds m → Same H H' → Q (.ref x) H'
def spChkPX (K : Frg) (C CE : Addr) : Sp := fun vs H Q E => ∃ (p i o : Addr) (ds es : List Int) (m : Int) (v : V), vs = [.ref p, v] ∧ ExAt C H p i o ds es m ∧ PairJ K H ds.length es.length v false ∧ RefT CE H v E
def spBusyCalls (C : Addr) : Sp := fun vs H Q _ => ∃ (p i o : Addr) (ds es : List Int) (m : Int) (u : V) (pr : PP), vs = [.ref p, u] ∧ ExAt C H p i o ds es m ∧ PairV H u pr ∧ InP ds.length es.length pr ∧ ∀ q xs H', H' q = some (.lst xs) → ((xs.length : Nat) : Int) = bz ds es pr → Same H H' → Q (.ref q) H'
def spBusiest (C : Addr) : Sp := fun vs H Q _ => ∃ (p i o : Addr) (ds es : List Int) (m : Int) (u : V) (pr : PP), vs = [.ref p, u] ∧ ExAt C H p i o ds es m ∧ PairV H u pr ∧ InP ds.length es.length pr ∧ ∀ H', Same H H' → Q (.int (bz ds es pr)) H'
def spStrict (C : Addr) : Sp := fun vs H Q _ => ∃ (p i o : Addr) (ds es : List Int) (m : Int), vs = [.ref p] ∧ ExAt C H p i o ds es m ∧ ∀ H', Same H H' → Q (.int (mx ((pairsL ds.length es.length).map (bz ds es)) + 1)) H'
def spDegree (C : Addr) : Sp := fun vs H Q _ => ∃ (p i o : Addr) (ds es : List Int) (m : Int), vs = [.ref p] ∧ ExAt C H p i o ds es m ∧ ∀ H', Same H H' → Q (.int (dg ds es)) H'
def spDue (C : Addr) : Sp := fun vs H Q _ => ∃ (p i o : Addr) (ds es : List Int) (m : Int) (a b : Nat), vs = [.ref p, .int (a : Nat), .int (b : Nat)] ∧ ExAt C H p i o ds es m ∧ a < ds.length ∧ b < es.length ∧ Q (.int (bz ds es ((a : Int), (b : Int)))) H
def spRefP (K : Frg) (C : Addr) : Sp := fun vs H Q _ => ∃ (p i o : Addr) (ds es : List Int) (m : Int) (v : V), vs = [.ref p, v] ∧ ExAt C H p i o ds es m ∧ PairJ K H ds.length es.length v false ∧ ∀ t H', H' t = some (.tup [.str "pair", v]) → Same H H' → Q (.ref t) H'
/-- the numbers of one pair -/
theorem Good.side_of {ds es : List Int} (g : Good ds) (h : Good es) {pr : PP} (hi : InP ds.length es.length pr) : 1 ≤ ds.getD pr.1.toNat 0 ∧ 1 ≤ es.getD pr.2.toNat 0 ∧ 0 ≤ es.sum - es.getD pr.2.toNat 0 ∧ 0 ≤ ds.sum - ds.getD pr.1.toNat 0 := by
  obtain ⟨h1, h2, h3, h4⟩ := hi
  have a := sum_ge (fun d hd => (g.2.2 d hd).1) (n := pr.1.toNat) (by omega)
  have b := sum_ge (fun d hd => (h.2.2 d hd).1) (n := pr.2.toNat) (by omega)
  omega
theorem bz_nn {ds es : List Int} (g : Good ds) (h : Good es) {pr : PP} (hi : InP ds.length es.length pr) : 0 ≤ bz ds es pr := by
  obtain ⟨a, b, c, d⟩ := Good.side_of g h hi
  exact bzI_nn a b c d
theorem atI_getD {ds : List Int} {n : Nat} (h : n < ds.length) : ds[n]? = some (ds.getD n 0) := by rw [List.getD_eq_getElem?_getD, List.getElem?_eq_getElem h]; rfl
theorem dV (a b : Int) : decide (V.int a = V.int b) = decide (a = b) := by
  refine decide_eq_decide.mpr ⟨fun h => ?_, fun h => by rw [h]⟩
  injection h
theorem cut_len (xs : List V) {k : Int} (h : 0 ≤ k) : ((cutV xs none (some k)).length : Int) = min k xs.length := by
  rw [cut_to _ h, List.length_take]
  omega
end Gn
namespace Gn
open PySem PySem.Spec PyProof.Rows L2
/-- an error of the class at S is what «except S» names -/
theorem exm_self {K : PySem.W.Frag} {S : Addr} (h1 : PySem.W.subIn K (.ref S) (.type "BaseException") = some true) (h2 : PySem.W.isClsIn K S = true) (h3 : PySem.W.typeIn K (.ref S) = some (.type "type")) (h4 : PySem.W.subIn K (.ref S) (.ref S) = some true) : PySem.W.exmOne K (.ref S) (.ref S) = some true := by
  have e1 : (PySem.W.subIn K (.ref S) (.type "BaseException") == some true) = true := by rw [h1] <;> rfl
  have e2 : ((PySem.W.clsIn K S).isSome && PySem.W.typeIn K (.ref S) == some (.type "type")) = true := by
    have h2' : (PySem.W.clsIn K S).isSome = true := h2
    rw [h2', h3] <;> rfl
  show (if (PySem.W.subIn K (.ref S) (.type "BaseException") == some true) = true then (if ((PySem.W.clsIn K S).isSome && PySem.W.typeIn K (.ref S) == some (.type "type")) = true then PySem.W.subIn K (.ref S) (.ref S) else none) else none) = some true
  rw [if_pos e1, if_pos e2]
  exact h4
end Gn
set_option Elab.async false
set_option linter.all false
set_option maxRecDepth 100000
set_option maxHeartbeats 4000000
/-! try with several «except X as e» clauses; x in a tuple of data. -/
namespace Gn
open PySem PySem.Spec PyProof.Rows L2 Com Sd StV
/-- a clause: the class, the slot of its name, its suite -/
structure Cl where
  c : Value
  i : Nat
  ts : Addr → Value → Option Addr → TS
def goneE (i : Nat) (D : Ends) : Ends := { nx := fun σ' H' => D.nx (σ'.set i none) H', rt := D.rt, bk := fun σ' H' => D.bk (σ'.set i none) H', ct := fun σ' H' => D.ct (σ'.set i none) H' }
def wMA (K : PySem.W.Frag) (Wout : WX) (D : Ends) : List Cl → WX
  | [] => Wout
  | x :: r => fun cls d σ H => ∃ b, PySem.W.exmOne K cls x.c = some b ∧ (b = true → ∀ a, H a = none → x.ts a cls d (goneE x.i D) (σ.set x.i (some (.ref a))) H) ∧ (b = false → wMA K Wout D r cls d σ H)
inductive HdsAs (X : Cx) : List ExceptHandler → List Cl → Prop
  | nil : HdsAs X [] []
  | cons {x n : Str} {c : Value} {i : Nat} {ts : Addr → Value → Option Addr → TS} {b₀ : Stmt} {suite : List Stmt} {np pos' : Pos} {hds : List ExceptHandler} {l : List Cl} (hi : X.N[i]? = some n) (hln : X.env.kindOf n = some .local) (hc : Names X x c)
      (hsu : ∀ (a : Addr) (oe : Obj) (cls : Value) (d : Option Addr) (pn : List (Addr × Obj)), Zc cls d oe → (∃ vs, oe.data = .fields vs) → PSs (X.suite a ((a, oe) :: pn)) (b₀ :: suite) (ts a cls d)) (r : HdsAs X hds l) :
      HdsAs X (.ExceptHandler (some (.Name x np)) (some n) (b₀ :: suite) pos' :: hds) (⟨c, i, ts⟩ :: l)
section
variable {X : Cx} {body : List Stmt} {h₀ : ExceptHandler} {hds : List ExceptHandler} {l : List Cl} {pos : Pos} {tb : WX → TS} {Wout : WX}
theorem ps_tryAs (hN : X.N.Nodup) (tk : Takes X Wout)
    (hb : ∀ (W : WX) (pn : List (Addr × Obj)) (xe : Value → Shared → Prop), Takes (X.tr pn xe) W → PassesOwn (model X.prog X.w) X.A X.env xe → PSs (X.tr pn xe) body (tb W))
    (hh : HdsAs X (h₀ :: hds) l) (hs : X.stack = X.env :: X.outer := by rfl) (hf : X.env.frame = some X.env.locals := by rfl) : PS X (.Try body (h₀ :: hds) [] [] pos) (fun D σ H => tb (wMA X.K Wout D l) D σ H) := by
  refine ⟨fun pins s σ H D I h => ?_⟩
  have ok := I.ok
  have hfr : X.A.frames = some (X.env :: X.outer) := by rw [ok.frames, hs]
  refine wpAny_Try_except ?_
  refine wpAny_mono ((hb (wMA X.K Wout D l) (X.pn ++ pins) (fun e s₁ => wpAny (model X.prog X.w) X.A (noteFrame e X.env) (fun _ s₂ => wpAny (model X.prog X.w) X.A (setFlight e none) (fun _ s₃ =>
    wpAny (model X.prog X.w) X.A (handleBy e X.env (h₀ :: hds)) (SP X pins D) X.xe s₃) X.xe s₂) X.xe s₁) (fun u s' xx => ?_) PassesOwn.looking).run [] s σ H D (I.toTry _) h) (fun f s1 hsp => ?_) (fun e s1 he => he)
  · obtain ⟨a, B, sI, pins', σ', H', cls, d, rfl, J', nb, up, sky, na, os, ag, w⟩ := xx
    have J : Inv X pins σ' H' sI := J'.ofTry ok
    have sky' : Sky B (X.env :: X.outer) a (Zc cls d) X.env.locals s'.heap := by rw [← hs]; exact sky
    show wpAny (model X.prog X.w) X.A (noteFrame (.ref a) X.env) _ _ _
    refine Sky.land Zc.steady hfr hf sky' fun h3 fl3 up3 => ?_
    have J3 : Inv X pins σ' H' { s' with heap := h3 } := J.landed nb fl3.1 (up.trans up3) os ag
    obtain ⟨oe3, vs3, he3, hz3, hd3⟩ := fl3.there
    have notFr : ∀ {h : Heap} {o : Obj} {vs : Array Value}, h.FunFrames B (X.env :: X.outer) → h.get? a = some o → o.data = .fields vs → a ∉ frs (X.env :: X.outer) := fun {h o vs} ff e dd hm => by
      obtain ⟨_, o', e', hnf⟩ := ff.mem hm
      rw [e] at e'; cases e'
      exact hnf _ dd
    have nfr := notFr fl3.2.2.1 he3 hd3
    have nL : a ≠ X.env.locals := fun z => nfr (List.mem_filterMap.mpr ⟨X.env, List.mem_cons_self, by rw [hf, z]⟩)
    have nF : a ∉ X.fs := fun hm => by
      obtain ⟨e, he, q⟩ := List.mem_filterMap.mp hm
      exact nfr (List.mem_filterMap.mpr ⟨e, List.mem_cons_of_mem _ he, q⟩)
    have S3 := J3.suite he3 hd3 na nL nF
    have go : ∀ {hds' : List ExceptHandler} {l' : List Cl}, HdsAs X hds' l' → wMA X.K Wout D l' cls d σ' H' →
        wpAny (model X.prog X.w) X.A (handleBy (.ref a) X.env hds') (SP X pins D) X.xe { s' with heap := h3 } := by
      intro hds' l' hk
      induction hk with
      | nil =>
        intro w
        refine wpAny_handleBy_nil ?_
        obtain ⟨k1, k2, k3, oe, vs, T, oT, ts', he, hz, hd, h1, hr⟩ := id fl3
        unfold PySem.passOn
        refine wpAny_bind (wpAny_field he hd h1 ?_)
        rw [if_neg (show ¬ ((Value.ref T == Value.none) = true) from by simp)]
        have fin : wpAny (model X.prog X.w) X.A (setFlight (.ref a) X.env.frame) (fun _ s4 => wpAny (model X.prog X.w) X.A (throw (.ref a) : Sem Flow) (SP X pins D) X.xe s4) X.xe { s' with heap := h3 } := by
          rw [hf]
          refine HandSPX.setFlight_upZ fl3 fun h4 hh4 up4 => wpAny_throw (tk _ _ ?_)
          exact ⟨a, B, sI, pins, σ', H', cls, d, rfl, J, nb, (up.trans up3).trans up4, .inr (.inr (by rw [hs]; exact hh4)), na, os, ag, w⟩
        first
          | exact wpAny_bind (wpAny_pure (wpAny_bind fin))
          | exact wpAny_bind fin
      | @cons x n c i ts b₀ suite np pos' hds2 l2 hi hln hc hsu r ih =>
        intro w
        obtain ⟨b, hb1, hyes, hno⟩ := w
        have hloc : Loc X.env.scope n := .inl hln
        refine wpAny_handleBy_cons (codeAny_handlers_test ?_) (by intro q; cases q)
        have LT : PySem.W.Looks (model X.prog X.w) h3 (typeOf (.ref a)) cls := fun A Q E s k q => wpAny_typeOf_ref (k _ _ he3) (by rw [hz3.1]; exact q)
        have LM := PySem.W.exm_one (M := model X.prog X.w) (J3.kIn) LT hb1
        have test : ∀ {Q : Value → Shared → Prop} {E : Value → Shared → Prop}, Q c { s' with heap := h3 } → wpAny (model X.prog X.w) (X.A.mark (some (.ref a))) (eval (.Name x np) X.env) Q E { s' with heap := h3 } := fun {Q E} q => by
          obtain ⟨hg, hdbg, hm | ⟨hm, hv, hnn⟩⟩ := hc
          · exact ld_glob (X := X.suite a ((a, oe3) :: (X.pn ++ pins))) S3 hg hm q hdbg
          · exact ld_blt (X := X.suite a ((a, oe3) :: (X.pn ++ pins))) S3 hg hm hv q hnn hdbg
        refine test (LM.here ?_)
        cases b with
        | true =>
          refine codeAny_handlers_suite_as ?_
          refine HandSPX.lands_againZ fl3 fun h4 fl4 up4 => ?_
          have J4 : Inv X pins σ' H' { s' with heap := h4 } := J.landed nb fl4.1 ((up.trans up3).trans up4) os ag
          obtain ⟨oe4, vs4, he4, hz4, hd4⟩ := fl4.there
          have S4 := J4.suite he4 hd4 na nL nF
          refine store_ok (X := X.suite a ((a, oe4) :: (X.pn ++ pins))) (v := .ref a) S4 hN hi hloc rfl (fun s5 S5 => ?_) (.inr hln)
          refine wpAny_mono ((hsu a oe4 cls d (X.pn ++ pins) hz4 ⟨_, hd4⟩).run [] s5 _ H' _ S5 (hyes rfl a na)) (fun f s6 hsp => ?_) (fun _ _ z => False.elim z)
          have end_ : ∀ {σ6 : L2.St} {H6 : Hp} {Q : Shared → Prop}, Inv (X.suite a ((a, oe4) :: (X.pn ++ pins))) [] σ6 H6 s6 → (∀ s7, Inv X pins (σ6.set i none) H6 s7 → Q s7) →
              wpAny (model X.prog X.w) X.A (do bindName X.env n .none; unbindBehindTheSuite X.env n pos') (fun _ s7 => Q s7) X.xe s6 := fun {σ6 H6 Q} S6 hq => gone_ok (S6.unsuite ok) hN hi hln hq
          cases f with
          | next =>
            obtain ⟨σ6, H6, S6, q6⟩ := hsp
            exact end_ S6 fun s7 J7 => ⟨_, _, J7, q6⟩
          | brk =>
            obtain ⟨σ6, H6, S6, q6⟩ := hsp
            exact end_ S6 fun s7 J7 => ⟨_, _, J7, q6⟩
          | cont =>
            obtain ⟨σ6, H6, S6, q6⟩ := hsp
            exact end_ S6 fun s7 J7 => ⟨_, _, J7, q6⟩
          | ret u =>
            obtain ⟨v6, σ6, H6, S6, r6, q6⟩ := hsp
            exact end_ S6 fun s7 J7 => ⟨_, _, _, J7, r6, q6⟩
        | false =>
          show wpAny _ X.A (handleBy (.ref a) X.env hds2) _ _ _
          exact ih (hno rfl)
    exact go hh w
  · cases f with
    | next =>
      obtain ⟨σ', H', J', q⟩ := hsp
      exact wpAny_execs_nil ⟨σ', H', J'.ofTry ok, q⟩
    | brk =>
      obtain ⟨σ', H', J', q⟩ := hsp
      exact ⟨σ', H', J'.ofTry ok, q⟩
    | cont =>
      obtain ⟨σ', H', J', q⟩ := hsp
      exact ⟨σ', H', J'.ofTry ok, q⟩
    | ret u =>
      obtain ⟨v, σ', H', J', r, q⟩ := hsp
      exact ⟨v, σ', H', J'.ofTry ok, r, q⟩
end
end Gn
set_option Elab.async false
set_option linter.all false
set_option maxRecDepth 100000
set_option maxHeartbeats 4000000
namespace Gn
open PySem PySem.Spec PyProof.Rows L2 Com Sd StV Ext
/-! ### x not in a tuple of data; != of tuples of the very same items; either of two rules -/
def rNotInT (K : PySem.W.Frag) : R2 := fun x y H Q => ∃ d ds, Dp K H x d ∧ Dp K H y (.tuple ds) ∧ SeqAt.shaped d = true ∧ SeqAt.shaped (.list ds) = true ∧ Q (.bl (!ds.any fun z => PyData.eqv z d)) H
theorem notInT {X : Cx} (K : PySem.W.Frag) (hu : X.A.units + 65 < cLine) (hK : X.K = K := by rfl) : OpR X (compareOp .NotIn) (rNotInT K) := by
  subst hK
  intro pins s σ H x y v u Q I rx ry h
  obtain ⟨d, ds, hd, he, sd, se, q⟩ := h
  obtain ⟨as, r1⟩ := Dp.reads I d x v hd rx
  obtain ⟨bs, r2⟩ := Dp.reads I (.tuple ds) y u he ry
  exact SeqAt.notIn_tuple_reads r2 r1 (SeqAt.canLay_of_shaped se) (SeqAt.canLay_of_shaped sd) (room_in_shaped sd hu) ⟨.bl _, H, I, rfl, q⟩
def rNeTS (K : PySem.W.Frag) : R2 := fun x y H Q => ∃ a b xs, x = .ref a ∧ y = .ref b ∧ SqT K H a xs ∧ SqT K H b xs ∧ xs.all sameOk = true ∧ Q (.bl false) H
theorem neTS {X : Cx} (K : PySem.W.Frag) (hu : X.A.units + 64 < cLine) (hK : X.K = K := by rfl) : OpR X (compareOp .NotEq) (rNeTS K) := by
  subst hK
  intro pins s σ H x y v u Q I rx ry h
  obtain ⟨a, b, xs, rfl, rfl, ha, hb, hall, q⟩ := h
  cases (show v = Value.ref a from rx)
  cases (show u = Value.ref b from ry)
  obtain ⟨us, r1, p1, _⟩ := I.tuple ha
  obtain ⟨ws, r2, p2, _⟩ := I.tuple hb
  have k := SeqAt.RcNeAt.tuples (A := X.A) (s := s) (e := fun _ => true) (show s.heap.IsTuple a us.toArray from p1) (show s.heap.IsTuple b ws.toArray from p2) (by omega) (fun j h1 h2 => by
    have := vals_at r1 r2 hall X.A.in1 s j (by simpa using h1) (by simpa using h2)
    simpa using this)
  have e : (!((List.range (min us.toArray.size ws.toArray.size)).all (fun _ => true) && us.toArray.size == ws.toArray.size)) = false := by simp [← r1.length, ← r2.length]
  rw [e] at k
  exact k X.prog X.w X.xe _ ⟨.bl false, H, I, rfl, q⟩
def rNeO (K : PySem.W.Frag) : R2 := fun x y H Q => rNeD K x y H Q ∨ rNeTS K x y H Q
theorem neO {X : Cx} (K : PySem.W.Frag) (hu : X.A.units + 64 < cLine) (hK : X.K = K := by rfl) : OpR X (compareOp .NotEq) (rNeO K) := by
  intro pins s σ H x y v u Q I rx ry h
  rcases h with h | h
  · exact neD K hu hK pins s σ H x y v u Q I rx ry h
  · exact neTS K hu hK pins s σ H x y v u Q I rx ry h
/-! ### the promises -/
def spL1 (f : List PP → PP → List PP) : Sp := fun vs H Q _ => ∃ (v u : V) (L : List PP) (p : PP), vs = [v, u] ∧ LoadV H v L ∧ L.length ≤ 100 ∧ PairV H u p ∧ ∀ r H', LoadV H' r (f L p) → Same H H' → Q r H'
def spS1 (f : List PP → PP → List PP) : Sp := fun vs H Q _ => ∃ (v u : V) (S : List (List PP)) (p : PP) (k : Nat) (L : List PP), vs = [v, u, .int (k : Nat)] ∧ StaV H v S ∧ S.length ≤ 100 ∧ S[k]? = some L ∧ L.length ≤ 100 ∧ PairV H u p ∧ ∀ r H', StaV H' r (S.set k (f L p)) → Same H H' → Q r H'
def RefS (CD : Addr) (H : Hp) (t : Str) (E : XK) : Prop := ∀ d H', H' d = some (.xd [("side", .str t)]) → Same H H' → E (.ref CD) (some d) H'
theorem side_look (v : V) : List.lookup ("side" : Str) [(("side" : Str), v)] = some v := lk_eq
def at1 (ds : List Int) (S : List (List PP)) (p : PP) : Int := (left ds (fs S)).getD p.1.toNat 0
def at2 (es : List Int) (S : List (List PP)) (p : PP) : Int := (left es (sn S)).getD p.2.toNat 0
def spChkD (C CD : Addr) : Sp := fun vs H Q E => ∃ (p i o : Addr) (ds es : List Int) (m : Int) (v u : V) (S : List (List PP)) (pr : PP), vs = [.ref p, v, u] ∧ ExAt C H p i o ds es m ∧ StaV H v S ∧ StdOk ds es m S ∧ PairV H u pr ∧ InP ds.length es.length pr ∧
  (at1 ds S pr = 0 → RefS CD H "in" E) ∧ (at1 ds S pr ≠ 0 → at2 es S pr = 0 → RefS CD H "out" E) ∧ (at1 ds S pr ≠ 0 → at2 es S pr ≠ 0 → ∀ H', Same H H' → Q .non H')
/-- an answer, or a refusal -/
inductive Out where
  | told (S : List (List PP))
  | side (t : Str)
  | mid (x : V)
  | call (u : V)
def OutV (H : Hp) (r : V) : Out → Prop
  | .told S => ∃ t v, r = .ref t ∧ H t = some (.tup [.str "told", v]) ∧ StaV H v S
  | .side s => ∃ t, r = .ref t ∧ H t = some (.tup [.str "door", .str s])
  | .mid x => ∃ t, r = .ref t ∧ H t = some (.tup [.str "middle", x])
  | .call u => ∃ t, r = .ref t ∧ H t = some (.tup [.str "call", u])
/-- the middle: a number, or nothing of the kind -/
def KJ (K : Frg) (H : Hp) (x : V) : Prop := sameOk x = true ∧ ((∃ z, x = .int z) ∨ PlainI K H x false)
theorem KJ.same {K : Frg} {H H' : Hp} (s : Same H H') {x : V} (h : KJ K H x) : KJ K H' x := ⟨h.1, h.2.imp id fun p => p.same s⟩
def kGood (S : List (List PP)) (p : PP) (x : V) : Option Nat := match x with
  | .int z => if z ∈ frees S p then some z.toNat else none
  | _ => none
def outW (ds es : List Int) (S : List (List PP)) (p : PP) (x : V) : Out :=
  if at1 ds S p = 0 then .side "in" else if at2 es S p = 0 then .side "out" else match kGood S p x with
    | some k => .told (S.set k (putL (S.getD k []) p))
    | none => .mid x
def kIn (S : List (List PP)) (x : V) : Option Nat := match x with
  | .int z => if 0 ≤ z ∧ z < S.length then some z.toNat else none
  | _ => none
def outR (S : List (List PP)) (p : PP) (u x : V) : Out := match kIn S x with
  | some k => if p ∈ S.getD k [] then .told (S.set k (takeL (S.getD k []) p)) else .call u
  | none => .mid x
/-- exchange, standing, pair, middle -/
def sp4 (K : Frg) (C : Addr) (R : (ds es : List Int) → (S : List (List PP)) → (u : V) → PP → V → Hp → VK → XK → Prop) : Sp := fun vs H Q E => ∃ (p i o : Addr) (ds es : List Int) (m : Int) (v u x : V) (S : List (List PP)) (pr : PP), vs = [.ref p, v, u, x] ∧ ExAt C H p i o ds es m ∧ StaV H v S ∧ StdOk ds es m S ∧ PairV H u pr ∧ InP ds.length es.length pr ∧ KJ K H x ∧ R ds es S u pr x H Q E
/-- what comes of an outcome: an answer, or an error -/
def Falls (CD CM CC : Addr) (out : Out) (H : Hp) (Q : VK) (E : XK) : Prop := match out with
  | .told S => ∀ r H', StaV H' r S → Same H H' → Q r H'
  | .side t => RefS CD H t E
  | .mid x => RefT CM H x E
  | .call u => RefT CC H u E
def spWith7 (K : Frg) (C CD CM CC : Addr) : Sp := sp4 K C fun ds es S u pr x H Q E => Falls CD CM CC (outW ds es S pr x) H Q E
def spWout7 (K : Frg) (C CD CM CC : Addr) : Sp := sp4 K C fun ds es S u pr x H Q E => Falls CD CM CC (outR S pr u x) H Q E
def spDueW (K : Frg) (C : Addr) : Sp := sp4 K C fun ds es S u pr x H Q _ => ∀ r H', OutV H' r (outW ds es S pr x) → Same H H' → Q r H'
def spDueR (K : Frg) (C : Addr) : Sp := sp4 K C fun ds es S u pr x H Q _ => ∀ r H', OutV H' r (outR S pr u x) → Same H H' → Q r H'
/-- two answers alike -/
theorem neOut {K : Frg} {H : Hp} {r1 r2 : V} {out : Out} {Q : VK} (h1 : OutV H r1 out) (h2 : OutV H r2 out) (hs : ∀ x, out = .mid x ∨ out = .call x → sameOk x = true) (q : Q (.bl false) H) : rNeO K r1 r2 H Q := by
  cases out with
  | told S =>
    obtain ⟨t1, v1, rfl, e1, s1⟩ := h1
    obtain ⟨t2, v2, rfl, e2, s2⟩ := h2
    have dd : SeqAt.shaped (.tuple [.str "told", dS S]) = true := by
      have h := depth_loads S
      show (PyData.canLay0 (.tuple [.str "told", .tuple (S.map dL)]) && decide (PyData.depth (.tuple [.str "told", .tuple (S.map dL)]) ≤ 64)) = true
      rw [Bool.and_eq_true]
      constructor
      · simp [PyData.canLay0, PyData.canLayAll0, lay_loads]
        decide +kernel
      · refine decide_eq_true ?_
        simp only [PyData.depth, PyData.depthAll]
        omega
    refine .inl ⟨.tuple [.str "told", dS S], .tuple [.str "told", dS S], ?_, ?_, dd, dd, ?_⟩
    · exact .tup (SqT.of e1) (.cons (.str _) (.cons (dp_staV s1) .nil))
    · exact .tup (SqT.of e2) (.cons (.str _) (.cons (dp_staV s2) .nil))
    · have : PyData.eqv (.tuple [.str "told", dS S]) (.tuple [.str "told", dS S]) = true := by
        simp [PyData.eqv, PyData.eqvAll, eqv_dS]
      rw [this]
      exact q
  | side t =>
    obtain ⟨t1, rfl, e1⟩ := h1
    obtain ⟨t2, rfl, e2⟩ := h2
    exact .inr ⟨t1, t2, _, rfl, rfl, SqT.of e1, SqT.of e2, rfl, q⟩
  | mid x =>
    obtain ⟨t1, rfl, e1⟩ := h1
    obtain ⟨t2, rfl, e2⟩ := h2
    exact .inr ⟨t1, t2, _, rfl, rfl, SqT.of e1, SqT.of e2, by rw [List.all_cons, List.all_cons, hs x (.inl rfl)]; rfl, q⟩
  | call x =>
    obtain ⟨t1, rfl, e1⟩ := h1
    obtain ⟨t2, rfl, e2⟩ := h2
    exact .inr ⟨t1, t2, _, rfl, rfl, SqT.of e1, SqT.of e2, by rw [List.all_cons, List.all_cons, hs x (.inr rfl)]; rfl, q⟩
theorem OutV.same {H H' : Hp} (s : Same H H') {r : V} {out : Out} (h : OutV H r out) : OutV H' r out := by
  cases out with
  | told S => exact let ⟨t, v, e, h1, h2⟩ := h; ⟨t, v, e, s _ _ h1, StaV.same s h2⟩
  | side t => exact let ⟨t, e, h1⟩ := h; ⟨t, e, s _ _ h1⟩
  | mid x => exact let ⟨t, e, h1⟩ := h; ⟨t, e, s _ _ h1⟩
  | call u => exact let ⟨t, e, h1⟩ := h; ⟨t, e, s _ _ h1⟩
theorem any_pD (L : List PP) (p : PP) : ((L.map pD).any fun z => PyData.eqv z (pD p)) = decide (p ∈ L) := by
  induction L with
  | nil => rfl
  | cons c L ih =>
    rw [List.map_cons, List.any_cons, ih, eqv_pD]
    by_cases e : c = p
    · simp [e]
    · have e' : p ≠ c := fun z => e z.symm
      by_cases e2 : p ∈ L <;> simp [e, e', e2]
/-- the pieces of t[:k] + (x,) + t[k + 1:] -/
theorem cut_to7 (xs : List V) (k : Nat) : cutV xs none (some ((k : Nat) : Int)) = xs.take k := by
  rw [cut_to _ (by omega)]
  congr 1
theorem cut_from7 (xs : List V) (k : Nat) : cutV xs (some ((k : Int) + 1)) none = xs.drop (k + 1) := by
  unfold cutV
  have e1 : HT.sIx xs.length xs.length none = xs.length := HT.sIx_none xs.length xs.length
  have e2 : HT.sIx xs.length 0 (some ((k : Int) + 1)) = min (k + 1) xs.length := by
    show (if ((k : Int) + 1) < 0 then (((k : Int) + 1) + (xs.length : Int)).toNat else min ((k : Int) + 1).toNat xs.length) = _
    rw [if_neg (by omega), show ((k : Int) + 1).toNat = k + 1 by omega]
  rw [e1, e2]
  by_cases h : k + 1 ≤ xs.length
  · rw [Nat.min_eq_left h]
    exact List.take_of_length_le (by rw [List.length_drop]; omega)
  · rw [Nat.min_eq_right (by omega), List.drop_eq_nil_of_le (by omega : xs.length ≤ k + 1), Nat.sub_self, List.take_zero]
theorem paired_take {α β : Type} {F : α → β → Prop} : ∀ {xs : List α} {ys : List β} (k : Nat), Paired F xs ys → Paired F (xs.take k) (ys.take k)
  | _, _, 0, _ => by simp only [List.take_zero]; exact .nil
  | _, _, _ + 1, .nil => by simp only [List.take_nil]; exact .nil
  | _, _, k + 1, .cons h t => by simp only [List.take_succ_cons]; exact .cons h (paired_take k t)
theorem paired_drop {α β : Type} {F : α → β → Prop} : ∀ {xs : List α} {ys : List β} (k : Nat), Paired F xs ys → Paired F (xs.drop k) (ys.drop k)
  | _, _, 0, h => h
  | _, _, _ + 1, .nil => .nil
  | _, _, k + 1, .cons _ t => by simp only [List.drop_succ_cons]; exact paired_drop k t
theorem set_cat {α : Type} (S : List α) {k : Nat} (h : k < S.length) (M : α) : S.set k M = S.take k ++ [M] ++ S.drop (k + 1) := by
  rw [List.set_eq_take_append_cons_drop, if_pos h]
  simp
end Gn
set_option Elab.async false
set_option linter.all false
set_option maxRecDepth 100000
set_option maxHeartbeats 4000000
/-! sorted() of loads: tuples of pairs, some of them without items. -/
namespace Srl
open PySem PyProof.Rows Srt SrtO Sd
/-- the order of loads -/
def ltL : List PP → List PP → Bool
  | [], M => decide (0 < M.length)
  | _ :: _, [] => false
  | p :: L, q :: M => if p = q then ltL L M else lexB p q
theorem lexAt_ltL : ∀ (L M : List PP) (e r : Nat → Bool) (i : Nat), (∀ j p q, L[j]? = some p → M[j]? = some q → e (i + j) = decide (p = q) ∧ r (i + j) = lexB p q) →
    Ob.lexAt e r (decide (L.length < M.length)) i (min L.length M.length) = ltL L M
  | [], M, e, r, i, _ => by simp [ltL, Ob.lexAt]
  | p :: L, [], e, r, i, _ => by simp [ltL, Ob.lexAt]
  | p :: L, q :: M, e, r, i, h => by
    have h0 := h 0 p q rfl rfl
    have hm : min (p :: L).length (q :: M).length = min L.length M.length + 1 := by simp only [List.length_cons]; omega
    have hd : decide ((p :: L).length < (q :: M).length) = decide (L.length < M.length) := by simp only [List.length_cons]; exact decide_eq_decide.mpr (by omega)
    rw [hm, hd, Ob.lexAt_succ]
    rw [Nat.add_zero] at h0
    rw [h0.1, h0.2, lexAt_ltL L M e r (i + 1) fun j a b ha hb => by
      have := h (j + 1) a b (by simpa using ha) (by simpa using hb)
      rwa [show i + (j + 1) = i + 1 + j by omega] at this]
    show _ = if p = q then ltL L M else lexB p q
    by_cases c : p = q <;> simp [c]
/-- a load at v -/
def IsLd (h : Heap) (v : Value) (L : List PP) : Prop := ∃ a o xs n, v = .ref a ∧ h.get? a = some o ∧ o.cls = .type "tuple" ∧ o.data = .seq xs n ∧ xs.size = L.length ∧ ∀ (j : Nat) (u : Value) (p : PP), xs[j]? = some u → L[j]? = some p → IsPair h u p.1 p.2
theorem IsLd.keeps {h h' : Heap} {v : Value} {L : List PP} (x : IsLd h v L) (k : ∀ b o, h.get? b = some o → o.cls = .type "tuple" → h'.get? b = some o) : IsLd h' v L := by
  obtain ⟨a, o, xs, n, e, ho, hc, hd, hl, hp⟩ := x
  exact ⟨a, o, xs, n, e, k _ _ ho hc, hc, hd, hl, fun j u p h1 h2 => (hp j u p h1 h2).keeps k⟩
section
variable {prog : Program} {w : World} {A : Around} {E : Value → Shared → Prop} {s : Shared}
theorem pair_rc {u v : Value} {p q : PP} (hu : A.units < cLine) (h1 : IsPair s.heap u p.1 p.2) (h2 : IsPair s.heap v q.1 q.2) : Ob.RcOp .Lt A s u v (lexB p q) := by
  obtain ⟨a, o, t, t', n, rfl, ho, hc, hd⟩ := h1
  obtain ⟨b, o2, t2, t2', n2, rfl, ho2, hc2, hd2⟩ := h2
  have k := Ob.RcOp.tuples_lt (A := A) (s := s) (e := fun j => if j = 0 then (p.1 == q.1) else (p.2 == q.2)) (r := fun j => if j = 0 then decide (p.1 < q.1) else decide (p.2 < q.2))
    (show s.heap.IsTuple a #[.int p.1 t, .int p.2 t'] from ⟨o, ho, hc, n, hd⟩) (show s.heap.IsTuple b #[.int q.1 t2, .int q.2 t2'] from ⟨o2, ho2, hc2, n2, hd2⟩) hu
    (fun j j1 j2 => by
      have hj : j < 2 := j1
      match j, hj with
      | 0, _ => simpa using SeqAt.EqAt.int_int (A := A.in1) (s := s) p.1 t q.1 t2
      | 1, _ => simpa using SeqAt.EqAt.int_int (A := A.in1) (s := s) p.2 t' q.2 t2')
    (fun j j1 j2 _ => by
      have hj : j < 2 := j1
      match j, hj with
      | 0, _ => exact Ob.RcOp.lt_int p.1 q.1 t t2
      | 1, _ => exact Ob.RcOp.lt_int p.2 q.2 t' t2')
  have e : Ob.lexAt (fun j => if j = 0 then (p.1 == q.1) else (p.2 == q.2)) (fun j => if j = 0 then decide (p.1 < q.1) else decide (p.2 < q.2)) (decide ((#[Value.int p.1 t, .int p.2 t'] : Array Value).size < (#[Value.int q.1 t2, .int q.2 t2'] : Array Value).size)) 0 (min (#[Value.int p.1 t, .int p.2 t'] : Array Value).size (#[Value.int q.1 t2, .int q.2 t2'] : Array Value).size) = lexB p q := by
    show Ob.lexAt _ _ (decide (2 < 2)) 0 2 = _
    rw [Ob.lexAt_succ, Ob.lexAt_succ, Ob.lexAt_zero]
    unfold lexB
    by_cases c : p.1 = q.1
    · by_cases c2 : p.2 = q.2
      · simp [c, c2]
      · simp [c, c2]
    · simp [c]
  rw [e] at k
  exact k
theorem pair_reads {h : Heap} {u : Value} {p : PP} (x : IsPair h u p.1 p.2) : Reads h u (Com.pD p) ([] ++ ([] ++ [])) := by
  obtain ⟨a, o, t, t', n, rfl, ho, hc, hd⟩ := x
  exact .tuple ho hc hd (.cons (.int _ _) (.cons (.int _ _) .nil))
theorem pair_eq {u v : Value} {p q : PP} (hu : A.units + 4 < cLine) (h1 : IsPair s.heap u p.1 p.2) (h2 : IsPair s.heap v q.1 q.2) : SeqAt.EqAt A s u v (decide (p = q)) := by
  have d : PyData.depth (Com.pD p) = 1 := by simp [Com.pD, Com.tI, PyData.depth, PyData.depthAll]
  have l : ∀ p : PP, PyData.canLay0 (Com.pD p) = true := fun p => by simp [Com.pD, Com.tI, PyData.canLay0, PyData.canLayAll0]
  have k := SeqAt.eqAt_reads (Com.pD p) (Com.pD q) A s u v _ _ (pair_reads h1) (pair_reads h2) (l p) (l q) (by omega)
  rw [Com.eqv_pD] at k
  exact k
theorem load_rc {u v : Value} {L M : List PP} (hu : A.units + 8 < cLine) (hA : A.in1.units + 4 < cLine) (h1 : IsLd s.heap u L) (h2 : IsLd s.heap v M) : Ob.RcOp .Lt A s u v (ltL L M) := by
  obtain ⟨a, o, xs, n, rfl, ho, hc, hd, hl, hp⟩ := h1
  obtain ⟨b, o2, ys, n2, rfl, ho2, hc2, hd2, hl2, hp2⟩ := h2
  have gL : ∀ (j : Nat), j < xs.size → L[j]? = some (L.getD j (0, 0)) := fun j h => by rw [List.getD_eq_getElem?_getD, List.getElem?_eq_getElem (by omega)]; rfl
  have gM : ∀ (j : Nat), j < ys.size → M[j]? = some (M.getD j (0, 0)) := fun j h => by rw [List.getD_eq_getElem?_getD, List.getElem?_eq_getElem (by omega)]; rfl
  have k := Ob.RcOp.tuples_lt (A := A) (s := s) (e := fun j => decide (L.getD j (0, 0) = M.getD j (0, 0))) (r := fun j => lexB (L.getD j (0, 0)) (M.getD j (0, 0)))
    (show s.heap.IsTuple a xs from ⟨o, ho, hc, n, hd⟩) (show s.heap.IsTuple b ys from ⟨o2, ho2, hc2, n2, hd2⟩) (by omega)
    (fun j j1 j2 => pair_eq hA (hp j _ _ (Array.getElem?_eq_getElem j1) (gL j j1)) (hp2 j _ _ (Array.getElem?_eq_getElem j2) (gM j j2)))
    (fun j j1 j2 _ => pair_rc (by omega) (hp j _ _ (Array.getElem?_eq_getElem j1) (gL j j1)) (hp2 j _ _ (Array.getElem?_eq_getElem j2) (gM j j2)))
  rw [hl, hl2, lexAt_ltL L M _ _ 0 fun j p q h1 h2 => by
    rw [Nat.zero_add, List.getD_eq_getElem?_getD, List.getD_eq_getElem?_getD, h1, h2]
    exact ⟨rfl, rfl⟩] at k
  exact k
theorem katL {Q : Bool → Shared → Prop} (hu : A.units + 4 < cLine) : ∀ (us vs : List Value) (L M : List PP) (i : Nat), us.length = L.length → vs.length = M.length → (∀ (j : Nat) (u : Value) (p : PP), us[j]? = some u → L[j]? = some p → IsPair s.heap u p.1 p.2) →
    (∀ (j : Nat) (u : Value) (p : PP), vs[j]? = some u → M[j]? = some p → IsPair s.heap u p.1 p.2) → Q (ltL L M) s → PySem.W.KatLex prog w A false (decide (L.length < M.length)) Q (us.zip vs) i s
  | [], vs, [], M, i, _, _, _, _, h => PySem.W.kat_nil h
  | u :: us, [], p :: L, [], i, _, _, _, _, h => PySem.W.kat_nil (by simpa [ltL] using h)
  | u :: us, v :: vs, p :: L, q :: M, i, e1, e2, h1, h2, h => by
    have hd : decide ((p :: L).length < (q :: M).length) = decide (L.length < M.length) := by simp only [List.length_cons]; exact decide_eq_decide.mpr (by omega)
    rw [hd]
    have hp := h1 0 u p rfl rfl
    have hq := h2 0 v q rfl rfl
    have el : ltL (p :: L) (q :: M) = if p = q then ltL L M else lexB p q := rfl
    refine PySem.W.kat_cons (pair_eq hu hp hq prog w _ _ ?_)
    refine PySem.W.kat_go (fun c => ?_) (fun c => ?_)
    · have c' := of_decide_eq_true c
      refine PySem.W.kat_yes (katL hu us vs L M (i + 1) (by simpa using e1) (by simpa using e2) (fun j u p a b => h1 (j + 1) u p (by simpa using a) (by simpa using b)) (fun j u p a b => h2 (j + 1) u p (by simpa using a) (by simpa using b)) ?_)
      rw [el, if_pos c'] at h
      exact h
    · have c' := of_decide_eq_false c
      rw [el, if_neg c'] at h
      refine PySem.W.kat_no ?_
      rw [Bool.false_and]
      exact PySem.W.kat_one _ _ (pair_rc (by omega) hp hq prog w _ _ h)
  | [], _, _ :: _, _, _, e, _, _, _, _ => nomatch e
  | _ :: _, _, [], _, _, e, _, _, _, _ => nomatch e
  | _ :: _, [], _ :: _, _ :: _, _, _, e, _, _, _ => nomatch e
  | _ :: _, _ :: _, _ :: _, [], _, _, e, _, _, _ => nomatch e
theorem lt_tup {u v : Value} {L M : List PP} {Q : Bool → Shared → Prop} (hu : A.units + 20 < cLine) (h1 : IsLd s.heap u L) (h2 : IsLd s.heap v M) (h : Q (ltL L M) s) : wpAny (model prog w) A (keyLt' (tuples' false) u v) Q E s := by
  obtain ⟨a, o, xs, n, rfl, ho, hc, hd, hl, hp⟩ := h1
  obtain ⟨b, o2, ys, n2, rfl, ho2, hc2, hd2, hl2, hp2⟩ := h2
  refine PySem.W.kat_lt ho hd ho2 hd2 ?_
  rw [hl, hl2]
  exact katL (by omega) _ _ L M 0 (by simpa using hl) (by simpa using hl2) (fun j u p a b => hp j u p (by simpa using a) b) (fun j u p a b => hp2 j u p (by simpa using a) b) h
theorem lt_gen {u v : Value} {L M : List PP} {Q : Bool → Shared → Prop} (hu : A.units + 20 < cLine) (h1 : IsLd s.heap u L) (h2 : IsLd s.heap v M) (h : Q (ltL L M) s) : wpAny (model prog w) A (keyLt' general' u v) Q E s := by
  rw [show keyLt' general' u v = oneLt' false u v from rfl]
  exact PySem.W.kat_one _ _ (load_rc (by omega) (by show A.units + 1 + 4 < cLine; omega) h1 h2 prog w _ _ h)
theorem lt_one {u v : Value} {L M : List PP} {Q : Bool → Shared → Prop} (hu : A.units + 20 < cLine) (h1 : IsLd s.heap u L) (h2 : IsLd s.heap v M) (h : Q (ltL L M) s) : wpAny (model prog w) A (keyLt' oneType' u v) Q E s := by
  obtain ⟨a, o, xs, n, rfl, ho, hc, hd, hl, hp⟩ := h1
  obtain ⟨b, o2, ys, n2, rfl, ho2, hc2, hd2, hl2, hp2⟩ := h2
  obtain ⟨cls, dd, data, sl⟩ := o
  obtain ⟨cls2, dd2, data2, sl2⟩ := o2
  simp only at hc hd hc2 hd2
  subst hc hd hc2 hd2
  have gL : ∀ (j : Nat), j < xs.size → L[j]? = some (L.getD j (0, 0)) := fun j h => by rw [List.getD_eq_getElem?_getD, List.getElem?_eq_getElem (by omega)]; rfl
  have gM : ∀ (j : Nat), j < ys.size → M[j]? = some (M.getD j (0, 0)) := fun j h => by rw [List.getD_eq_getElem?_getD, List.getElem?_eq_getElem (by omega)]; rfl
  rw [keyLt'_oneType, oneLt'_eq]
  simp only [if_true]
  refine wpAny_bind (wpAny_cRoomFor (by omega) ?_)
  refine wpAny_bind (wpAny_callSpecialIfBound?_slot (T := "tuple") ⟨_, ho, rfl⟩ PySem.F.slot_tuple_lt ?_)
  refine call_meets PySem.F.slot_tuple_lt ⟨_, ho, rfl⟩ PySem.F.entry_tuple_lt (PySem.F.args_tuple_lt_2 _ _) (Ob.tuple_ltAt a b xs ys n n2 dd dd2 sl sl2 (fun j => decide (L.getD j (0, 0) = M.getD j (0, 0))) (fun j => lexB (L.getD j (0, 0)) (M.getD j (0, 0)))) ⟨ho, ho2, fun j j1 j2 => ?_, fun j j1 j2 _ => ?_, ?_⟩
  · exact pair_eq (by show A.units + 1 + 4 < cLine; omega) (hp j _ _ (Array.getElem?_eq_getElem j1) (gL j j1)) (hp2 j _ _ (Array.getElem?_eq_getElem j2) (gM j j2))
  · exact pair_rc (by show A.units + 1 < cLine; omega) (hp j _ _ (Array.getElem?_eq_getElem j1) (gL j j1)) (hp2 j _ _ (Array.getElem?_eq_getElem j2) (gM j j2))
  · have e := lexAt_ltL L M (fun j => decide (L.getD j (0, 0) = M.getD j (0, 0))) (fun j => lexB (L.getD j (0, 0)) (M.getD j (0, 0))) 0 fun j p q h1 h2 => by
      rw [Nat.zero_add, List.getD_eq_getElem?_getD, List.getD_eq_getElem?_getD, h1, h2]
      exact ⟨rfl, rfl⟩
    rw [hl, hl2, e]
    exact wpAny_truthy_bool h
theorem ld_firsts {M : Model} : ∀ (vs : List Value), (∀ v ∈ vs, ∃ L, IsLd s.heap v L) → ∃ fs : List (Option Value), fs.length = vs.length ∧ (∀ f, some f ∈ fs → ∃ x y, IsPair s.heap f x y) ∧ ∀ (E : Value → Shared → Prop) (Q : List (Option Value) → Shared → Prop), Q fs s → wpAny M A (vs.mapM firstOfTuple') Q E s
  | [], _ => ⟨[], rfl, (fun f h => nomatch h), fun E Q h => by rw [List.mapM_nil]; exact wpAny_pure h⟩
  | v :: vs, hL => by
    obtain ⟨fs, f1, f2, f3⟩ := ld_firsts (M := M) vs fun v' hm => hL v' (List.mem_cons_of_mem _ hm)
    obtain ⟨L, a, o, xs, n, rfl, ho, hc, hd, hl, hp⟩ := hL v (List.mem_cons_self ..)
    refine ⟨xs[0]? :: fs, by rw [List.length_cons, List.length_cons, f1], fun f hm => ?_, fun E Q h => ?_⟩
    · rcases List.mem_cons.mp hm with e | e
      · have h0 : 0 < xs.size := by
          rcases Nat.eq_zero_or_pos xs.size with z | z
          · rw [Array.getElem?_eq_none (by omega)] at e; cases e
          · exact z
        have hL0 : L[0]? = some L[0] := List.getElem?_eq_getElem (by omega)
        exact ⟨_, _, hp 0 f _ e.symm hL0⟩
      · exact f2 f e
    · rw [List.mapM_cons]
      refine wpAny_bind ?_
      rw [PySem.W.kas_first_eq]
      refine wpAny_bind (PySem.W.Looks.here (show PySem.W.Looks M s.heap (typeOf (.ref a)) o.cls from (PySem.W.Looks.ld ho).andThen .now) ?_)
      rw [hc, if_neg (by first | decide | simp)]
      refine wpAny_bind (listItems_at ho hd (wpAny_pure ?_))
      exact wpAny_bind (f3 E _ (wpAny_pure h))
theorem ld_type {M : Model} {v : Value} {L : List PP} (h : IsLd s.heap v L) : PySem.W.Looks M s.heap (typeOf v) (.type "tuple") := by
  obtain ⟨a, o, xs, n, rfl, ho, hc, _⟩ := h
  rw [← hc]
  exact (PySem.W.Looks.ld ho).andThen .now
theorem pr_type {M : Model} {v : Value} {x y : Int} (h : IsPair s.heap v x y) : PySem.W.Looks M s.heap (typeOf v) (.type "tuple") := by
  obtain ⟨a, o, t, u, n, rfl, ho, hc, _⟩ := h
  rw [← hc]
  exact (PySem.W.Looks.ld ho).andThen .now
theorem one_tup {M : Model} {vs : List Value} {Q : Option Value → Shared → Prop} (h0 : 0 < vs.length) (hT : ∀ v ∈ vs, PySem.W.Looks M s.heap (typeOf v) (.type "tuple")) (h : Q (some (.type "tuple")) s) : wpAny M A (oneTypeOnly' vs.toArray) Q E s := by
  obtain ⟨v, r, rfl⟩ : ∃ v r, vs = v :: r := by
    match vs, h0 with
    | v :: r, _ => exact ⟨v, r, rfl⟩
  rw [oneTypeOnly'_eq, List.mapM_toArray, map_eq_pure_bind]
  refine wpAny_bind (wpAny_bind (PySem.W.kas_mapM (r := Value.type "tuple") _ (fun v hv Q' hq => (hT v hv).here hq) (wpAny_pure ?_)))
  have hall : ((List.map (fun _ => Value.type "tuple") (v :: r)).toArray.all fun x => x == Value.type "tuple") = true := by
    simp only [List.all_toArray, List.all_map, List.all_eq_true]
    intro _ _
    rfl
  have e0 : (List.map (fun _ => Value.type "tuple") (v :: r)).toArray[0]? = some (Value.type "tuple") := by simp
  rw [e0]
  simp only [hall, if_true]
  exact wpAny_pure h
theorem ld_kind {M : Model} {vs : List Value} (h0 : 0 < vs.length) (hL : ∀ v ∈ vs, ∃ L, IsLd s.heap v L) : ∃ κ : SortKind, (κ = tuples' false ∨ κ = general' ∨ κ = oneType') ∧ ∀ (E : Value → Shared → Prop) (Q : SortKind → Shared → Prop), Q κ s → wpAny M A (keyKind' vs.toArray) Q E s := by
  obtain ⟨fs, f1, f2, f3⟩ := ld_firsts (M := M) (A := A) vs hL
  have tv : ∀ v ∈ vs, PySem.W.Looks M s.heap (typeOf v) (.type "tuple") := fun v hv => ld_type (hL v hv).choose_spec
  by_cases hall : (fs.toArray.all fun x => x.isSome) = true
  · refine ⟨tuples' false, .inl rfl, fun E Q h => ?_⟩
    rw [kat_kind_eq, List.mapM_toArray, map_eq_pure_bind]
    refine wpAny_bind (wpAny_bind (f3 E _ (wpAny_pure ?_)))
    rw [if_pos hall]
    refine wpAny_bind (wpAny_rule ?_)
    have hfm : fs.toArray.filterMap id = (fs.filterMap id).toArray := by simp
    rw [hfm]
    have hne : 0 < (fs.filterMap id).length := by
      cases fs with
      | nil => rw [List.length_nil] at f1; omega
      | cons x r =>
        cases x with
        | none => simp at hall
        | some f => simp
    refine wpAny_bind (one_tup hne (fun f hf => ?_) (wpAny_pure ?_))
    · obtain ⟨o, ho, e⟩ := List.mem_filterMap.mp hf
      change o = some f at e
      obtain ⟨x, y, hp⟩ := f2 f (e ▸ ho)
      exact pr_type hp
    · have e : (Option.any (fun x => x != Value.type "tuple") (some (Value.type "tuple"))) = false := by first | rfl | decide +kernel
      rw [e]
      exact h
  · by_cases hf : (fs.toArray[0]?.bind id).isSome = true
    · refine ⟨general', .inr (.inl rfl), fun E Q h => ?_⟩
      rw [kat_kind_eq, List.mapM_toArray, map_eq_pure_bind]
      refine wpAny_bind (wpAny_bind (f3 E _ (wpAny_pure ?_)))
      rw [if_neg hall, if_pos hf]
      exact wpAny_pure h
    · refine ⟨oneType', .inr (.inr rfl), fun E Q h => ?_⟩
      rw [kat_kind_eq, List.mapM_toArray, map_eq_pure_bind]
      refine wpAny_bind (wpAny_bind (f3 E _ (wpAny_pure ?_)))
      rw [if_neg hall, if_neg hf]
      exact wpAny_bind (one_tup h0 tv (wpAny_pure h))
theorem loads_cmp {κ : SortKind} {vs : List Value} {k : Value → List PP} (hu : A.units + 20 < cLine) (hk : κ = tuples' false ∨ κ = general' ∨ κ = oneType') (hv : ∀ v ∈ vs, IsLd s.heap v (k v)) : Cmp prog w A s κ (fun p => p.1 ∈ vs) (lt2 fun v u => ltL (k v) (k u)) := by
  intro p q hp hq
  rcases hk with rfl | rfl | rfl
  · exact lt_tup (Q := fun r s' => s' = s ∧ r = ltL (k p.1) (k q.1)) (E := fun _ _ => False) hu (hv p.1 hp) (hv q.1 hq) ⟨rfl, rfl⟩
  · exact lt_gen (Q := fun r s' => s' = s ∧ r = ltL (k p.1) (k q.1)) (E := fun _ _ => False) hu (hv p.1 hp) (hv q.1 hq) ⟨rfl, rfl⟩
  · exact lt_one (Q := fun r s' => s' = s ∧ r = ltL (k p.1) (k q.1)) (E := fun _ _ => False) hu (hv p.1 hp) (hv q.1 hq) ⟨rfl, rfl⟩
theorem loads_sortable {a : Addr} {vs : List Value} {k : Value → List PP} (hu : A.units + 20 < cLine) (h0 : 0 < vs.length) (hv : ∀ v ∈ vs, IsLd s.heap v (k v)) (ha : ∀ o, s.heap.get? a = some o → o.cls ≠ .type "tuple") : SortableO prog w A s a vs fun v u => ltL (k v) (k u) := by
  intro h' keep
  have hv' : ∀ v ∈ vs, IsLd h' v (k v) := fun v hm => (hv v hm).keeps fun b o e c => keep b o (fun z => by subst z; exact ha o e c) e
  obtain ⟨κ, hk, hq⟩ := ld_kind (s := { s with heap := h' }) (M := model prog w) (A := A) h0 (fun v hm => ⟨_, hv' v hm⟩)
  exact ⟨κ, fun Q E h => hq E Q h, loads_cmp (s := { s with heap := h' }) hu hk hv'⟩
theorem lexB_tri {p q : PP} (h : p ≠ q) : lexB q p = !lexB p q := by
  have a := lexB_iff (p := p) (q := q)
  have b := lexB_iff (p := q) (q := p)
  have ne : ¬ (p.1 = q.1 ∧ p.2 = q.2) := fun ⟨e1, e2⟩ => h (Prod.ext e1 e2)
  cases e1 : lexB p q <;> cases e2 : lexB q p <;> simp only [e1, e2] at a b <;> first | rfl | (exfalso; simp at a b; omega)
theorem ltL_irr : ∀ L : List PP, ltL L L = false
  | [] => rfl
  | p :: L => by show (if p = p then ltL L L else lexB p p) = false; rw [if_pos rfl]; exact ltL_irr L
theorem ltL_asym : ∀ L M : List PP, ltL L M = true → ltL M L = false
  | [], [], _ => rfl
  | [], _ :: _, _ => rfl
  | _ :: _, [], h => nomatch h
  | p :: L, q :: M, h => by
    change (if p = q then ltL L M else lexB p q) = true at h
    show (if q = p then ltL M L else lexB q p) = false
    by_cases c : p = q
    · rw [if_pos c] at h
      rw [if_pos c.symm]
      exact ltL_asym L M h
    · rw [if_neg c] at h
      rw [if_neg (fun z => c z.symm), lexB_tri c, h]
      rfl
/-- neither before the other: alike -/
theorem ltL_eq : ∀ L M : List PP, ltL L M = false → ltL M L = false → L = M
  | [], [], _, _ => rfl
  | [], _ :: _, h, _ => nomatch h
  | _ :: _, [], _, h => nomatch h
  | p :: L, q :: M, h, g => by
    change (if p = q then ltL L M else lexB p q) = false at h
    change (if q = p then ltL M L else lexB q p) = false at g
    by_cases c : p = q
    · rw [if_pos c] at h
      rw [if_pos c.symm] at g
      rw [c, ltL_eq L M h g]
    · rw [if_neg c] at h
      rw [if_neg (fun z => c z.symm), lexB_tri c, h] at g
      cases g
theorem lexB_tr {p q r : PP} (h : lexB p q = true) (g : lexB q r = true) : lexB p r = true := by
  have a := lexB_iff.mp h
  have b := lexB_iff.mp g
  exact lexB_iff.mpr (by omega)
theorem ltL_tr : ∀ L M N : List PP, ltL L M = true → ltL M N = true → ltL L N = true
  | [], [], _, h, _ => nomatch h
  | [], _ :: _, [], _, g => nomatch g
  | [], _ :: _, _ :: _, _, _ => rfl
  | _ :: _, [], _, h, _ => nomatch h
  | _ :: _, _ :: _, [], _, g => nomatch g
  | p :: L, q :: M, r :: N, h, g => by
    change (if p = q then ltL L M else lexB p q) = true at h
    change (if q = r then ltL M N else lexB q r) = true at g
    show (if p = r then ltL L N else lexB p r) = true
    by_cases c : p = q
    · subst c
      rw [if_pos rfl] at h
      by_cases d : p = r
      · rw [if_pos d] at g ⊢
        exact ltL_tr L M N h g
      · rw [if_neg d] at g ⊢
        exact g
    · rw [if_neg c] at h
      by_cases d : q = r
      · rw [← d, if_neg c]
        exact h
      · rw [if_neg d] at g
        have k := lexB_tr h g
        have ne : p ≠ r := fun z => by
          rw [z] at h
          have := lexB_tri d
          rw [h, g] at this
          cases this
        rw [if_neg ne]
        exact k
theorem swo_ltL (k : Value → List PP) : Swo fun v u => ltL (k v) (k u) := by
  refine ⟨fun x y h => ltL_asym _ _ h, fun x y z h1 h2 => ?_⟩
  cases e : ltL (k z) (k x) with
  | false => rfl
  | true =>
    exfalso
    cases e1 : ltL (k x) (k y) with
    | true =>
      have := ltL_tr _ _ _ e e1
      rw [h2] at this
      cases this
    | false =>
      have := ltL_eq _ _ e1 h1
      rw [this] at e
      rw [h2] at e
      cases e
end
end Srl
set_option Elab.async false
set_option linter.all false
set_option maxRecDepth 100000
set_option maxHeartbeats 4000000
namespace Srl
open PySem PyProof.Rows Srt SrtO Sd
section
variable {prog : Program} {w : World} {A : Around} {E : Value → Shared → Prop} {s : Shared}
theorem collect_tup {l : Addr} {vs : List Value} {Q : List Value → Shared → Prop} (hl : s.heap.IsTuple l vs.toArray)
    (h : Q vs { s with heap := (s.heap.push (seqObj "list" #[] 0)).update s.heap.objs.size (Obj.mapSeq (· ++ vs.toArray)) }) (hsz : vs.length ≤ sizeLine) :
    wpAny (model prog w) A (collect (.ref l)) Q E s := by
  obtain ⟨o, ho, hc, n, hd⟩ := id hl
  unfold collect
  refine wpAny_bind (wpAny_runValue (codeAny_builtin entry_proto_collect' ?_))
  show wpAny _ _ (do again (.builtin "list.__iadd__" ⟨[← newList [], .ref l], []⟩)) _ _ s
  refine wpAny_bind (wpAny_newList (wpAny_pure ⟨Code.quiet_builtin _ (by decide +kernel), codeAny_builtin entry_list_iadd' ?_⟩))
  show wpAny _ _ (Builtin.List.listExtendWith (.ref s.heap.objs.size) (.ref l) (.ref s.heap.objs.size)) _ _ { s with heap := s.heap.push (seqObj "list" #[] 0) }
  unfold Builtin.List.listExtendWith
  have ho' : (s.heap.push (seqObj "list" #[] 0)).get? l = some o := Heap.get?_push_of_some _ ho
  refine wpAny_bind (wpAny_typeOf (T := "tuple") ⟨o, ho', hc⟩ ?_)
  have ht : (Value.type "tuple" == Value.type "tuple") = true := by rfl
  rw [if_pos (by rw [ht]; simp)]
  refine wpAny_bind (listItems_at ho' hd ?_)
  refine wpAny_bind (listItems_at (xs := #[]) (n := 0) (Heap.get?_push_size _ rfl) rfl ?_)
  rw [if_neg (by simp)]
  refine wpAny_bind (listUpdate_at (xs := #[]) (n := 0) (Heap.get?_push_size _ rfl) rfl ?_ (Nat.zero_le _) (by show (#[] ++ vs.toArray).size ≤ sizeLine + 1; simp only [Array.size_append, List.size_toArray, List.length_nil]; omega))
  refine wpAny_pure ?_
  show wpAny (model prog w) A (do
      let o ← load s.heap.objs.size
      match o.data with
      | .seq xs _ => pure xs.toList
      | _ => unsupported "internal:collect") Q E { s with heap := (s.heap.push (seqObj "list" #[] 0)).update s.heap.objs.size (Obj.mapSeq (· ++ vs.toArray)) }
  refine wpAny_bind (wpAny_load (get?_update_seq (Heap.get?_push_size _ rfl) _) ?_)
  show wpAny _ _ (pure ((#[] : Array Value) ++ vs.toArray).toList) Q E _
  rw [show ((#[] : Array Value) ++ vs.toArray).toList = vs by simp]
  exact wpAny_pure h
/-- sorted(t), t a tuple -/
theorem sorted_ordT {l : Addr} {vs : List Value} {ltv : Value → Value → Bool} {Q : Value → Shared → Prop} (O : Swo ltv) (hl : s.heap.IsTuple l vs.toArray) (hz : vs.length ≤ sizeLine)
    (hS : 2 ≤ vs.length → ∀ (h₁ : Heap) (a : Addr), h₁.get? a = some (seqObj "list" vs.toArray 0) → (∀ b o, s.heap.get? b = some o → b ≠ a ∧ h₁.get? b = some o) → SortableO prog w A.in1.in1 { s with heap := h₁ } a vs ltv)
    (h : ∀ out : List Value, Srtd ltv out → Stb ltv out vs → Q (.ref (s.heap.objs.size + 1)) { s with heap := sortedAll s.heap vs out.toArray }) :
    wpAny (model prog w) A (call (.builtin "sorted") [.ref l]) Q E s := by
  refine Calls.call_function_entry kind_sorted plain_sorted entry_sorted (args_sorted1 _) ?_
  unfold Builtin.«sorted»
  refine wpAny_bind (m := checkCount "sorted" 1 1 _) (wpAny_pure ?_)
  refine wpAny_bind (collect_tup hl ?_ hz)
  refine wpAny_bind (wpAny_newList ?_ hz)
  have hsz : ((s.heap.push (seqObj "list" #[] 0)).update s.heap.objs.size (Obj.mapSeq (· ++ vs.toArray))).objs.size = s.heap.objs.size + 1 := by
    rw [Heap.size_update, size_push']
  have hoL : (((s.heap.push (seqObj "list" #[] 0)).update s.heap.objs.size (Obj.mapSeq (· ++ vs.toArray))).push (seqObj "list" vs.toArray 0)).get? (s.heap.objs.size + 1) = some (seqObj "list" vs.toArray 0) := by
    rw [← hsz]; exact Heap.get?_push_size _ rfl
  have keep : ∀ b o, s.heap.get? b = some o → b ≠ s.heap.objs.size + 1 ∧ (((s.heap.push (seqObj "list" #[] 0)).update s.heap.objs.size (Obj.mapSeq (· ++ vs.toArray))).push (seqObj "list" vs.toArray 0)).get? b = some o := fun b o q => by
    have hlt : b < s.heap.objs.size := Heap.lt_size q
    refine ⟨Nat.ne_of_lt (Nat.lt_succ_of_lt hlt), Heap.get?_push_of_some _ ?_⟩
    rw [Heap.get?_update_ne _ _ _ _ (Nat.ne_of_lt hlt)]
    exact Heap.get?_push_of_some _ q
  show wpAny _ _ _ _ _ { s with heap := ((s.heap.push (seqObj "list" #[] 0)).update s.heap.objs.size (Obj.mapSeq (· ++ vs.toArray))).push (seqObj "list" vs.toArray 0) }
  rw [hsz]
  refine wpAny_bind (wpAny_holding (wpAny_call_entry slot_list_sort ⟨_, hoL, rfl⟩ entry_list_sort (list_sort_ord O hoL hz (fun h2 => hS h2 _ _ hoL keep) fun out hs hb => ⟨_, rfl, ?_⟩) (args_list_sort _)))
  exact wpAny_pure ⟨_, rfl, h out hs hb⟩
theorem sorted_loadsT {l : Addr} {vs : List Value} {k : Value → List PP} {Q : Value → Shared → Prop} (hu : A.units + 30 < cLine) (hl : s.heap.IsTuple l vs.toArray) (hz : vs.length ≤ sizeLine) (hp : ∀ v ∈ vs, IsLd s.heap v (k v))
    (h : ∀ (h' : Heap) (d : Addr) (out : List Value), Srtd (fun v u => ltL (k v) (k u)) out → Stb (fun v u => ltL (k v) (k u)) out vs → (∀ b o, s.heap.get? b = some o → h'.get? b = some o) → s.heap.objs.size ≤ d → (∃ n, h'.get? d = some (seqObj "list" out.toArray n)) → Q (.ref d) { s with heap := h' }) :
    wpAny (model prog w) A (call (.builtin "sorted") [.ref l]) Q E s := by
  refine sorted_ordT (swo_ltL k) hl hz (fun h2 h₁ a ha kk => ?_) fun out hs hb => ?_
  · refine loads_sortable (s := { s with heap := h₁ }) (by show A.units + 1 + 1 + 20 < cLine; omega) (by omega) (fun v hm => (hp v hm).keeps fun b o e _ => (kk b o e).2) fun o e => ?_
    have e' : some o = some (seqObj "list" vs.toArray 0) := e.symm.trans ha
    cases e'
    intro c
    exact absurd (Value.type.inj c) (by decide)
  · exact h _ _ out hs hb (fun b o e => sortedAll_old e) (Nat.le_succ _) (sortedAll_at s.heap vs out.toArray)
end
end Srl
/-! ### at the level of the promises -/
namespace Srl
open PySem PySem.Spec PyProof.Rows L2 Com Sd StV
/-- loads in ascending order -/
def leL (L M : List PP) : Bool := !ltL M L
def srtL (S : List (List PP)) : List (List PP) := S.mergeSort leL
theorem leL_trans (a b c : List PP) (h : leL a b = true) (g : leL b c = true) : leL a c = true := by
  have o := (swo_ltL fun _ => a)
  unfold leL at *
  cases e : ltL c a with
  | false => rfl
  | true =>
    have h' : ltL b a = false := by simpa using h
    have g' : ltL c b = false := by simpa using g
    exfalso
    cases e1 : ltL a b with
    | true =>
      have := ltL_tr _ _ _ e e1
      rw [g'] at this
      cases this
    | false =>
      have := ltL_eq _ _ e1 h'
      rw [this, g'] at e
      cases e
theorem leL_total (a b : List PP) : (leL a b || leL b a) = true := by
  unfold leL
  cases e : ltL a b with
  | false => simp
  | true => rw [ltL_asym _ _ e]; rfl
theorem leL_anti {a b : List PP} (h : leL a b = true) (g : leL b a = true) : a = b := by
  unfold leL at *
  exact ltL_eq _ _ (by simpa using g) (by simpa using h)
theorem srtL_perm (S : List (List PP)) : (srtL S).Perm S := List.mergeSort_perm S leL
theorem srtL_le (S : List (List PP)) : (srtL S).Pairwise (fun a b => leL a b = true) := List.pairwise_mergeSort leL_trans leL_total S
theorem srtL_uniq {S T : List (List PP)} (h : T.Perm S) (g : T.Pairwise (fun a b => leL a b = true)) : T = srtL S :=
  List.Perm.eq_of_pairwise (fun a b _ _ h1 h2 => leL_anti h1 h2) g (srtL_le S) (h.trans (srtL_perm S).symm)
theorem srtL_perm_eq {S T : List (List PP)} (h : T.Perm S) : srtL T = srtL S := srtL_uniq ((srtL_perm T).trans h) (srtL_le T)
theorem srtL_len (S : List (List PP)) : (srtL S).length = S.length := (srtL_perm S).length_eq
theorem srtL_srtL (S : List (List PP)) : srtL (srtL S) = srtL S := srtL_perm_eq (srtL_perm S)
end Srl
set_option Elab.async false
set_option linter.all false
set_option maxRecDepth 100000
set_option maxHeartbeats 4000000
namespace Srl
open PySem PySem.Spec PyProof.Rows L2 Com Sd StV
def kL (H : Hp) (v : V) : List PP := match v with
  | .ref a => match H a with
    | some (.tup us) => us.map (kOf H)
    | _ => []
  | _ => []
theorem kL_of {H : Hp} {v : V} {L : List PP} (h : LoadV H v L) : kL H v = L := by
  obtain ⟨a, us, rfl, e, hp⟩ := h
  show (match H a with | some (.tup us) => us.map (kOf H) | _ => []) = L
  rw [e]
  exact (pairsV_map hp).symm
theorem loadsV_map {H : Hp} : ∀ {vs : List V} {S : List (List PP)}, LoadsV H vs S → S = vs.map (kL H)
  | _, _, .nil => rfl
  | _, _, .cons h t => by rw [List.map_cons, ← loadsV_map t, kL_of h]
theorem loadsV_mem {H : Hp} : ∀ {vs : List V} {S : List (List PP)}, LoadsV H vs S → ∀ v ∈ vs, LoadV H v (kL H v)
  | _, _, .nil, v, hv => nomatch hv
  | _, _, .cons h t, v, hv => by
    rcases List.mem_cons.mp hv with e | e
    · subst e
      rw [kL_of h]
      exact h
    · exact loadsV_mem t v e
theorem loadsV_of {H : Hp} : ∀ {vs : List V}, (∀ v ∈ vs, LoadV H v (kL H v)) → LoadsV H vs (vs.map (kL H))
  | [], _ => .nil
  | v :: vs, h => .cons (h v (List.mem_cons_self ..)) (loadsV_of fun u hu => h u (List.mem_cons_of_mem _ hu))
section
variable {X : Cx}
theorem isLd {pins : List (Addr × Obj)} {σ : L2.St} {H : Hp} {s : Shared} (I : Inv X pins σ H s) {t : Addr} {L : List PP} (h : LoadV H (.ref t) L) : IsLd s.heap (.ref t) L := by
  obtain ⟨b, us, e, hb, hP⟩ := h
  cases e
  obtain ⟨_, its, rv, o, ho, hc, n, hd⟩ := I.hok _ _ hb
  have l1 := rv.length
  have l2 := Paired.length hP
  refine ⟨t, o, its.toArray, n, rfl, ho, hc, hd, by simp; omega, fun j u p hu hp => ?_⟩
  have hu' : its[j]? = some u := by simpa using hu
  obtain ⟨y, hy, c, rfl, hcc⟩ := StV.paired_get' hP hp
  obtain ⟨u2, hu2, ru⟩ := Vals.get rv hy
  rw [hu'] at hu2
  cases hu2
  obtain rfl : u = Value.ref c := ru
  obtain ⟨_, its2, r2, o2, ho2, hc2, n2, hd2⟩ := I.hok _ _ hcc
  obtain ⟨u1, u2, rfl, ri, rj⟩ := vals2 r2
  obtain ⟨t1, rfl⟩ := ri
  obtain ⟨t2, rfl⟩ := rj
  exact ⟨c, o2, t1, t2, n2, rfl, ho2, hc2, hd2⟩
def rSrtL (K : PySem.W.Frag) : List V → Hp → VK → Prop := fun xs H Q => ∃ (a : Addr) (vs : List V) (S : List (List PP)), xs = [V.ref a] ∧ H a = some (.tup vs) ∧ LoadsV H vs S ∧
  ∀ us p, LoadsV H us (srtL S) → us.length = vs.length → H p = none → Q (.ref p) (upd H p (.lst us))
theorem cr_srtL (hu : X.A.units + 64 < cLine) (K : PySem.W.Frag) (hK : X.K = K := by rfl) : CallR X (.builtin "sorted") (rSrtL K) := by
  subst hK
  intro pins s σ H vs us Q I r h
  obtain ⟨a, xs, S, rfl, ha, hP, q⟩ := h
  obtain ⟨its, rv, hl, hz⟩ := I.tuple (SqT.of (K := X.K) ha)
  obtain ⟨u, rfl, ru⟩ := vals1 r
  obtain rfl : u = Value.ref a := ru
  obtain ⟨e1, e2⟩ := refs_back rv fun x m => by
    obtain ⟨t, us, e, _⟩ := loadsV_mem hP x m
    exact ⟨t, e⟩
  refine sorted_loadsT (k := fun u => kL H (backV u)) (by omega) (show s.heap.IsTuple a its.toArray from hl) (by rw [← rv.length]; exact hz) (fun v hv => ?_) fun h' d out h1 h2 kp hd hn => ?_
  · obtain ⟨t, rfl⟩ := e2 v hv
    have hm : V.ref t ∈ xs := by rw [e1]; exact List.mem_map.mpr ⟨_, hv, rfl⟩
    exact isLd I (loadsV_mem hP _ hm)
  · have h3 : ∀ u ∈ out, ∃ a, u = Value.ref a := fun u hu => e2 u (h2.perm.mem_iff.mp hu)
    obtain ⟨n, hn⟩ := hn
    have pm : (out.map backV).Perm xs := by
      rw [e1]
      exact h2.perm.map _
    have hS := loadsV_map hP
    have hU : LoadsV H (out.map backV) (srtL S) := by
      have e : srtL S = (out.map backV).map (kL H) := by
        refine (srtL_uniq ?_ ?_).symm
        · rw [hS]
          exact pm.map _
        · rw [List.map_map, List.pairwise_map]
          refine h1.imp fun {a b} z => ?_
          show (!ltL (kL H (backV b)) (kL H (backV a))) = true
          rw [show ltL (kL H (backV b)) (kL H (backV a)) = false from z]
          rfl
      rw [e]
      exact loadsV_of fun v hv => loadsV_mem hP v (pm.mem_iff.mp hv)
    have len : (out.map backV).length = xs.length := pm.length_eq
    refine ⟨.ref d, upd H d (.lst (out.map backV)), I.laid (t' := s.toks) kp hd ⟨?_, out, n, vals_back h3, hn⟩, rfl, q _ d hU len (I.hok.fresh hd)⟩
    rw [len]
    exact hz
end
end Srl
set_option Elab.async false
set_option linter.all false
set_option maxRecDepth 100000
set_option maxHeartbeats 4000000
namespace Srl
open PySem PySem.Spec PyProof.Rows L2 Com Sd StV
/-! ### list.remove of data -/
section
variable {X : Cx}
def rRemD (K : PySem.W.Frag) : V → List V → Hp → VK → Prop := fun x xs H Q => ∃ (l : Addr) (vs : List V) (y : V) (d : PyData) (ds : List PyData) (j : Nat) (z : PyData), x = V.ref l ∧ xs = [y] ∧ H l = some (.lst vs) ∧ DpAll K H vs ds ∧ Dp K H y d ∧
  SeqAt.shaped (.list ds) = true ∧ SeqAt.shaped d = true ∧ ds[j]? = some z ∧ PyData.eqv z d = true ∧ (∀ (m : Nat) (z' : PyData), m < j → ds[m]? = some z' → PyData.eqv z' d = false) ∧ Q .non (upd H l (.lst (vs.eraseIdx j)))
theorem mt_removeD (hu : X.A.units + 65 < cLine) : MtM X "list.remove" (rRemD X.K) := by
  intro pins s σ H x xs v us Q I rx rxs h
  obtain ⟨l, vs, y, d, ds, j, z0, rfl, rfl, hH, ha, hy, sl, sd, hz, hzj, hno, q⟩ := h
  cases rx
  obtain ⟨uy, rfl, ry⟩ := rxs.one
  obtain ⟨z, its, n, r, hl, e⟩ := I.lstM hH
  obtain ⟨bs, r1⟩ := Dp.reads I d y uy hy ry
  obtain ⟨as, h4⟩ := Dp.readsAll I ds _ its ha r
  have hxs : PyData.canLayAll0 ds = true := SeqAt.canLay_of_shaped sl
  have hroom : X.A.units + 1 + min (PyData.depthAll ds) d.depth < cLine := room_in_shaped sd hu
  have hn : its.length = ds.length := SeqAt.ReadsAll.length ds its as h4
  have hmap : its.map (SeqAt.readOf s.heap) = ds := SeqAt.readsAll_map ds its as hxs h4
  have hvl := r.length
  obtain ⟨hjd, _⟩ := List.getElem?_eq_some_iff.mp hz
  have hjl : j < its.toArray.size := by rw [List.size_toArray]; omega
  have at_ : ∀ (m : Nat) (hm : m < its.toArray.size) (z' : PyData), ds[m]? = some z' → SeqAt.readOf s.heap its.toArray[m] = z' := by
    intro m hm z' hz'
    have hml : m < its.length := by simpa using hm
    rw [← hmap, List.getElem?_map, List.getElem?_eq_getElem hml] at hz'
    have e1 : SeqAt.readOf s.heap its[m] = z' := Option.some.inj (show some (SeqAt.readOf s.heap its[m]) = some z' from hz')
    simpa using e1
  refine call_meets PySem.F.slot_list_remove ⟨_, e, rfl⟩ PySem.F.entry_list_remove (PySem.F.args_list_remove_2 _ _)
    (SeqAt.list_removeAt l its.toArray n _ _ uy (fun u => PyData.eqv (SeqAt.readOf s.heap u) d) j hjl ?_ ?_ (by rw [List.size_toArray]; omega)) ⟨e, SeqAt.items_eqAt (vs := its.toArray) (show ReadsAll s.heap its.toArray.toList ds as from h4) r1 hxs (SeqAt.canLay_of_shaped sd) hroom, ?_⟩
  · show PyData.eqv (SeqAt.readOf s.heap its.toArray[j]) d = true
    rw [at_ j hjl z0 hz]
    exact hzj
  · intro m hm hmj
    have hmd : m < ds.length := by rw [List.size_toArray] at hm; omega
    have hz' : ds[m]? = some ds[m] := List.getElem?_eq_getElem hmd
    show PyData.eqv (SeqAt.readOf s.heap its.toArray[m]) d = false
    rw [at_ m hm _ hz']
    exact hno m _ hmj hz'
  · have rr := r.eraseIdx j
    refine ⟨.non, _, I.lset (its' := its.eraseIdx j) (t' := s.toks) hH e ?_ rr ?_, rfl, q⟩
    · show its.toArray.eraseIdxIfInBounds j = (its.eraseIdx j).toArray
      rw [List.eraseIdxIfInBounds_toArray]
    · have z2 : (vs.eraseIdx j).length ≤ vs.length := (List.eraseIdx_sublist vs j).length_le
      omega
end
/-! ### <= of loads -/
theorem nlt (x y : Int) : (!decide (y < x)) = decide (x ≤ y) := by
  by_cases h : x ≤ y
  · rw [decide_eq_true h, decide_eq_false (by omega)]; rfl
  · rw [decide_eq_false h, decide_eq_true (by omega)]; rfl
section
variable {A : Around} {s : Shared}
theorem pair_le {u v : Value} {p q : PP} (hu : A.units < cLine) (h1 : Srt.IsPair s.heap u p.1 p.2) (h2 : Srt.IsPair s.heap v q.1 q.2) : Ob.RcOp .LtE A s u v (!SrtO.lexB q p) := by
  obtain ⟨a, o, t, t', n, rfl, ho, hc, hd⟩ := h1
  obtain ⟨b, o2, t2, t2', n2, rfl, ho2, hc2, hd2⟩ := h2
  have k := Ob.RcOp.tuples_le (A := A) (s := s) (e := fun j => if j = 0 then (p.1 == q.1) else (p.2 == q.2)) (r := fun j => if j = 0 then decide (p.1 ≤ q.1) else decide (p.2 ≤ q.2))
    (show s.heap.IsTuple a #[.int p.1 t, .int p.2 t'] from ⟨o, ho, hc, n, hd⟩) (show s.heap.IsTuple b #[.int q.1 t2, .int q.2 t2'] from ⟨o2, ho2, hc2, n2, hd2⟩) hu
    (fun j j1 j2 => by
      have hj : j < 2 := j1
      match j, hj with
      | 0, _ => simpa using SeqAt.EqAt.int_int (A := A.in1) (s := s) p.1 t q.1 t2
      | 1, _ => simpa using SeqAt.EqAt.int_int (A := A.in1) (s := s) p.2 t' q.2 t2')
    (fun j j1 j2 _ => by
      have hj : j < 2 := j1
      match j, hj with
      | 0, _ => exact Ob.RcOp.le_int p.1 q.1 t t2
      | 1, _ => exact Ob.RcOp.le_int p.2 q.2 t' t2')
  have e : Ob.lexAt (fun j => if j = 0 then (p.1 == q.1) else (p.2 == q.2)) (fun j => if j = 0 then decide (p.1 ≤ q.1) else decide (p.2 ≤ q.2)) (decide ((#[Value.int p.1 t, .int p.2 t'] : Array Value).size ≤ (#[Value.int q.1 t2, .int q.2 t2'] : Array Value).size)) 0 (min (#[Value.int p.1 t, .int p.2 t'] : Array Value).size (#[Value.int q.1 t2, .int q.2 t2'] : Array Value).size) = !SrtO.lexB q p := by
    show Ob.lexAt _ _ (decide (2 ≤ 2)) 0 2 = _
    rw [Ob.lexAt_succ, Ob.lexAt_succ, Ob.lexAt_zero]
    unfold SrtO.lexB
    by_cases c : p.1 = q.1
    · by_cases c2 : p.2 = q.2
      · simp [c, c2]
      · have c3 : ¬ q.2 = p.2 := fun z => c2 z.symm
        simp [c, c2]
        exact (nlt _ _).symm
    · have c3 : ¬ q.1 = p.1 := fun z => c z.symm
      simp [c, c3]
      exact (nlt _ _).symm
  rw [e] at k
  exact k
theorem lexAt_leL : ∀ (L M : List PP) (e r : Nat → Bool) (i : Nat), (∀ j p q, L[j]? = some p → M[j]? = some q → e (i + j) = decide (p = q) ∧ r (i + j) = !SrtO.lexB q p) →
    Ob.lexAt e r (decide (L.length ≤ M.length)) i (min L.length M.length) = leL L M
  | [], [], e, r, i, _ => by simp [leL, ltL, Ob.lexAt]
  | [], q :: M, e, r, i, _ => by simp [leL, ltL, Ob.lexAt]
  | p :: L, [], e, r, i, _ => by simp [leL, ltL, Ob.lexAt]
  | p :: L, q :: M, e, r, i, h => by
    have h0 := h 0 p q rfl rfl
    have hm : min (p :: L).length (q :: M).length = min L.length M.length + 1 := by simp only [List.length_cons]; omega
    have hd : decide ((p :: L).length ≤ (q :: M).length) = decide (L.length ≤ M.length) := by simp only [List.length_cons]; exact decide_eq_decide.mpr (by omega)
    rw [hm, hd, Ob.lexAt_succ]
    rw [Nat.add_zero] at h0
    rw [h0.1, h0.2, lexAt_leL L M e r (i + 1) fun j a b ha hb => by
      have := h (j + 1) a b (by simpa using ha) (by simpa using hb)
      rwa [show i + (j + 1) = i + 1 + j by omega] at this]
    have el : leL (p :: L) (q :: M) = !(if q = p then ltL M L else SrtO.lexB q p) := rfl
    rw [el]
    by_cases c : p = q
    · rw [decide_eq_true c, if_pos rfl, if_pos c.symm]; rfl
    · rw [decide_eq_false c, if_neg Bool.false_ne_true, if_neg (fun z => c z.symm)]
theorem load_le {u v : Value} {L M : List PP} (hu : A.units + 20 < cLine) (h1 : IsLd s.heap u L) (h2 : IsLd s.heap v M) : Ob.RcOp .LtE A s u v (leL L M) := by
  obtain ⟨a, o, xs, n, rfl, ho, hc, hd, hl, hp⟩ := h1
  obtain ⟨b, o2, ys, n2, rfl, ho2, hc2, hd2, hl2, hp2⟩ := h2
  have gL : ∀ (j : Nat), j < xs.size → L[j]? = some (L.getD j (0, 0)) := fun j h => by rw [List.getD_eq_getElem?_getD, List.getElem?_eq_getElem (by omega)]; rfl
  have gM : ∀ (j : Nat), j < ys.size → M[j]? = some (M.getD j (0, 0)) := fun j h => by rw [List.getD_eq_getElem?_getD, List.getElem?_eq_getElem (by omega)]; rfl
  have k := Ob.RcOp.tuples_le (A := A) (s := s) (e := fun j => decide (L.getD j (0, 0) = M.getD j (0, 0))) (r := fun j => !SrtO.lexB (M.getD j (0, 0)) (L.getD j (0, 0)))
    (show s.heap.IsTuple a xs from ⟨o, ho, hc, n, hd⟩) (show s.heap.IsTuple b ys from ⟨o2, ho2, hc2, n2, hd2⟩) (by omega)
    (fun j j1 j2 => pair_eq (by show A.units + 1 + 4 < cLine; omega) (hp j _ _ (Array.getElem?_eq_getElem j1) (gL j j1)) (hp2 j _ _ (Array.getElem?_eq_getElem j2) (gM j j2)))
    (fun j j1 j2 _ => pair_le (by show A.units + 1 < cLine; omega) (hp j _ _ (Array.getElem?_eq_getElem j1) (gL j j1)) (hp2 j _ _ (Array.getElem?_eq_getElem j2) (gM j j2)))
  rw [hl, hl2, lexAt_leL L M _ _ 0 fun j p q h1 h2 => by
    rw [Nat.zero_add, List.getD_eq_getElem?_getD, List.getD_eq_getElem?_getD, h1, h2]
    exact ⟨rfl, rfl⟩] at k
  exact k
end
def rLeL : R2 := fun x y H Q => ∃ L M, LoadV H x L ∧ LoadV H y M ∧ Q (.bl (leL L M)) H
theorem op_leL {X : Cx} (hu : X.A.units + 64 < cLine) : OpR X (compareOp .LtE) rLeL := by
  intro pins s σ H x y v u Q I rx ry h
  obtain ⟨L, M, h1, h2, q⟩ := h
  have k1 := h1
  have k2 := h2
  obtain ⟨a, us, rfl, _⟩ := h1
  obtain ⟨b, ws, rfl, _⟩ := h2
  cases rx
  cases ry
  exact load_le (by omega) (isLd I k1) (isLd I k2) X.prog X.w X.xe (EP X pins σ Q) ⟨.bl _, H, I, rfl, q⟩
end Srl
set_option Elab.async false
set_option linter.all false
set_option maxRecDepth 100000
set_option maxHeartbeats 4000000
namespace Gn
open PySem PySem.Spec PyProof.Rows L2 Com Sd StV Ext Srl
/-! ### lists -/
def adj (S : List (List PP)) (k : Nat) : Bool := leL (S.getD k []) (S.getD (k + 1) [])
def adjs (S : List (List PP)) (k : Nat) : List Bool := (List.range k).map (adj S)
theorem adjs_succ (S : List (List PP)) (k : Nat) : adjs S (k + 1) = adjs S k ++ [adj S k] := by unfold adjs; rw [List.range_succ, List.map_append]; rfl
theorem adjs_len (S : List (List PP)) (k : Nat) : (adjs S k).length = k := by simp [adjs]
theorem asc_pw {S : List (List PP)} (h : ∀ k, k + 1 < S.length → adj S k = true) : S.Pairwise (fun a b => leL a b = true) := by
  rw [List.pairwise_iff_getElem]
  have gd : ∀ (k : Nat) (hk : k < S.length), S.getD k [] = S[k] := fun k hk => by rw [List.getD_eq_getElem?_getD, List.getElem?_eq_getElem hk]; rfl
  have key : ∀ (d i : Nat) (hi : i < S.length) (hj : i + d + 1 < S.length), leL S[i] S[i + d + 1] = true := by
    intro d
    induction d with
    | zero =>
      intro i hi hj
      have := h i hj
      unfold adj at this
      rwa [gd i hi, gd (i + 1) hj] at this
    | succ d ih =>
      intro i hi hj
      have h1 := ih i hi (by omega)
      have h2 := h (i + d + 1) (by omega)
      unfold adj at h2
      rw [gd (i + d + 1) (by omega), gd (i + d + 1 + 1) (by omega)] at h2
      exact leL_trans _ _ _ h1 h2
  intro i j hi hj hij
  obtain ⟨d, rfl⟩ : ∃ d, j = i + d + 1 := ⟨j - i - 1, by omega⟩
  exact key d i hi hj
theorem asc_dec8 {S : List (List PP)} (h1 : 1 ≤ S.length) : (adjs S (S.length - 1)).all id = decide (S = srtL S) := by
  have e : (adjs S (S.length - 1)).all id = true ↔ ∀ k, k + 1 < S.length → adj S k = true := by
    unfold adjs
    rw [List.all_map, List.all_eq_true]
    exact ⟨fun g k hk => g k (List.mem_range.mpr (by omega)), fun g k hk => g k (by have := List.mem_range.mp hk; omega)⟩
  rw [Bool.eq_iff_iff, e, decide_eq_true_eq]
  refine ⟨fun g => srtL_uniq (List.Perm.refl S) (asc_pw g), fun g k hk => ?_⟩
  have pw := srtL_le S
  rw [← g] at pw
  have := (List.pairwise_iff_getElem.mp pw) k (k + 1) (by omega) hk (by omega)
  unfold adj
  rwa [List.getD_eq_getElem?_getD, List.getD_eq_getElem?_getD, List.getElem?_eq_getElem (by omega : k < S.length), List.getElem?_eq_getElem hk]
theorem erase_perm {α : Type} : ∀ {R : List α} {j : Nat} {L : α}, R[j]? = some L → R.Perm (L :: R.eraseIdx j)
  | [], _, _, h => nomatch h
  | x :: R, 0, L, h => by
    have : x = L := by simpa using h
    rw [this]
    exact List.Perm.refl _
  | x :: R, j + 1, L, h => by
    have h' : R[j]? = some L := by simpa using h
    exact ((erase_perm h').cons x).trans (List.Perm.swap ..)
theorem first_of {R : List (List PP)} {L : List PP} (h : L ∈ R) : ∃ j : Nat, R[j]? = some L ∧ ∀ (m : Nat) (M : List PP), m < j → R[m]? = some M → M ≠ L := by
  induction R with
  | nil => cases h
  | cons x R ih =>
    by_cases c : x = L
    · exact ⟨0, by rw [c]; rfl, fun m M hm _ => absurd hm (Nat.not_lt_zero m)⟩
    · have h' : L ∈ R := by
        rcases List.mem_cons.mp h with e | e
        · exact absurd e.symm c
        · exact e
      obtain ⟨j, h1, h2⟩ := ih h'
      refine ⟨j + 1, h1, fun m M hm hM => ?_⟩
      cases m with
      | zero =>
        have : x = M := by simpa using hM
        rw [← this]
        exact c
      | succ m => exact h2 m M (by omega) hM
theorem paired_erase {α β : Type} {F : α → β → Prop} : ∀ {xs : List α} {ys : List β} (k : Nat), Paired F xs ys → Paired F (xs.eraseIdx k) (ys.eraseIdx k)
  | _, _, _, .nil => by simp only [List.eraseIdx_nil]; exact .nil
  | _, _, 0, .cons _ t => t
  | _, _, k + 1, .cons h t => .cons h (paired_erase k t)
theorem StdOk.perm {ds es : List Int} {m : Int} {S T : List (List PP)} (h : StdOk ds es m S) (p : T.Perm S) : StdOk ds es m T := by
  have e1 : left ds (fs T) = left ds (fs S) := left_perm (p.flatten.map _)
  have e2 : left es (sn T) = left es (sn S) := left_perm (p.flatten.map _)
  exact ⟨by rw [p.length_eq]; exact h.len, fun L hL => h.ld L (p.mem_iff.mp hL), by rw [e1]; exact h.ci, by rw [e2]; exact h.co⟩
theorem left_less {ds is js : List Int} (h : ∀ k : Int, js.count k ≤ is.count k) (g : ∀ d ∈ left ds is, 0 ≤ d) : ∀ d ∈ left ds js, 0 ≤ d := by
  intro d hd
  obtain ⟨j, hj⟩ := List.getElem?_of_mem hd
  rw [left_get] at hj
  cases e : ds[j]? with
  | none => rw [e] at hj; cases hj
  | some z =>
    rw [e] at hj
    have k : 0 ≤ z - ((is.count (j : Int) : Nat) : Int) := g _ (List.mem_of_getElem? (i := j) (by rw [left_get, e]; rfl))
    have c := h (j : Int)
    simp only [Option.map_some, Option.some.injEq] at hj
    omega
theorem StdOk.nil0 {ds es : List Int} {m : Int} {S : List (List PP)} (h : StdOk ds es m S) (h1 : 1 ≤ S.length) : StdOk ds es m ([] :: S.drop 1) := by
  obtain ⟨L, T, rfl⟩ : ∃ L T, S = L :: T := by
    match S, h1 with
    | L :: T, _ => exact ⟨L, T, rfl⟩
  rw [List.drop_one, List.tail_cons]
  refine ⟨by rw [List.length_cons]; have := h.len; rwa [List.length_cons] at this, fun M hM => ?_, left_less (fun k => ?_) h.ci, left_less (fun k => ?_) h.co⟩
  · rcases List.mem_cons.mp hM with e | e
    · rw [e]; exact LoadOk.nil
    · exact h.ld M (List.mem_cons_of_mem _ e)
  · unfold fs
    rw [List.flatten_cons, List.flatten_cons, List.nil_append, List.map_append, List.count_append]
    omega
  · unfold sn
    rw [List.flatten_cons, List.flatten_cons, List.nil_append, List.map_append, List.count_append]
    omega
/-! ### lists of loads as data -/
def lL (S : List (List PP)) : PyData := .list (S.map dL)
theorem eqv_lL (S T : List (List PP)) : PyData.eqv (lL S) (lL T) = decide (S = T) := by
  show PyData.eqv (.list _) (.list _) = _
  rw [PyData.eqv]
  exact eqvAll_loads S T
theorem shaped_lL (S : List (List PP)) : SeqAt.shaped (lL S) = true := by
  have h := depth_loads S
  show (PyData.canLay0 (.list (S.map dL)) && decide (PyData.depth (.list (S.map dL)) ≤ 64)) = true
  rw [Bool.and_eq_true]
  constructor
  · simp only [PyData.canLay0]; exact lay_loads S
  · refine decide_eq_true ?_
    simp only [PyData.depth]
    omega
theorem dp_lL {K : PySem.W.Frag} {H : Hp} {a : Addr} {us : List V} {S : List (List PP)} (h : H a = some (.lst us)) (hS : LoadsV H us S) : Dp K H (.ref a) (lL S) := .lst (SqL.of h) (dp_loadsV hS)
theorem any_dL (S : List (List PP)) (L : List PP) : ((S.map dL).any fun z => PyData.eqv z (dL L)) = decide (L ∈ S) := by
  induction S with
  | nil => rfl
  | cons c S ih =>
    rw [List.map_cons, List.any_cons, ih, eqv_dL]
    by_cases e : c = L
    · simp [e]
    · have e' : L ≠ c := fun z => e z.symm
      by_cases e2 : L ∈ S <;> simp [e, e', e2]
/-! ### judged, after a draw -/
theorem PairJ.kept {K : Frg} {H H' : Hp} (s : Kept H H') {n m : Nat} {v : V} {b : Bool} (h : PairJ K H n m v b) : PairJ K H' n m v b := by
  rcases h with ⟨a, x, y, b1, b2, e, h, i, j, z⟩ | ⟨a, xs, e, h, l, z⟩ | ⟨⟨t, h, k⟩, z⟩
  · exact .inl ⟨a, x, y, b1, b2, e, s.1 _ _ h (fun _ z => by cases z), InR.kept s i, InR.kept s j, z⟩
  · exact .inr (.inl ⟨a, xs, e, s.1 _ _ h (fun _ z => by cases z), l, z⟩)
  · exact .inr (.inr ⟨⟨t, TyX.kept s h, k⟩, z⟩)
theorem tupS_kept {H H' : Hp} (s : Kept H H') : TupS H H' := fun b xs e => s.1 b _ e fun _ z => by cases z
theorem LoadJ.kept {K : Frg} {H H' : Hp} (s : Kept H H') {n m : Nat} {v : V} {b : Bool} (h : LoadJ K H n m v b) : LoadJ K H' n m v b := by
  rcases h with ⟨a, xs, e, h, l, z⟩ | ⟨a, xs, bs, e, h, l, l2, j, z⟩ | ⟨L, h, l, g, z⟩ | ⟨⟨t, h, k⟩, z⟩
  · exact .inl ⟨a, xs, e, s.1 _ _ h (fun _ z => by cases z), l, z⟩
  · exact .inr (.inl ⟨a, xs, bs, e, s.1 _ _ h (fun _ z => by cases z), l, l2, fun i v c a b => PairJ.kept s (j i v c a b), z⟩)
  · exact .inr (.inr (.inl ⟨L, LoadV.tupS (tupS_kept s) h, l, g, z⟩))
  · exact .inr (.inr (.inr ⟨⟨t, TyX.kept s h, k⟩, z⟩))
theorem StaJ.kept {K : Frg} {H H' : Hp} (s : Kept H H') {ds es : List Int} {mid : Int} {v : V} {b : Bool} (h : StaJ K H ds es mid v b) : StaJ K H' ds es mid v b := by
  rcases h with ⟨a, xs, e, h, l, z⟩ | ⟨a, xs, bs, e, h, l, l2, j, z⟩ | ⟨S, h, l, g, z⟩ | ⟨⟨t, h, k⟩, z⟩
  · exact .inl ⟨a, xs, e, s.1 _ _ h (fun _ z => by cases z), l, z⟩
  · exact .inr (.inl ⟨a, xs, bs, e, s.1 _ _ h (fun _ z => by cases z), l, l2, fun i v c a b => LoadJ.kept s (j i v c a b), z⟩)
  · exact .inr (.inr (.inl ⟨S, StaV.tupS (tupS_kept s) h, l, g, z⟩))
  · exact .inr (.inr (.inr ⟨⟨t, TyX.kept s h, k⟩, z⟩))
/-! ### the promises -/
def spShape (C : Addr) : Sp := spSta C fun _ _ S H Q => ∀ r H', StaV H' r (srtL S) → Same H H' → Q r H'
def spIsShape (K : Frg) (C : Addr) : Sp := fun vs H Q _ => ∃ (p i o : Addr) (ds es : List Int) (m : Int) (v : V) (b : Bool), vs = [.ref p, v] ∧ ExAt C H p i o ds es m ∧ ((∃ S, StaV H v S ∧ StdOk ds es m S ∧ b = decide (S = srtL S)) ∨ (StaJ K H ds es m v false ∧ b = false)) ∧ ∀ H', Same H H' → Q (.bl b) H'
def spAsc : Sp := fun vs H Q _ => ∃ (v : V) (S : List (List PP)), vs = [v] ∧ StaV H v S ∧ 1 ≤ S.length ∧ S.length ≤ 100 ∧ ∀ H', Same H H' → Q (.bl (decide (S = srtL S))) H'
def spRen : Sp := fun vs H Q _ => ∃ (a : Addr) (v : V) (S : List (List PP)), vs = [.ref a, v] ∧ FlowAt H a ∧ StaV H v S ∧ S.length ≤ 100 ∧ ∀ r T H', StaV H' r T → T.Perm S → FlowAt H' a → Old a H H' → Q r H'
end Gn
set_option Elab.async false
set_option linter.all false
set_option maxRecDepth 100000
set_option maxHeartbeats 4000000
namespace K06
open PySem PySem.Spec PyProof.Rows L2 Com Com_thing Sd StV Gn Ext Srl
def top (i : Nat) : Stmt := PySem.Challenge.pw_callsthrough_k06_questions_are_refused.main.body.getD i (.Pass ⟨0, 0, 0, 0⟩)
local macro_rules | `(tactic| walk_at "rd1") => `(tactic| (first
  | refine ⟨_, rfl, ?_⟩
  | refine ⟨_, _, rfl, rfl, ?_⟩
  | refine ⟨.inl ⟨by decide, by decide⟩, ?_⟩
  | refine ⟨.inr ⟨by decide, by decide⟩, ?_⟩
  | refine ⟨(by decide : (0 : Int) < _), ?_⟩
  | refine ⟨⟨by decide, by decide⟩, ?_⟩
  | refine ⟨⟨by decide, by decide, by decide⟩, ?_⟩
  | refine ⟨rfl, ?_⟩
  | refine .inl ⟨_, rfl, ?_⟩
  | refine .inr ⟨_, rfl, ?_⟩
  | refine ⟨_, _, _, _, rfl, rfl, SqL.of upd_same, rfl, ?_⟩
  | refine ⟨_, _, _, _, rfl, rfl, upd_same, rfl, ?_⟩
  | refine ⟨mulm (by decide) (by decide), ?_⟩
  | refine ⟨_, _, _, _, rfl, rfl, SqL.of (by assumption), rfl, ?_⟩
  | refine ⟨_, _, _, _, rfl, rfl, (by assumption), rfl, ?_⟩))
local macro_rules | `(tactic| walk_at "rd") => `(tactic| repeat (walk_at "rd1"))
/-- the module's names that are built-ins, its constants -/
structure Blt (mg : Str → Option Value) : Prop where
  z_len : mg "len" = none
  z_abs : mg "abs" = none
  z_int : mg "int" = none
  z_bool : mg "bool" = none
  z_tuple : mg "tuple" = none
  z_list : mg "list" = none
  z_isinstance : mg "isinstance" = none
  z_all : mg "all" = none
  z_range : mg "range" = none
  z_set : mg "set" = none
  z_sorted : mg "sorted" = none
  z_min : mg "min" = none
  z_max : mg "max" = none
  z_enumerate : mg "enumerate" = none
  c_MOST_SWITCHES : ∃ t, mg "MOST_SWITCHES" = some (.int 4 t)
  c_MOST_DOORS : ∃ t, mg "MOST_DOORS" = some (.int 4 t)
  c_MOST_MIDDLES : ∃ t, mg "MOST_MIDDLES" = some (.int 7 t)
  g_gcd : mg "gcd" = some (.builtin "math.gcd")
section
variable {P : Program} {w : World} {K : PySem.W.Frag} {mg : Str → Option Value} {base : Heap}
abbrev s_flow : Stmt := top 55
abbrev N_flow : List Str := ["_law_script", "_law_k", "_law_cell", "_law_number"]
theorem sc_flow : FnScope N_flow ["_law_script", "_law_k"] (defScope s_flow) := ⟨rfl, rfl, rfl, by decide +kernel, rfl, by decide +kernel, by decide +kernel⟩
theorem ok_flow (T : Blt mg) (D : DefAt K mg "_law_flow" s_flow ["_law_script", "_law_k"]) : DefOk P w K mg base CX0 1 "_law_flow" (spFlow K) := by
  refine D.ok sc_flow (fun vs H Q E h => ?_) (fun f cdv A outer s H vs Q E hr h => ?_)
  · obtain ⟨a, ns, k, rfl, _⟩ := h
    rfl
  obtain ⟨a, ns, k, rfl, hS, hl, hk, q⟩ := h
  refine ⟨_, (pss_cons (ps_set (i := 2) sc_flow.nd rfl (Or.inl rfl) pe_int)
  (pss_cons (ps_if (pt_cmpR op_lt (pv 1) (pe_callB (cl_len K) (by rfl) T.z_len (by decide +kernel) (pa_cons (pv 0) pa_nil)) (nomark _))
    (pss_one (ps_set (i := 2) sc_flow.nd rfl (Or.inl rfl) (pe_ix (ixL K) (pv 0) (pv 1) (fun _ _ => rfl))))
    pss_nil)
  (pss_cons (ps_set (i := 3) sc_flow.nd rfl (Or.inl rfl) (pe_op op_add (pe_op op_mul pe_int (pe_callB call_abs (by rfl) T.z_abs (by decide +kernel) (pa_cons (pv 2) pa_nil))) (pe_callTy call_int1 (by rfl) T.z_int (by decide +kernel) (pa_cons (pe_cmpR op_lt (pv 2) pe_int (nomark _)) pa_nil))))
  (pss_cons (ps_if (pt_cmpR op_ge (pv 3) (pe_op op_pow pe_int pe_int) (nomark _))
    (pss_one (ps_ret (pe_lst (pa_cons (pv 3) (pa_cons pe_int (pa_cons (pe_op op_mod (pe_callTy call_int1 (by rfl) T.z_int (by decide +kernel) (pa_cons (pv 3) pa_nil)) pe_int) pa_nil))))))
    pss_nil)
  (pss_one (ps_ret (pe_lst (pa_cons pe_int (pa_cons pe_int (pa_cons (pe_op op_mod (pe_callTy call_int1 (by rfl) T.z_int (by decide +kernel) (pa_cons (pe_op op_add (pe_op op_add (pv 3) (pe_op op_mul pe_int (pv 1))) pe_int) pa_nil)) pe_int) pa_nil)))))))))), ?_⟩
  refine ⟨_, rfl, _, rfl, a, _, rfl, .inl hS, _, _, rfl, rfl, _, rfl, ?_⟩
  refine ifB (fun c => ?_) (fun c => ?_)
  · have hk' : k < ns.length := by
      have c' := of_decide_eq_true c
      rw [List.length_map] at c'
      omega
    refine ⟨_, rfl, _, rfl, a, _, _, _, rfl, rfl, hS, atI_nat (j := k) (v := V.int ns[k]) (by rw [List.getElem?_map, List.getElem?_eq_getElem hk']; rfl), ?_⟩
    walk_at "rd"
    refine ifB (fun _ => ?_) (fun _ => ?_) <;> walk_at "rd" <;> exact ⟨by show 3 ≤ sizeLine; decide, fun p hp => q p _ hp .new .upd⟩
  · walk_at "rd"
    exact ⟨by show 3 ≤ sizeLine; decide, fun p hp => q p _ hp .new .upd⟩
abbrev s_pick : Stmt := top 56
abbrev N_pick : List Str := ["_law_flow_here", "_law_size", "_law_digit", "_law_number"]
theorem sc_pick : FnScope N_pick ["_law_flow_here", "_law_size"] (defScope s_pick) := ⟨rfl, rfl, rfl, by decide +kernel, rfl, by decide +kernel, by decide +kernel⟩
theorem ok_pick (T : Blt mg) (D : DefAt K mg "_law_pick" s_pick ["_law_flow_here", "_law_size"]) : DefOk P w K mg base CX0 1 "_law_pick" spPick := by
  refine D.ok sc_pick (fun vs H Q E h => ?_) (fun f cdv A outer s H vs Q E hr h => ?_)
  · obtain ⟨a, size, rfl, _⟩ := h
    rfl
  obtain ⟨a, size, rfl, ⟨n, c, r, h0⟩, s1, s2, q⟩ := h
  refine ⟨_, (pss_cons (ps_if (PW.pt (pw_and (pt_cmpR op_ge (pe_ix (ixL K) (pv 0) pe_int (fun _ _ => rfl)) (pv 1) (nomark _)) (pw_and1 (pt_cmpR op_gt (pe_ix (ixL K) (pv 0) pe_int (fun _ _ => rfl)) pe_int (nomark _)))))
    (pss_cons (ps_set (i := 2) sc_pick.nd rfl (Or.inl rfl) (pe_op op_mod (pe_callTy call_int1 (by rfl) T.z_int (by decide +kernel) (pa_cons (pe_ix (ixL K) (pv 0) pe_int (fun _ _ => rfl)) pa_nil)) (pv 1)))
    (pss_cons (ps_asg (pe_op op_fdivW (pe_ix (ixL K) (pv 0) pe_int (fun _ _ => rfl)) (pv 1)) (pg_sub (pv 0) pe_int set_list))
    (pss_one (ps_ret (pv 2)))))
    pss_nil)
  (pss_cons (ps_augS (pv 0) pe_int (getL K) pe_int ip_add set_list)
  (pss_cons (ps_set (i := 3) sc_pick.nd rfl (Or.inl rfl) (pe_op op_mod (pe_callTy call_int1 (by rfl) T.z_int (by decide +kernel) (pa_cons (pe_op op_mul (pe_op op_add (pe_op op_add (pe_ix (ixL K) (pv 0) pe_int (fun _ _ => rfl)) (pe_op op_mul pe_int (pe_ix (ixL K) (pv 0) pe_int (fun _ _ => rfl)))) pe_int) pe_int) pa_nil)) pe_int))
  (pss_cons (ps_set (i := 3) sc_pick.nd rfl (Or.inl rfl) (pe_op op_mod (pe_callTy call_int1 (by rfl) T.z_int (by decide +kernel) (pa_cons (pe_op op_mul (pv 3) (pe_op op_add (pe_op op_fdiv (pv 3) pe_int) pe_int)) pa_nil)) pe_int))
  (pss_cons (ps_set (i := 3) sc_pick.nd rfl (Or.inl rfl) (pe_op op_mod (pe_callTy call_int1 (by rfl) T.z_int (by decide +kernel) (pa_cons (pe_op op_mul (pv 3) (pe_op op_add (pe_op op_fdiv (pv 3) pe_int) pe_int)) pa_nil)) pe_int))
  (pss_one (ps_ret (pe_op op_mod (pe_op op_fdiv (pv 3) pe_int) (pv 1))))))))), ?_⟩
  walk_at "rd"
  refine ifB (fun c1 => ?_) (fun c1 => ?_)
  · walk_at "rd"
    refine ifB (fun c2 => ?_) (fun c2 => ?_)
    · walk_at "rd"
      refine ⟨(by show 0 < size; omega), ?_⟩
      walk_at "rd"
      refine ⟨divW s1 s2, ?_⟩
      walk_at "rd"
      exact q _ _ (Int.emod_nonneg _ (by omega)) (Int.emod_lt_of_pos _ (by omega)) .new .upd
    · walk_at "rd"
      refine ⟨(by show 0 < size; omega), ?_⟩
      exact q _ _ (Int.emod_nonneg _ (by omega)) (Int.emod_lt_of_pos _ (by omega)) .new .upd
  · walk_at "rd"
    refine ⟨(by show 0 < size; omega), ?_⟩
    exact q _ _ (Int.emod_nonneg _ (by omega)) (Int.emod_lt_of_pos _ (by omega)) .new .upd
end
section
variable {P : Program} {w : World} {K : PySem.W.Frag} {mg : Str → Option Value} {base : Heap}
abbrev s_is_plain_int : Stmt := top 12
abbrev N_is_plain_int : List Str := ["value"]
theorem sc_is_plain_int : FnScope N_is_plain_int ["value"] (defScope s_is_plain_int) := ⟨rfl, rfl, rfl, by decide +kernel, rfl, by decide +kernel, by decide +kernel⟩
theorem ok_is_plain_int (T : Blt mg) (D : DefAt K mg "is_plain_int" s_is_plain_int ["value"]) : DefOk P w K mg base CX0 1 "is_plain_int" (spPlain K) := by
  refine D.ok sc_is_plain_int (fun vs H Q E h => ?_) (fun f cdv A outer s H vs Q E hr h => ?_)
  · obtain ⟨x, b, rfl, _⟩ := h
    rfl
  obtain ⟨x, b, rfl, ⟨t, b1, ty, k1, kF, kT⟩, q⟩ := h
  refine ⟨_, (pss_one (ps_ret (pe_and (pe_callB (cl_isi K) (by rfl) T.z_isinstance (by decide +kernel) (pa_cons (pv 0) (pa_cons (pe_bltn (v := .ty "int") (by rfl) T.z_int (by decide +kernel) rfl) pa_nil))) (pe_one (pe_not (pe_callB (cl_isi K) (by rfl) T.z_isinstance (by decide +kernel) (pa_cons (pv 0) (pa_cons (pe_bltn (v := .ty "bool") (by rfl) T.z_bool (by decide +kernel) rfl) pa_nil)))))))), ?_⟩
  refine ⟨_, rfl, x, _, t, _, b1, rfl, .ty "int", ty, k1, _, rfl, ?_⟩
  refine ifB (fun c => ?_) (fun c => ?_)
  · obtain ⟨b2, k2, rfl⟩ := kT c
    exact ⟨_, rfl, x, _, t, _, b2, rfl, .ty "bool", ty, k2, _, rfl, q⟩
  · rw [kF c] at q
    exact q
end
section
variable {P : Program} {w : World} {K : PySem.W.Frag} {mg : Str → Option Value} {base : Heap}
abbrev s_is_int_within : Stmt := top 13
abbrev N_is_int_within : List Str := ["value", "low", "high"]
theorem sc_is_int_within : FnScope N_is_int_within ["value", "low", "high"] (defScope s_is_int_within) := ⟨rfl, rfl, rfl, by decide +kernel, rfl, by decide +kernel, by decide +kernel⟩
theorem ok_is_int_within (T : Blt mg) (D_is_plain_int : DefOk P w K mg base CX0 1 "is_plain_int" (spPlain K)) (D : DefAt K mg "is_int_within" s_is_int_within ["value", "low", "high"]) : DefOk P w K mg base CX0 2 "is_int_within" (spWithin K) := by
  refine D.ok sc_is_int_within (fun vs H Q E h => ?_) (fun f cdv A outer s H vs Q E hr h => ?_)
  · obtain ⟨x, lo, hi, b, rfl, _⟩ := h
    rfl
  obtain ⟨x, lo, hi, b, rfl, hx, q⟩ := h
  refine ⟨_, (pss_one (ps_ret (pe_and (pe_def D_is_plain_int hr (by decide) pass0 (pa_cons (pv 0) pa_nil)) (pe_one (pe_chain op_le op_le (pv 1) (pv 0) (pv 2)))))), ?_⟩
  rcases hx with ⟨i, rfl, rfl⟩ | ⟨hp, rfl⟩
  · refine ⟨_, rfl, _, true, rfl, PlainI.int i, _, rfl, iteT ?_⟩
    walk_at "rd"
    refine ifB (fun c => ?_) (fun c => ?_)
    · walk_at "rd"
      rw [c] at q
      exact q
    · rw [c] at q
      exact q
  · refine ⟨_, rfl, _, false, rfl, hp, _, rfl, iteF ?_⟩
    exact q
end
section
variable {P : Program} {w : World} {K : PySem.W.Frag} {mg : Str → Option Value} {base : Heap}
abbrev s_is_side : Stmt := top 43
abbrev N_is_side : List Str := ["value", "doors"]
theorem sc_is_side : FnScope N_is_side ["value"] (defScope s_is_side) := ⟨rfl, rfl, rfl, by decide +kernel, rfl, by decide +kernel, by decide +kernel⟩
theorem ok_is_side (T : Blt mg) (D_is_int_within : DefOk P w K mg base CX0 2 "is_int_within" (spWithin K)) (D : DefAt K mg "_is_side" s_is_side ["value"]) : DefOk P w K mg base CX0 3 "_is_side" (spSide K) := by
  refine D.ok sc_is_side (fun vs H Q E h => ?_) (fun f cdv A outer s H vs Q E hr h => ?_)
  · obtain ⟨x, b, rfl, _⟩ := h
    rfl
  obtain ⟨x, b, rfl, hx, q⟩ := h
  obtain ⟨t1, c_MOST_SWITCHES⟩ := T.c_MOST_SWITCHES
  obtain ⟨t2, c_MOST_DOORS⟩ := T.c_MOST_DOORS
  refine ⟨_, (pss_cons (ps_if (PW.pt (pw_or (pt_not (pt_val (pe_callB (cl_isi K) (by rfl) T.z_isinstance (by decide +kernel) (pa_cons (pv 0) (pa_cons (pe_bltn (v := .ty "tuple") (by rfl) T.z_tuple (by decide +kernel) rfl) pa_nil))))) (pw_or1 (pt_not (pt_chain op_le op_le pe_int (pe_callB (cl_len K) (by rfl) T.z_len (by decide +kernel) (pa_cons (pv 0) pa_nil)) (pe_gint (by rfl) c_MOST_SWITCHES))))))
    (pss_one (ps_ret pe_bl))
    pss_nil)
  (pss_one (ps_ret (pe_callB (cl_all K) (by rfl) T.z_all (by decide +kernel) (pa_cons (pe_lc (own := [("doors", 1)]) (g := gName 1) (tt := tYes) rfl sc_is_side.nd (piT K (pv 0)) (blkOk_by (N := N_is_side) (sc := defScope s_is_side) (by decide +kernel)) (fun _ _ _ _ _ => (pg_name (i := 1) sc_is_side.nd rfl (Or.inl rfl))) (fun _ _ _ _ _ => pts_nil) (fun _ _ _ _ _ => (pe_def D_is_int_within hr (by decide) pass0 (pa_cons (pv 1) (pa_cons pe_int (pa_cons (pe_gint (by rfl) c_MOST_DOORS) pa_nil)))))) pa_nil))))), ?_⟩
  rcases hx with ⟨a, xs, bs, rfl, hxs, hl, hin, rfl⟩ | ⟨t, ty, k1, rfl⟩
  · refine ⟨_, rfl, _, _, .type "tuple", _, true, rfl, .ty "tuple", .base (.tup hxs), kit_ty (by decide +kernel), _, rfl, iteF ?_⟩
    walk_at "rd"
    refine ⟨a, xs, rfl, .inr (SqT.of hxs), ?_⟩
    walk_at "rd"
    refine ifB (fun c1 => ?_) (fun c1 => ?_)
    · walk_at "rd"
      have c1' := of_decide_eq_true c1
      by_cases c2 : xs.length ≤ 4
      · rw [show decide ((xs.length : Int) ≤ 4) = true from decide_eq_true (by omega)]
        refine iteF ?_
        refine ⟨_, rfl, a, rfl, ⟨_, SqT.of hxs⟩, fun D hD => lp_tup (K := K) (xs := xs) (fun i H' => H' D = some (.lst ((bs.take i).map V.bl)) ∧ But D H H')
          ⟨upd_same, .upd⟩ (fun i H' _ p => SqT.of (by rw [p.2 a (ne_of_none hxs hD)]; exact hxs)) ?_ ?_⟩
        · rintro i v H' hi ⟨h1, h2⟩
          have hib : i < bs.length := by rw [hl]; exact (List.getElem?_eq_some_iff.mp hi).1
          refine ⟨rfl, ?_⟩
          refine ⟨_, rfl, v, 1, 4, bs[i], rfl, (hin i v _ hi (List.getElem?_eq_getElem hib)).same (h2.same hD), _, h1, ?_, ?_⟩
          · rw [List.length_map, List.length_take]
            exact small1000 (by omega)
          · refine ⟨?_, fun b hb => ?_⟩
            · show upd H' D _ D = _
              rw [upd_same, List.take_add_one, List.map_append, List.getElem?_eq_getElem hib]
              rfl
            · rw [upd_ne hb]
              exact h2 b hb
        · rintro H' ⟨h1, h2⟩
          refine ⟨D, bs, rfl, SqL.of (by rw [h1, List.take_of_length_le (by omega)]), ?_⟩
          have := q H' (h2.same hD)
          rw [decide_eq_true (by omega : 1 ≤ xs.length), decide_eq_true c2] at this
          exact this
      · rw [show decide ((xs.length : Int) ≤ 4) = false from decide_eq_false (by omega)]
        refine iteT ?_
        have := q H (Same.refl H)
        rw [decide_eq_false c2, Bool.and_false, Bool.false_and] at this
        exact this
    · have c1' := of_decide_eq_false c1
      have := q H (Same.refl H)
      rw [decide_eq_false (by omega : ¬ 1 ≤ xs.length), Bool.false_and, Bool.false_and] at this
      exact ⟨_, rfl, this⟩
  · refine ⟨_, rfl, x, _, t, _, false, rfl, .ty "tuple", ty, k1, _, rfl, iteT ?_⟩
    exact q H (Same.refl H)
end
section
variable {P : Program} {w : World} {K : PySem.W.Frag} {mg : Str → Option Value} {base : Heap} {C : Addr}
abbrev s_Exchange___init : Stmt := inClass (top 44) 0
abbrev N_Exchange___init : List Str := ["self", "ins", "outs", "middles"]
theorem sc_Exchange___init : FnScope N_Exchange___init ["self", "ins", "outs", "middles"] (defScope s_Exchange___init) := ⟨rfl, rfl, rfl, by decide +kernel, rfl, by decide +kernel, by decide +kernel⟩
theorem ok_init (T : Blt mg) (X : ExT K mg C) (D_is_side : DefOk P w K mg base CX0 3 "_is_side" (spSide K)) (D_is_int_within : DefOk P w K mg base CX0 2 "is_int_within" (spWithin K))
    (D : MethAt K C "__init__" "Exchange.__init__" s_Exchange___init ["self", "ins", "outs", "middles"]) : MethOk P w K mg base CX0 4 C "__init__" (spInit C) := by
  refine D.fn sc_Exchange___init (fun vs H Q E h => ?_) (fun f cdv A outer s H vs Q E hr h => ?_)
  · obtain ⟨p, dx, i, o, ds, es, m, rfl, _⟩ := h
    rfl
  obtain ⟨p, dx, i, o, ds, es, m, rfl, hp, hi, gi, ho, go, m1, m2, q⟩ := h
  obtain ⟨t1, c_MOST_MIDDLES⟩ := T.c_MOST_MIDDLES
  refine ⟨_, (pss_cons (ps_if (pt_not (pt_val (pe_def D_is_side hr (by decide) pass0 (pa_cons (pv 1) pa_nil))))
    (pss_one ps_never)
    pss_nil)
  (pss_cons (ps_if (pt_not (pt_val (pe_def D_is_side hr (by decide) pass0 (pa_cons (pv 2) pa_nil))))
    (pss_one ps_never)
    pss_nil)
  (pss_cons (ps_if (pt_not (pt_val (pe_def D_is_int_within hr (by decide) pass0 (pa_cons (pv 3) (pa_cons pe_int (pa_cons (pe_gint (by rfl) c_MOST_MIDDLES) pa_nil))))))
    (pss_one ps_never)
    pss_nil)
  (pss_cons (ps_fldK K (pv 0) (pv 1))
  (pss_cons (ps_fldK K (pv 0) (pv 2))
  (pss_one (ps_fldK K (pv 0) (pv 3)))))))), ?_⟩
  refine ⟨_, rfl, _, true, rfl, gi.side hi, fun H1 s1 => ⟨_, rfl, ?_⟩⟩
  refine ⟨_, rfl, _, true, rfl, go.side (Same.tup s1 ho), fun H2 s2 => ⟨_, rfl, ?_⟩⟩
  refine ⟨_, rfl, _, _, _, true, rfl, InR.good m1 m2, _, rfl, ?_⟩
  have hp2 : H2 p = some (.ins C dx []) := s2 _ _ (s1 _ _ hp)
  refine ⟨_, rfl, _, rfl, p, C, dx, [], rfl, hp2, X.cl, X.nI, (by show 0 < 1000; decide), ?_⟩
  refine ⟨_, rfl, _, rfl, p, C, dx, _, rfl, upd_same, X.cl, X.nO, (by rw [putF_nil]; show 1 < 1000; decide), ?_⟩
  refine ⟨_, rfl, _, rfl, p, C, dx, _, rfl, upd_same, X.cl, X.nM, (by rw [putF_nil, putF_ne no1, putF_nil]; show 2 < 1000; decide), ?_⟩
  refine q _ ⟨dx, by rw [upd_same, exF_put]⟩ fun b u hb ne => ?_
  rw [upd_ne ne, upd_ne ne, upd_ne ne]
  exact s2 _ _ (s1 _ _ hb)
end
section
variable {P : Program} {w : World} {K : PySem.W.Frag} {mg : Str → Option Value} {base : Heap} {C : Addr}
abbrev s_doors : Stmt := top 57
abbrev N_doors : List Str := ["_law_flow_here", "_law_most", "_law_doors_here", "_law_k"]
theorem sc_doors : FnScope N_doors ["_law_flow_here", "_law_most", "_law_doors_here"] (defScope s_doors) := ⟨rfl, rfl, rfl, by decide +kernel, rfl, by decide +kernel, by decide +kernel⟩
theorem ok_doors (T : Blt mg) (D_pick : DefOk P w K mg base CX0 1 "_law_pick" spPick) (D : DefAt K mg "_law_doors" s_doors ["_law_flow_here", "_law_most", "_law_doors_here"]) : DefOk P w K mg base CX0 2 "_law_doors" spDoors := by
  refine D.ok sc_doors (fun vs H Q E h => ?_) (fun f cdv A outer s H vs Q E hr h => ?_)
  · obtain ⟨a, most, d, rfl, _⟩ := h
    rfl
  obtain ⟨a, most, d, rfl, f0, t1, t2, d1, d2, q⟩ := h
  refine ⟨_, (pss_one (ps_ret (pe_callTy (cl_tuple K) (by rfl) T.z_tuple (by decide +kernel) (pa_cons (pe_lc (own := [("_law_k", 3)]) (g := gName 3) (tt := tYes) rfl sc_doors.nd (pi_range1 (by rfl) T.z_range (pa_cons (pe_op op_add pe_int (pe_def D_pick hr (by decide) pass0 (pa_cons (pv 0) (pa_cons (pv 1) pa_nil)))) pa_nil)) (blkOk_by (N := N_doors) (sc := defScope s_doors) (by decide +kernel)) (fun _ _ _ _ _ => (pg_name (i := 3) sc_doors.nd rfl (Or.inl rfl))) (fun _ _ _ _ _ => pts_nil) (fun _ _ _ _ _ => (pe_op op_add pe_int (pe_def D_pick hr (by decide) pass0 (pa_cons (pv 0) (pa_cons (pv 2) pa_nil)))))) pa_nil)))), ?_⟩
  refine ⟨_, rfl, _, rfl, a, most, rfl, f0, t1, small200 (by omega), fun n H1 n0 n1 f1 b1 => ?_⟩
  refine ⟨_, _, rfl, rfl, _, rfl, by omega, by omega, fun D hD => ?_⟩
  have na : a ≠ D := by
    obtain ⟨x, y, z, e⟩ := f1
    exact ne_of_none e hD
  refine lp_range (lo := 0) (fun i H' => ∃ ds : List Int, H' D = some (.lst (ds.map V.int)) ∧ ds.length = i ∧ (∀ z ∈ ds, 1 ≤ z ∧ z ≤ d) ∧ FlowAt H' a ∧ Old a H1 H') ?_ ?_ ?_
  · refine ⟨[], upd_same, rfl, (fun z hz => nomatch hz), ?_, fun b o e ne => Com.Same.upd hD b o e⟩
    obtain ⟨x, y, z, e⟩ := f1
    exact ⟨x, y, z, by rw [upd_ne na]; exact e⟩
  · rintro i H2 hi ⟨ds, h1, h2, h3, h4, h5⟩
    refine ⟨rfl, ?_⟩
    refine ⟨_, rfl, _, rfl, a, d, rfl, h4, d1, small200 (by omega), fun x H3 x0 x1 f3 b3 => ?_⟩
    refine ⟨_, _, rfl, rfl, _, by rw [b3 D na.symm]; exact h1, ?_, ds ++ [1 + x], ?_, ?_, ?_, ?_, ?_⟩
    · rw [List.length_map]
      exact small1000 (by omega)
    · rw [upd_same, List.map_append]
      rfl
    · rw [List.length_append, h2]
      rfl
    · intro z hz
      rcases List.mem_append.mp hz with e | e
      · exact h3 z e
      · have : z = 1 + x := by simpa using e
        omega
    · obtain ⟨x, y, z, e⟩ := f3
      exact ⟨x, y, z, by rw [upd_ne na]; exact e⟩
    · intro b o e ne
      rw [upd_ne (ne_of_none e hD)]
      exact (Old.trans h5 (But.old b3)) b o e ne
  · rintro H2 ⟨ds, h1, h2, h3, h4, h5⟩
    refine ⟨D, _, rfl, .inl ⟨SqL.of h1, fun i hi => ?_⟩⟩
    refine q i ds _ ?_ upd_same ⟨by omega, by omega, fun z hz => ?_⟩ ?_ ?_
    · by_cases e : i = a
      · obtain ⟨x, y, z, e2⟩ := h4
        rw [e, e2] at hi
        cases hi
      · cases e2 : H i with
        | none => rfl
        | some o =>
          have := h5 i o (by rw [b1 i e]; exact e2) e
          rw [hi] at this
          cases this
    · have := h3 z hz
      omega
    · obtain ⟨x, y, z, e⟩ := h4
      exact ⟨x, y, z, by rw [upd_ne (ne_of_none e hi)]; exact e⟩
    · intro b o e ne
      have e1 := h5 b o (by rw [b1 b ne]; exact e) ne
      rw [upd_ne (ne_of_none e1 hi)]
      exact e1
end
section
variable {P : Program} {w : World} {K : PySem.W.Frag} {mg : Str → Option Value} {base : Heap} {C : Addr}
abbrev s_exchange : Stmt := top 60
abbrev N_exchange : List Str := ["_law_flow_here", "_law_most", "_law_doors_here", "_law_middles", "_law_ins", "_law_outs"]
theorem sc_exchange : FnScope N_exchange ["_law_flow_here", "_law_most", "_law_doors_here", "_law_middles"] (defScope s_exchange) := ⟨rfl, rfl, rfl, by decide +kernel, rfl, by decide +kernel, by decide +kernel⟩
theorem ok_lexchange (D_pick : DefOk P w K mg base CX0 1 "_law_pick" spPick) (D_doors : DefOk P w K mg base CX0 2 "_law_doors" spDoors) (M_Exchange : NewOk P w K mg base CX0 4 "Exchange" C (spInit C)) (D : DefAt K mg "_law_exchange" s_exchange ["_law_flow_here", "_law_most", "_law_doors_here", "_law_middles"]) : DefOk P w K mg base CX0 6 "_law_exchange" (spExchange C) := by
  refine D.ok sc_exchange (fun vs H Q E h => ?_) (fun f cdv A outer s H vs Q E hr h => ?_)
  · obtain ⟨a, most, d, mid, rfl, _⟩ := h
    rfl
  obtain ⟨a, most, d, mid, rfl, f0, t1, t2, d1, d2, m1, m2, q⟩ := h
  refine ⟨_, (pss_cons (ps_set (i := 4) sc_exchange.nd rfl (Or.inl rfl) (pe_def D_doors hr (by decide) pass0 (pa_cons (pv 0) (pa_cons (pv 1) (pa_cons (pv 2) pa_nil)))))
  (pss_cons (ps_set (i := 5) sc_exchange.nd rfl (Or.inl rfl) (pe_def D_doors hr (by decide) pass0 (pa_cons (pv 0) (pa_cons (pv 1) (pa_cons (pv 2) pa_nil)))))
  (pss_one (ps_ret (pe_new M_Exchange hr (by decide) pass0 (pa_cons (pv 4) (pa_cons (pv 5) (pa_cons (pe_op op_add pe_int (pe_def D_pick hr (by decide) pass0 (pa_cons (pv 0) (pa_cons (pv 3) pa_nil)))) pa_nil)))))))), ?_⟩
  refine ⟨_, rfl, _, rfl, _, rfl, a, most, d, rfl, f0, t1, t2, d1, d2, fun i ds H1 ni ti gi f1 o1 => ?_⟩
  refine ⟨_, rfl, _, rfl, _, rfl, a, most, d, rfl, f1, t1, t2, d1, d2, fun o es H2 no to go f2 o2 => ?_⟩
  refine ⟨_, rfl, _, rfl, _, rfl, _, rfl, a, mid, rfl, f2, m1, small200 (by omega), fun k H3 k0 kn f3 b3 => ⟨_, _, rfl, rfl, ?_⟩⟩
  have ti2 : Tup H2 i ds := o2 _ _ ti (tup_ne f1 ti)
  have ti3 : Tup H3 i ds := by show H3 i = _; rw [b3 i (tup_ne f2 ti2)]; exact ti2
  have to3 : Tup H3 o es := by show H3 o = _; rw [b3 o (tup_ne f2 to)]; exact to
  refine new_ex ti3 gi to3 go (by omega) (by omega) fun x H4 hx ex s4 => ?_
  have old : Old a H H4 := Old.trans o1 (Old.trans o2 (Old.trans (But.old b3) (same_old s4)))
  refine q x i o ds es _ H4 ?_ ⟨ex, Same.tup s4 ti3, gi, Same.tup s4 to3, go, by omega, by omega⟩ (FlowAt.same f3 s4) old
  cases e : H x with
  | none => rfl
  | some z =>
    have n : x ≠ a := FlowAt.ne f3 hx
    have := (Old.trans o1 (Old.trans o2 (But.old b3))) x z e n
    rw [hx] at this
    cases this
end
namespace Shr
/-! ### shares, by good arguments -/
def shF (n d : Int) : List (Str × V) := [("top", .int n), ("bottom", .int d)]
def ShO (C : Addr) (H : Hp) (p : Addr) (n d : Int) : Prop := ∃ dx, H p = some (.ins C dx (shF n d))
theorem ShO.same {C : Addr} {H H' : Hp} {p : Addr} {n d : Int} (s : Same H H') (h : ShO C H p n d) : ShO C H' p n d := let ⟨dx, e⟩ := h; ⟨dx, s _ _ e⟩
theorem tb : ¬ (("top" : Str) = "bottom") := by decide +kernel
theorem shF_put (n d : Int) : putF "bottom" (.int d) (putF "top" (.int n) []) = shF n d := by
  rw [putF_nil, putF_ne tb, putF_nil]
  rfl
theorem shF_top (n d : Int) : (shF n d).lookup ("top" : Str) = some (.int n) := lk_eq
theorem shF_bottom (n d : Int) : (shF n d).lookup ("bottom" : Str) = some (.int d) := by
  unfold shF
  rw [lk_ne (by decide +kernel), lk_eq]
theorem shF_no (n d : Int) {f : Str} (h1 : (f == ("top" : Str)) = false) (h2 : (f == ("bottom" : Str)) = false) : (shF n d).lookup f = none := by
  unfold shF
  rw [lk_ne h1, lk_ne h2]
  rfl
/-- what the top has made of the class -/
structure ShT (K : PySem.W.Frag) (mg : Str → Option Value) (C : Addr) : Prop where
  cl : Cls K C
  nT : NoAttr K C "top"
  nB : NoAttr K C "bottom"
  ca : PySem.W.findIn K (.ref C) "__class__" = some (some (.builtin "object.__class__"))
  cn : PySem.W.specialIn K (.builtin "object.__class__") "__get__" = some (some (.builtin "getset_descriptor.__get__"))
  ct : PySem.W.takesIn K (.builtin "object.__class__") = some true
  cm : PySem.W.mroIn K C (.type "object") = some true
  kI : PySem.W.kitOne K (.type "int") (.ref C) = some false
  fS : PySem.W.notFirst K C (.ref C) = true
  g_Share : mg "Share" = some (.ref C)
theorem shTy {K : PySem.W.Frag} {mg : Str → Option Value} {C : Addr} (T : ShT K mg C) {H : Hp} {p dx : Addr} {fs : List (Str × V)} (h : H p = some (.ins C dx fs)) : TyX K H (.ref p) (.ref C) := .base (.ins h T.cl T.ca T.cn T.ct T.cm)
def Old (p : Addr) (H H' : Hp) : Prop := ∀ b o, H b = some o → b ≠ p → H' b = some o
def spInit (C : Addr) : Sp := fun vs H Q _ => ∃ (p dx : Addr) (t b : Int), vs = [.ref p, .int t, .int b] ∧ H p = some (.ins C dx []) ∧ b ≠ 0 ∧ B b 8000 ∧ ∀ H', ShO C H' p (Num.nt t b) (Num.nb t b) → Old p H H' → Q .non H'
/-- an operand: a share, or an int -/
def Opd (C : Addr) (H : Hp) (x : V) (n d : Int) : Prop := (∃ p, x = .ref p ∧ ShO C H p n d) ∨ (x = .int n ∧ d = 1)
theorem Opd.same {C : Addr} {H H' : Hp} {x : V} {n d : Int} (s : Same H H') (h : Opd C H x n d) : Opd C H' x n d := h.elim (fun ⟨p, e, z⟩ => .inl ⟨p, e, z.same s⟩) .inr
def spOpd (C : Addr) : Sp := fun vs H Q _ => ∃ x n d, vs = [x] ∧ Opd C H x n d ∧ Q (.bl true) H
def spParts (C : Addr) : Sp := fun vs H Q _ => ∃ x n d, vs = [x] ∧ Opd C H x n d ∧ ∀ t H', H' t = some (.tup [.int n, .int d]) → Same H H' → Q (.ref t) H'
/-- p op x: the answer is the share f n1 d1 n2 d2 / g .. -/
def spBin (C : Addr) (f g : Int → Int → Int → Int → Int) : Sp := fun vs H Q _ => ∃ (p : Addr) (x : V) (n d n2 d2 : Int), vs = [.ref p, x] ∧ ShO C H p n d ∧ Opd C H x n2 d2 ∧ 0 < d ∧ 0 < d2 ∧ B n 1000 ∧ B d 1000 ∧ B n2 1000 ∧ B d2 1000 ∧
  ∀ q H', ShO C H' q (Num.nt (f n d n2 d2) (g n d n2 d2)) (Num.nb (f n d n2 d2) (g n d n2 d2)) → Same H H' → Q (.ref q) H'
def fAdd (n d n2 d2 : Int) : Int := n * d2 + n2 * d
def fSub (n d n2 d2 : Int) : Int := n * d2 + -n2 * d
def fMul (n _ n2 _ : Int) : Int := n * n2
def gMul (_ d _ d2 : Int) : Int := d * d2
def spUn (C : Addr) (f : Int → Int) : Sp := fun vs H Q _ => ∃ (p : Addr) (n d : Int), vs = [.ref p] ∧ ShO C H p n d ∧ 0 < d ∧ B n 1000 ∧ B d 1000 ∧ ∀ q H', ShO C H' q (Num.nt (f n) d) (Num.nb (f n) d) → Same H H' → Q (.ref q) H'
def absI (n : Int) : Int := if n < 0 then -n else n
def spBelow (C : Addr) : Sp := fun vs H Q _ => ∃ (p : Addr) (x : V) (n d n2 d2 : Int), vs = [.ref p, x] ∧ ShO C H p n d ∧ Opd C H x n2 d2 ∧ B n 1000 ∧ B d 1000 ∧ B n2 1000 ∧ B d2 1000 ∧ ∀ H', Same H H' → Q (.bl (decide (n * d2 < n2 * d))) H'
def spEq (C : Addr) : Sp := fun vs H Q _ => ∃ (p q : Addr) (n d n2 d2 : Int), vs = [.ref p, .ref q] ∧ ShO C H p n d ∧ ShO C H q n2 d2 ∧ Q (.bl (decide (n = n2) && decide (d = d2))) H
theorem new_sh {C : Addr} {H : Hp} {R : VK} {E : XK} {x dx : Addr} {t b : Int} (hb : b ≠ 0) (hB : B b 8000) (hx : H x = none) (hdx : H dx = none) (q : ∀ H', ShO C H' x (Num.nt t b) (Num.nb t b) → Same H H' → R .non H') :
    spInit C (.ref x :: [.int t, .int b]) (upd (upd H dx (.own x)) x (.ins C dx [])) R E := ⟨x, dx, t, b, rfl, upd_same, hb, hB, fun H' e old => q H' e (Same.made hx hdx old)⟩
theorem dec_int (i j : Int) : decide (V.int i = V.int j) = decide (i = j) := by simp
section
variable {P : Program} {w : World} {K : PySem.W.Frag} {mg : Str → Option Value} {base : Heap} {C : Addr}
abbrev s_is_operand : Stmt := top 51
abbrev N_is_operand : List Str := ["value"]
theorem sc_is_operand : FnScope N_is_operand ["value"] (defScope s_is_operand) := ⟨rfl, rfl, rfl, by decide +kernel, rfl, by decide +kernel, by decide +kernel⟩
theorem ok_is_operand (T : Blt mg) (X : ShT K mg C) (D_is_plain_int : DefOk P w K mg base CX0 1 "is_plain_int" (spPlain K)) (D : DefAt K mg "_is_operand" s_is_operand ["value"]) : DefOk P w K mg base CX0 2 "_is_operand" (spOpd C) := by
  refine D.ok sc_is_operand (fun vs H Q E h => ?_) (fun f cdv A outer s H vs Q E hr h => ?_)
  · obtain ⟨x, n, d, rfl, _⟩ := h
    rfl
  obtain ⟨x, n, d, rfl, hx, q⟩ := h
  have g_Share := X.g_Share
  refine ⟨_, (pss_one (ps_ret (pe_or (pe_callB (cl_isi K) (by rfl) T.z_isinstance (by decide +kernel) (pa_cons (pv 0) (pa_cons (pe_gcls (by rfl) g_Share) pa_nil))) (pe_one (pe_def D_is_plain_int hr (by decide) pass0 (pa_cons (pv 0) pa_nil)))))), ?_⟩
  rcases hx with ⟨p, rfl, dx, hp⟩ | ⟨rfl, rfl⟩
  · exact ⟨_, rfl, _, .ref C, _, .ref C, true, rfl, .own C, shTy X hp, kit_self, _, rfl, q⟩
  · exact ⟨_, rfl, _, .ref C, _, .ref C, false, rfl, .own C, .base (.int _), X.kI, _, rfl, _, rfl, _, true, rfl, PlainI.int _, q⟩
abbrev s_parts : Stmt := top 52
abbrev N_parts : List Str := ["value"]
theorem sc_parts : FnScope N_parts ["value"] (defScope s_parts) := ⟨rfl, rfl, rfl, by decide +kernel, rfl, by decide +kernel, by decide +kernel⟩
theorem ok_parts (T : Blt mg) (X : ShT K mg C) (D : DefAt K mg "_parts" s_parts ["value"]) : DefOk P w K mg base CX0 1 "_parts" (spParts C) := by
  refine D.ok sc_parts (fun vs H Q E h => ?_) (fun f cdv A outer s H vs Q E hr h => ?_)
  · obtain ⟨x, n, d, rfl, _⟩ := h
    rfl
  obtain ⟨x, n, d, rfl, hx, q⟩ := h
  have g_Share := X.g_Share
  refine ⟨_, (pss_cons (ps_if (pt_val (pe_callB (cl_isi K) (by rfl) T.z_isinstance (by decide +kernel) (pa_cons (pv 0) (pa_cons (pe_gcls (by rfl) g_Share) pa_nil))))
    (pss_one (ps_ret (pe_tup (pa_cons (pe_fldK K (pv 0)) (pa_cons (pe_fldK K (pv 0)) pa_nil)))))
    pss_nil)
  (pss_one (ps_ret (pe_tup (pa_cons (pv 0) (pa_cons pe_int pa_nil)))))), ?_⟩
  rcases hx with ⟨p, rfl, dx, hp⟩ | ⟨rfl, rfl⟩
  · refine ⟨_, rfl, _, .ref C, _, .ref C, true, rfl, .own C, shTy X hp, kit_self, _, rfl, ?_⟩
    exact ⟨_, rfl, p, C, dx, _, _, rfl, hp, X.cl, X.nT, shF_top _ _, _, rfl, p, C, dx, _, _, rfl, hp, X.cl, X.nB, shF_bottom _ _, (by show 2 ≤ sizeLine; decide), fun t ht => q t _ upd_same (Com.Same.upd ht)⟩
  · refine ⟨_, rfl, _, .ref C, _, .ref C, false, rfl, .own C, .base (.int _), X.kI, _, rfl, ?_⟩
    exact ⟨_, rfl, (by show 2 ≤ sizeLine; decide), fun t ht => q t _ upd_same (Com.Same.upd ht)⟩
abbrev s_Share___init : Stmt := inClass (top 53) 0
abbrev N_Share___init : List Str := ["self", "top", "bottom", "common"]
theorem sc_Share___init : FnScope N_Share___init ["self", "top", "bottom"] (defScope s_Share___init) := ⟨rfl, rfl, rfl, by decide +kernel, rfl, by decide +kernel, by decide +kernel⟩
theorem ok_init (T : Blt mg) (X : ShT K mg C) (D_is_plain_int : DefOk P w K mg base CX0 1 "is_plain_int" (spPlain K)) {f : Addr} {fd : FuncData} (F : FunD K "__init__" "Share.__init__" (defArgs s_Share___init) (defBody s_Share___init) (defScope s_Share___init) [.int 1] [] f fd) : FnOk P w K mg base CX0 2 f fd ["self", "top", "bottom"] (spInit C) := by
  refine F.ok sc_Share___init (fun vs H Q E h => ?_) (fun cdv A outer s H vs Q E hr h => ?_)
  · obtain ⟨p, dx, t, b, rfl, _⟩ := h
    rfl
  obtain ⟨p, dx, t, b, rfl, hp, hb, hB, q⟩ := h
  refine ⟨_, (pss_cons (ps_if (pt_not (pt_val (pe_def D_is_plain_int hr (by decide) pass0 (pa_cons (pv 1) pa_nil))))
    (pss_one ps_never)
    pss_nil)
  (pss_cons (ps_if (PW.pt (pw_or (pt_not (pt_val (pe_def D_is_plain_int hr (by decide) pass0 (pa_cons (pv 2) pa_nil)))) (pw_or1 (pt_cmpR op_eq (pv 2) pe_int (nomark _)))))
    (pss_one ps_never)
    pss_nil)
  (pss_cons (ps_set (i := 3) sc_Share___init.nd rfl (Or.inl rfl) (pe_gbfn cr_gcd T.g_gcd (pa_cons (pv 1) (pa_cons (pv 2) pa_nil))))
  (pss_cons (ps_if (pt_cmpR op_lt (pv 2) pe_int (nomark _))
    (pss_one (ps_set (i := 3) sc_Share___init.nd rfl (Or.inl rfl) (pe_un un_neg (pv 3))))
    pss_nil)
  (pss_cons (ps_fldK K (pv 0) (pe_op fdivX (pv 1) (pv 3)))
  (pss_one (ps_fldK K (pv 0) (pe_op fdivX (pv 2) (pv 3))))))))), ?_⟩
  refine ⟨_, rfl, _, true, rfl, PlainI.int t, _, rfl, ?_⟩
  refine ⟨_, rfl, _, true, rfl, PlainI.int b, _, rfl, ?_⟩
  refine ⟨_, rfl, rfl, _, rfl, ?_⟩
  have e0 : decide (V.int b = V.int 0) = false := by rw [dec_int]; exact decide_eq_false hb
  rw [e0]
  refine ⟨_, rfl, _, rfl, t, b, rfl, ?_⟩
  refine ⟨_, rfl, _, _, rfl, rfl, _, rfl, ?_⟩
  have hc : CDivX t (Num.cm t b) ∧ CDivX b (Num.cm t b) := ⟨⟨Num.cm_ne hb, (B.le hB (Num.cm_le t b hb)).mono (by decide)⟩, ⟨Num.cm_ne hb, (B.le hB (Num.cm_le t b hb)).mono (by decide)⟩⟩
  have fin : ∀ H', H' = upd (upd H p (.ins C dx (putF "top" (.int (Num.nt t b)) []))) p (.ins C dx (putF "bottom" (.int (Num.nb t b)) (putF "top" (.int (Num.nt t b)) []))) → Q .non H' := fun H' e => by
    subst e
    refine q _ ⟨dx, by rw [upd_same, shF_put]⟩ fun z u hz ne => ?_
    rw [upd_ne ne, upd_ne ne]
    exact hz
  refine ifB (fun c => ?_) (fun c => ?_)
  · have ec : Num.cm t b = -Num.gc t b := by unfold Num.cm; rw [if_pos (of_decide_eq_true c)]
    rw [ec] at hc
    refine ⟨_, rfl, _, rfl, ?_⟩
    refine ⟨_, rfl, _, rfl, _, _, rfl, rfl, hc.1, _, rfl, p, C, dx, [], rfl, hp, X.cl, X.nT, (by show 0 < 1000; decide), ?_⟩
    refine ⟨_, rfl, _, rfl, _, _, rfl, rfl, hc.2, _, rfl, p, C, dx, _, rfl, upd_same, X.cl, X.nB, (by rw [putF_nil]; show 1 < 1000; decide), ?_⟩
    refine fin _ ?_
    unfold Num.nt Num.nb
    rw [ec]
    rfl
  · have ec : Num.cm t b = Num.gc t b := by unfold Num.cm; rw [if_neg (of_decide_eq_false c)]
    rw [ec] at hc
    refine ⟨_, rfl, _, rfl, _, _, rfl, rfl, hc.1, _, rfl, p, C, dx, [], rfl, hp, X.cl, X.nT, (by show 0 < 1000; decide), ?_⟩
    refine ⟨_, rfl, _, rfl, _, _, rfl, rfl, hc.2, _, rfl, p, C, dx, _, rfl, upd_same, X.cl, X.nB, (by rw [putF_nil]; show 1 < 1000; decide), ?_⟩
    refine fin _ ?_
    unfold Num.nt Num.nb
    rw [ec]
    rfl
end
end Shr
section
variable {P : Program} {w : World} {K : PySem.W.Frag} {mg : Str → Option Value} {base : Heap} {C2 : Addr}
theorem sh_new {f : Addr} {fd : FuncData} {tk : Tok} (G : FnOk P w K mg base CX0 2 f fd ["self", "top", "bottom"] (Shr.spInit C2)) (b : Binds K fd ["self", "top", "bottom"] [.int 1 tk]) (mk : Mk K C2 f) (hm : mg "Share" = some (.ref C2)) : NewOk P w K mg base CX0 2 "Share" C2 (spSh C2) :=
  ⟨⟨f, (G.raw (dvs := [.int 1]) b (.cons ⟨tk, rfl⟩ .nil)).imp fun vs H Q E ⟨p, dx, i, e, hp, q⟩ => ⟨p, dx, i, 1, by rw [e]; rfl, hp, by decide, B.of (k := 1) (by decide) (Nat.one_lt_two_pow (by decide)), fun H' ⟨dx', e'⟩ old => q H' dx' _ e' old⟩, mk⟩, hm⟩
end
end K06
set_option Elab.async false
set_option linter.all false
set_option maxRecDepth 100000
set_option maxHeartbeats 4000000
namespace K06
open PySem PySem.Spec PyProof.Rows L2 Com Com_thing Sd StV Gn Ext Srl
local macro_rules | `(tactic| walk_at "rd1") => `(tactic| (first
  | refine ⟨_, rfl, ?_⟩
  | refine ⟨_, _, rfl, rfl, ?_⟩
  | refine ⟨.inl ⟨by decide, by decide⟩, ?_⟩
  | refine ⟨.inr ⟨by decide, by decide⟩, ?_⟩
  | refine ⟨(by decide : (0 : Int) < _), ?_⟩
  | refine ⟨⟨by decide, by decide⟩, ?_⟩
  | refine ⟨⟨by decide, by decide, by decide⟩, ?_⟩
  | refine ⟨rfl, ?_⟩
  | refine .inl ⟨_, rfl, ?_⟩
  | refine .inr ⟨_, rfl, ?_⟩
  | refine ⟨_, _, _, _, rfl, rfl, SqL.of upd_same, rfl, ?_⟩
  | refine ⟨_, _, _, _, rfl, rfl, upd_same, rfl, ?_⟩
  | refine ⟨mulm (by decide) (by decide), ?_⟩
  | refine ⟨_, _, _, _, rfl, rfl, SqL.of (by assumption), rfl, ?_⟩
  | refine ⟨_, _, _, _, rfl, rfl, (by assumption), rfl, ?_⟩))
local macro_rules | `(tactic| walk_at "rd") => `(tactic| repeat (walk_at "rd1"))
section
variable {P : Program} {w : World} {K : PySem.W.Frag} {mg : Str → Option Value} {base : Heap} {C : Addr}
abbrev s_is_pair : Stmt := top 15
abbrev N_is_pair : List Str := ["exchange", "thing", "i", "o"]
theorem sc_is_pair : FnScope N_is_pair ["exchange", "thing"] (defScope s_is_pair) := ⟨rfl, rfl, rfl, by decide +kernel, rfl, by decide +kernel, by decide +kernel⟩
theorem ok_is_pair (T : Blt mg) (X : ExT K mg C) (D_is_int_within : DefOk P w K mg base CX0 2 "is_int_within" (spWithin K)) (D : DefAt K mg "is_pair" s_is_pair ["exchange", "thing"]) : DefOk P w K mg base CX0 3 "is_pair" (spIsPair K C) := by
  refine D.ok sc_is_pair (fun vs H Q E h => ?_) (fun f cdv A outer s H vs Q E hr h => ?_)
  · obtain ⟨p, i, o, ds, es, m, v, b, rfl, _⟩ := h
    rfl
  obtain ⟨p, i, o, ds, es, m, v, b, rfl, x, j, q⟩ := h
  obtain ⟨dx, hp⟩ := x.ob
  refine ⟨_, (pss_cons (ps_if (PW.pt (pw_or (pt_not (pt_val (pe_callB (cl_isi K) (by rfl) T.z_isinstance (by decide +kernel) (pa_cons (pv 1) (pa_cons (pe_bltn (v := .ty "tuple") (by rfl) T.z_tuple (by decide +kernel) rfl) pa_nil))))) (pw_or1 (pt_cmpR op_ne (pe_callB (cl_len K) (by rfl) T.z_len (by decide +kernel) (pa_cons (pv 1) pa_nil)) pe_int (nomark _)))))
    (pss_one (ps_ret pe_bl))
    pss_nil)
  (pss_cons (ps_asg (pv 1) (pgT K (pgs_cons (pg_name (i := 2) sc_is_pair.nd rfl (Or.inl rfl)) (pgs_cons (pg_name (i := 3) sc_is_pair.nd rfl (Or.inl rfl)) pgs_nil))))
  (pss_one (ps_ret (pe_and (pe_def D_is_int_within hr (by decide) pass0 (pa_cons (pv 2) (pa_cons pe_int (pa_cons (pe_op op_sub (pe_callB (cl_len K) (by rfl) T.z_len (by decide +kernel) (pa_cons (pe_fldK K (pv 0)) pa_nil)) pe_int) pa_nil)))) (pe_one (pe_def D_is_int_within hr (by decide) pass0 (pa_cons (pv 3) (pa_cons pe_int (pa_cons (pe_op op_sub (pe_callB (cl_len K) (by rfl) T.z_len (by decide +kernel) (pa_cons (pe_fldK K (pv 0)) pa_nil)) pe_int) pa_nil)))))))))), ?_⟩
  rcases j with ⟨a, u, v, b1, b2, rfl, ha, i1, i2, rfl⟩ | ⟨a, xs, rfl, ha, hl, rfl⟩ | ⟨⟨t, ty, k1⟩, rfl⟩
  · refine ⟨_, rfl, _, _, .type "tuple", _, true, rfl, .ty "tuple", .base (.tup ha), kit_ty (by decide +kernel), _, rfl, iteF ?_⟩
    refine ⟨_, rfl, a, _, rfl, .inr (SqT.of ha), rfl, _, rfl, ?_⟩
    refine ifB (fun c => absurd c (by simp)) (fun _ => ?_)
    refine ⟨_, rfl, a, _, rfl, SqT.of ha, rfl, _, _, rfl, _, _, rfl, rfl, ?_⟩
    refine ⟨_, rfl, _, rfl, p, C, dx, _, _, rfl, hp, X.cl, X.nI, exF_ins _ _ _, i, _, rfl, .inr (SqT.of x.ti), _, _, rfl, rfl, u, _, _, b1, rfl, by rw [List.length_map]; exact i1, _, rfl, ?_⟩
    cases b1 with
    | false => exact q
    | true => exact ⟨_, rfl, _, rfl, p, C, dx, _, _, rfl, hp, X.cl, X.nO, exF_outs _ _ _, o, _, rfl, .inr (SqT.of x.to), _, _, rfl, rfl, v, _, _, b2, rfl, by rw [List.length_map]; exact i2, q⟩
  · refine ⟨_, rfl, _, _, .type "tuple", _, true, rfl, .ty "tuple", .base (.tup ha), kit_ty (by decide +kernel), _, rfl, iteF ?_⟩
    refine ⟨_, rfl, a, _, rfl, .inr (SqT.of ha), rfl, _, rfl, ?_⟩
    refine ifB (fun _ => q) (fun c => absurd c ?_)
    simp
    omega
  · refine ⟨_, rfl, v, _, t, _, false, rfl, .ty "tuple", ty, k1, _, rfl, iteT ?_⟩
    exact q
abbrev s_doors_left : Stmt := top 22
abbrev N_doors_left : List Str := ["exchange", "standing", "ins", "outs", "load", "i", "o"]
theorem sc_doors_left : FnScope N_doors_left ["exchange", "standing"] (defScope s_doors_left) := ⟨rfl, rfl, rfl, by decide +kernel, rfl, by decide +kernel, by decide +kernel⟩
theorem ok_doors_left (T : Blt mg) (X : ExT K mg C) (D : DefAt K mg "doors_left" s_doors_left ["exchange", "standing"]) : DefOk P w K mg base CX0 1 "doors_left" (spDoorsLeft C) := by
  refine D.ok sc_doors_left (fun vs H Q E h => ?_) (fun f cdv A outer s H vs Q E hr h => ?_)
  · obtain ⟨p, i, o, ds, es, m, v, S, rfl, _⟩ := h
    rfl
  obtain ⟨p, i, o, ds, es, m, v, S, rfl, x, ⟨a, us, rfl, ha, hS⟩, hR, q⟩ := h
  obtain ⟨dx, hp⟩ := x.ob
  refine ⟨_, (pss_cons (ps_par (i := 2) (j := 3) rfl sc_doors_left.nd rfl rfl (by decide) rfl rfl (pa_cons (pe_callTy (cl_list K) (by rfl) T.z_list (by decide +kernel) (pa_cons (pe_fldK K (pv 0)) pa_nil)) (pa_cons (pe_callTy (cl_list K) (by rfl) T.z_list (by decide +kernel) (pa_cons (pe_fldK K (pv 0)) pa_nil)) pa_nil)) rfl)
  (pss_cons (ps_for PassesOwn.never rfl (piT K (pv 1)) (pg_name (i := 4) sc_doors_left.nd rfl (Or.inl rfl))
    (pss_one (ps_for PassesOwn.never rfl (piT K (pv 4)) (pgT K (pgs_cons (pg_name (i := 5) sc_doors_left.nd rfl (Or.inl rfl)) (pgs_cons (pg_name (i := 6) sc_doors_left.nd rfl (Or.inl rfl)) pgs_nil)))
      (pss_cons (ps_augS (pv 2) (pv 5) (getL K) pe_int ip_sub set_list)
      (pss_one (ps_augS (pv 3) (pv 6) (getL K) pe_int ip_sub set_list))))))
  (pss_one (ps_ret (pe_tup (pa_cons (pv 2) (pa_cons (pv 3) pa_nil))))))), ?_⟩
  refine ⟨_, rfl, p, C, dx, _, _, rfl, hp, X.cl, X.nI, exF_ins _ _ _, i, _, rfl, .inr (SqT.of x.ti), fun la hla => ?_⟩
  have s1 := Com.Same.upd (o := .lst (ds.map V.int)) hla
  have h1 := upd_same (H := H) (a := la) (o := .lst (ds.map V.int))
  generalize upd H la (.lst (ds.map V.int)) = H1 at s1 h1 ⊢
  refine ⟨_, rfl, p, C, dx, _, _, rfl, s1 _ _ hp, X.cl, X.nO, exF_outs _ _ _, o, _, rfl, .inr (SqT.of (Same.tup s1 x.to)), fun lb hlb => ?_⟩
  have nab : la ≠ lb := ne_of_none h1 hlb
  have s2 := s1.trans (Com.Same.upd (o := .lst (es.map V.int)) hlb)
  have h2 := Com.Same.upd (o := .lst (es.map V.int)) hlb _ _ h1
  have h3 := upd_same (H := H1) (a := lb) (o := .lst (es.map V.int))
  generalize upd H1 lb (.lst (es.map V.int)) = H2 at s2 h2 h3 ⊢
  have hlb0 : H lb = none := by
    cases e : H lb with
    | none => rfl
    | some u => rw [s1 _ _ e] at hlb; cases hlb
  refine ⟨_, _, rfl, ?_⟩
  dsimp only [gName]
  refine at_st (σ' := [some (.ref p), some (.ref a), some (.ref la), some (.ref lb), none, none, none]) rfl ?_
  refine ⟨_, rfl, a, rfl, ⟨_, SqT.of (s2 _ _ ha)⟩, ?_⟩
  refine for_tup (K := K) (xs := us) (fun i σ H' => ∃ w1 w2 w3, σ = [some (.ref p), some (.ref a), some (.ref la), some (.ref lb), w1, w2, w3] ∧ LisI H' la (left ds (fs (S.take i))) ∧ LisI H' lb (left es (sn (S.take i))) ∧ (∀ b u, H b = some u → H' b = some u)) ?_ ?_ ?_ ?_
  · refine ⟨_, _, _, rfl, ?_, ?_, fun b u e => s2 b u e⟩
    · show H2 la = _
      rw [List.take_zero, show fs [] = [] from rfl, left_nil]
      exact h2
    · show H2 lb = _
      rw [List.take_zero, show sn [] = [] from rfl, left_nil]
      exact h3
  · rintro k σ H' hk ⟨w1, w2, w3, rfl, g1, g2, g3⟩
    exact SqT.of (g3 _ _ ha)
  · rintro k y σ H' hk ⟨w1, w2, w3, rfl, g1, g2, g3⟩
    obtain ⟨L, hL, b, ws, rfl, hb, hP⟩ := StV.paired_get hS hk
    dsimp only [gName]
    refine ⟨_, rfl, b, rfl, ⟨_, SqT.of (g3 _ _ hb)⟩, ?_⟩
    have eS : S.take (k + 1) = S.take k ++ [L] := by
      rw [List.take_add_one, hL]
      rfl
    have ef : fs (S.take (k + 1)) = fs (S.take k) ++ L.map (·.1) := by
      rw [eS]; simp [fs]
    have es' : sn (S.take (k + 1)) = sn (S.take k) ++ L.map (·.2) := by
      rw [eS]; simp [sn]
    refine for_tup (K := K) (xs := ws) (fun j σ H' => ∃ w1 w2 w3, σ = [some (.ref p), some (.ref a), some (.ref la), some (.ref lb), w1, w2, w3] ∧ LisI H' la (left ds (fs (S.take k) ++ (L.take j).map (·.1))) ∧ LisI H' lb (left es (sn (S.take k) ++ (L.take j).map (·.2))) ∧ (∀ b u, H b = some u → H' b = some u)) ?_ ?_ ?_ ?_
    · refine ⟨_, _, _, rfl, by simpa using g1, by simpa using g2, g3⟩
    · rintro j σ H' hj ⟨w1, w2, w3, rfl, g1, g2, g3⟩
      exact SqT.of (g3 _ _ hb)
    · rintro j y σ H' hj ⟨w1, w2, w3, rfl, g1, g2, g3⟩
      obtain ⟨pr, hpr, c, rfl, hc⟩ := StV.paired_get hP hj
      obtain ⟨r1, r2, r3, r4⟩ := hR L (List.mem_of_getElem? hL) pr (List.mem_of_getElem? hpr)
      obtain ⟨n1, e1⟩ := Int.eq_ofNat_of_zero_le r1
      obtain ⟨n2, e2⟩ := Int.eq_ofNat_of_zero_le r3
      have l1 := left_len ds (fs (S.take k) ++ (L.take j).map (·.1))
      have l2 := left_len es (sn (S.take k) ++ (L.take j).map (·.2))
      obtain ⟨x1, hx1⟩ : ∃ x1, (left ds (fs (S.take k) ++ (L.take j).map (·.1)))[n1]? = some x1 := ⟨_, List.getElem?_eq_getElem (by omega)⟩
      obtain ⟨x2, hx2⟩ : ∃ x2, (left es (sn (S.take k) ++ (L.take j).map (·.2)))[n2]? = some x2 := ⟨_, List.getElem?_eq_getElem (by omega)⟩
      have t1 := left_snoc hx1
      have t2 := left_snoc hx2
      refine ⟨c, _, rfl, SqT.of (g3 _ _ hc), rfl, _, _, rfl, _, _, rfl, rfl, ?_⟩
      refine ⟨_, rfl, _, rfl, la, _, pr.1, .int x1, rfl, rfl, SqL.of g1, atI_at e1 hx1, _, _, rfl, rfl, la, _, pr.1, n1, rfl, rfl, g1, ixN_at e1 hx1, ?_⟩
      rw [set_int, t1]
      have g2' : LisI (upd H' la (.lst ((left ds (fs (S.take k) ++ (L.take j).map (·.1) ++ [(n1 : Int)])).map V.int))) lb (left es (sn (S.take k) ++ (L.take j).map (·.2))) := by
        show upd _ _ _ _ = _
        rw [upd_ne nab.symm]
        exact g2
      refine ⟨_, rfl, _, rfl, lb, _, pr.2, .int x2, rfl, rfl, SqL.of g2', atI_at e2 hx2, _, _, rfl, rfl, lb, _, pr.2, n2, rfl, rfl, g2', ixN_at e2 hx2, ?_⟩
      rw [set_int, t2]
      have eL : L.take (j + 1) = L.take j ++ [pr] := by
        rw [List.take_add_one, hpr]
        rfl
      refine ⟨_, _, _, rfl, ?_, ?_, fun b u e => ?_⟩
      · show upd _ _ _ _ = _
        rw [upd_ne nab, upd_same, eL, List.map_append, List.map_singleton, e1, List.append_assoc]
      · show upd _ _ _ _ = _
        rw [upd_same, eL, List.map_append, List.map_singleton, e2, List.append_assoc]
      · rw [upd_ne (ne_of_none e hlb0), upd_ne (ne_of_none e hla)]
        exact g3 b u e
    · rintro σ H' ⟨w1, w2, w3, rfl, g1, g2, g3⟩
      have eL : L.take ws.length = L := by rw [List.take_of_length_le (by have := Paired.length hP; omega)]
      rw [eL] at g1 g2
      exact ⟨_, _, _, rfl, by rw [ef]; exact g1, by rw [es']; exact g2, g3⟩
  · rintro σ H' ⟨w1, w2, w3, rfl, g1, g2, g3⟩
    have eL : S.take us.length = S := by rw [List.take_of_length_le (by have := Paired.length hS; omega)]
    rw [eL] at g1 g2
    refine ⟨_, rfl, _, rfl, (by show 2 ≤ sizeLine; decide), fun t ht => ?_⟩
    refine q t la lb _ hla hlb0 nab upd_same ?_ ?_ fun b u e => ?_
    · show upd _ _ _ _ = _
      rw [upd_ne (ne_of_none g1 ht)]
      exact g1
    · show upd _ _ _ _ = _
      rw [upd_ne (ne_of_none g2 ht)]
      exact g2
    · rw [upd_ne (ne_of_none (g3 b u e) ht)]
      exact g3 b u e
end
theorem dV (a b : Int) : decide (V.int a = V.int b) = decide (a = b) := by
  refine decide_eq_decide.mpr ⟨fun h => ?_, fun h => by rw [h]⟩
  injection h
def bsOf (L : List PP) (p : PP) : List Bool := L.map fun c => !decide (c.1 = p.1) && !decide (c.2 = p.2)
theorem bsOf_all (L : List PP) (p : PP) : (bsOf L p).all id = freeB L p := by
  unfold bsOf freeB
  rw [List.all_map]
  rfl
section
variable {P : Program} {w : World} {K : PySem.W.Frag} {mg : Str → Option Value} {base : Heap} {C : Addr}
abbrev s_is_free : Stmt := top 17
abbrev N_is_free : List Str := ["load", "pair", "call"]
theorem sc_is_free : FnScope N_is_free ["load", "pair"] (defScope s_is_free) := ⟨rfl, rfl, rfl, by decide +kernel, rfl, by decide +kernel, by decide +kernel⟩
theorem ok_is_free (T : Blt mg) (D : DefAt K mg "is_free" s_is_free ["load", "pair"]) : DefOk P w K mg base CX0 1 "is_free" spIsFree := by
  refine D.ok sc_is_free (fun vs H Q E h => ?_) (fun f cdv A outer s H vs Q E hr h => ?_)
  · obtain ⟨v, u, L, p, rfl, _⟩ := h
    rfl
  obtain ⟨v, u, L, p, rfl, ⟨b, us, rfl, hb, hP⟩, hl, ⟨a, rfl, ha⟩, q⟩ := h
  have hlen := Paired.length hP
  refine ⟨_, (pss_one (ps_ret (pe_callB (cl_all K) (by rfl) T.z_all (by decide +kernel) (pa_cons (pe_lc (own := [("call", 2)]) (g := gName 2) (tt := tYes) rfl sc_is_free.nd (pi_seq K (pv 0)) (blkOk_by (N := N_is_free) (sc := defScope s_is_free) (by decide +kernel)) (fun _ _ _ _ _ => (pg_name (i := 2) sc_is_free.nd rfl (Or.inl rfl))) (fun _ _ _ _ _ => pts_nil) (fun _ _ _ _ _ => (pe_and (pe_cmpR op_ne (pe_ix (ixT K) (pv 2) pe_int (fun _ _ => rfl)) (pe_ix (ixT K) (pv 1) pe_int (fun _ _ => rfl)) (nomark _)) (pe_one (pe_cmpR op_ne (pe_ix (ixT K) (pv 2) pe_int (fun _ _ => rfl)) (pe_ix (ixT K) (pv 1) pe_int (fun _ _ => rfl)) (nomark _)))))) pa_nil)))), ?_⟩
  have step : ∀ (D : Addr) (hD : H D = none) (i : Nat) (x : V) (H' : Hp), us[i]? = some x → (H' D = some (.lst (((bsOf L p).take i).map V.bl)) ∧ Same H H') → ∃ (c : PP) (cr : Addr), L[i]? = some c ∧ x = .ref cr ∧ H' cr = some (.tup [.int c.1, .int c.2]) ∧ H' a = some (.tup [.int p.1, .int p.2]) ∧ (((bsOf L p).take i).map V.bl).length < sizeLine ∧
      (((bsOf L p).take i).map V.bl) ++ [V.bl (!decide (c.1 = p.1) && !decide (c.2 = p.2))] = (((bsOf L p).take (i + 1)).map V.bl) := by
    rintro D hD i x H' hi ⟨h1, h2⟩
    obtain ⟨c, hc, cr, rfl, hcr⟩ := StV.paired_get hP hi
    refine ⟨c, cr, hc, rfl, h2 _ _ hcr, h2 _ _ ha, ?_, ?_⟩
    · rw [List.length_map, List.length_take]
      exact small1000 (by have : (bsOf L p).length = L.length := List.length_map ..; omega)
    · have e : (bsOf L p)[i]? = some (!decide (c.1 = p.1) && !decide (c.2 = p.2)) := by
        unfold bsOf
        rw [List.getElem?_map, hc]
        rfl
      rw [List.take_add_one, e, List.map_append]
      rfl
  have fin : ∀ (D : Addr) (H' : Hp), (H' D = some (.lst (((bsOf L p).take us.length).map V.bl)) ∧ Same H H') → ∃ (aa : Addr) (bs : List Bool), [V.ref D] = [V.ref aa] ∧ SqL K H' aa (bs.map V.bl) ∧ Q (.bl (bs.all id)) H' := by
    rintro D H' ⟨h1, h2⟩
    refine ⟨D, bsOf L p, rfl, SqL.of ?_, ?_⟩
    · rw [h1, List.take_of_length_le (by have : (bsOf L p).length = L.length := List.length_map ..; omega)]
    · rw [bsOf_all]
      exact q H' h2
  refine ⟨_, rfl, b, rfl, ?_⟩
  rcases hb with hb | hb
  · refine .inl ⟨_, SqL.of hb, fun D hD => lp_list (K := K) (xs := us) (fun i H' => H' D = some (.lst (((bsOf L p).take i).map V.bl)) ∧ Same H H') ⟨upd_same, Com.Same.upd hD⟩ (fun i H' _ p => SqL.of (p.2 _ _ hb)) ?_ (fun H' h => fin D H' h)⟩
    rintro i x H' hi hh
    obtain ⟨c, cr, hc, rfl, h3, h4, h5, h6⟩ := step D hD i x H' hi hh
    refine ⟨rfl, _, rfl, cr, _, 0, _, rfl, rfl, SqT.of h3, rfl, _, rfl, a, _, 0, _, rfl, rfl, SqT.of h4, rfl, rfl, _, rfl, ?_⟩
    rw [dV]
    rw [← h6]
    cases decide (c.1 = p.1) with
    | true => exact ⟨_, hh.1, h5, upd_same, Same.grow hD hh.2⟩
    | false =>
      refine ⟨_, rfl, cr, _, 1, _, rfl, rfl, SqT.of h3, rfl, _, rfl, a, _, 1, _, rfl, rfl, SqT.of h4, rfl, rfl, ?_⟩
      rw [dV]
      exact ⟨_, hh.1, h5, upd_same, Same.grow hD hh.2⟩
  · refine .inr ⟨_, SqT.of hb, fun D hD => lp_tup (K := K) (xs := us) (fun i H' => H' D = some (.lst (((bsOf L p).take i).map V.bl)) ∧ Same H H') ⟨upd_same, Com.Same.upd hD⟩ (fun i H' _ p => SqT.of (p.2 _ _ hb)) ?_ (fun H' h => fin D H' h)⟩
    rintro i x H' hi hh
    obtain ⟨c, cr, hc, rfl, h3, h4, h5, h6⟩ := step D hD i x H' hi hh
    refine ⟨rfl, _, rfl, cr, _, 0, _, rfl, rfl, SqT.of h3, rfl, _, rfl, a, _, 0, _, rfl, rfl, SqT.of h4, rfl, rfl, _, rfl, ?_⟩
    rw [dV]
    rw [← h6]
    cases decide (c.1 = p.1) with
    | true => exact ⟨_, hh.1, h5, upd_same, Same.grow hD hh.2⟩
    | false =>
      refine ⟨_, rfl, cr, _, 1, _, rfl, rfl, SqT.of h3, rfl, _, rfl, a, _, 1, _, rfl, rfl, SqT.of h4, rfl, rfl, ?_⟩
      rw [dV]
      exact ⟨_, hh.1, h5, upd_same, Same.grow hD hh.2⟩
abbrev s_free_for : Stmt := top 24
abbrev N_free_for : List Str := ["standing", "pair", "k", "load"]
theorem sc_free_for : FnScope N_free_for ["standing", "pair"] (defScope s_free_for) := ⟨rfl, rfl, rfl, by decide +kernel, rfl, by decide +kernel, by decide +kernel⟩
theorem ok_free_for (T : Blt mg) (D_is_free : DefOk P w K mg base CX0 1 "is_free" spIsFree) (D : DefAt K mg "free_for" s_free_for ["standing", "pair"]) : DefOk P w K mg base CX0 2 "free_for" spFreeFor := by
  refine D.ok sc_free_for (fun vs H Q E h => ?_) (fun f cdv A outer s H vs Q E hr h => ?_)
  · obtain ⟨v, u, S, p, rfl, _⟩ := h
    rfl
  obtain ⟨v, u, S, p, rfl, ⟨a, us, rfl, ha, hP⟩, hl, hll, hu, q⟩ := h
  have hlen := Paired.length hP
  refine ⟨_, (pss_one (ps_ret (pe_lc (own := [("k", 2), ("load", 3)]) (g := gTup K 2 (gCons (gName 2) (gCons (gName 3) gNil))) (tt := _) rfl sc_free_for.nd (pi_enumT K (by rfl) T.z_enumerate (pa_cons (pv 0) pa_nil)) (blkOk_by (N := N_free_for) (sc := defScope s_free_for) (by decide +kernel)) (fun _ _ _ _ _ => (pgT K (pgs_cons (pg_name (i := 2) sc_free_for.nd rfl (Or.inl rfl)) (pgs_cons (pg_name (i := 3) sc_free_for.nd rfl (Or.inl rfl)) pgs_nil)))) (fun _ _ _ _ _ => (pts_one (pt_val (pe_def D_is_free hr (by decide) pass0 (pa_cons (pv 3) (pa_cons (pv 1) pa_nil)))))) (fun _ _ _ _ _ => (pv 2))))), ?_⟩
  refine ⟨_, rfl, a, us, rfl, SqT.of ha, fun D hD => lp_enumT (K := K) (xs := us) (fun i H' => LisI H' D (freesTo S p i) ∧ Same H H') ⟨upd_same, Com.Same.upd hD⟩ (fun i H' _ p => SqT.of (p.2 _ _ ha)) ?_ ?_⟩
  · rintro i x H' T0 hi ⟨h1, h2⟩ hT0
    obtain ⟨L, hL, hv⟩ := StV.paired_get hP hi
    have s3 := Com.Same.upd (o := .tup [.int (i : Nat), x]) hT0
    have h3 := upd_same (H := H') (a := T0) (o := .tup [.int (i : Nat), x])
    have h1' : upd H' T0 (.tup [.int (i : Nat), x]) D = _ := s3 _ _ h1
    generalize upd H' T0 (.tup [.int (i : Nat), x]) = H3 at s3 h3 h1' ⊢
    have s23 := h2.trans s3
    refine ⟨T0, _, rfl, SqT.of h3, rfl, _, _, rfl, _, _, rfl, rfl, rfl, ?_⟩
    refine ⟨_, rfl, _, rfl, x, u, L, p, rfl, LoadV.x (LoadV.same s23 hv), hll L (List.mem_of_getElem? hL), PairV.same s23 hu, fun H4 s4 => ⟨_, rfl, ?_⟩⟩
    have eg : S.getD i [] = L := by rw [List.getD_eq_getElem?_getD, hL]; rfl
    have e := freesTo_succ S p i
    rw [eg] at e
    have l1 : (freesTo S p i).length ≤ i := by
      unfold freesTo
      rw [List.length_map]
      have := List.length_filter_le (fun k => freeB (S.getD k []) p) (List.range i)
      rw [List.length_range] at this
      exact this
    have hil := (List.getElem?_eq_some_iff.mp hi).1
    refine ifB (fun c => ?_) (fun c => ?_)
    · rw [c, if_pos rfl] at e
      refine ⟨_, rfl, _, s4 _ _ h1', by rw [List.length_map]; exact small1000 (by omega), ?_, Same.grow hD (s23.trans s4)⟩
      show upd _ _ _ _ = _
      rw [upd_same, e, List.map_append]
      rfl
    · rw [c, if_neg Bool.false_ne_true, List.append_nil] at e
      exact ⟨by show H4 D = _; rw [e]; exact s4 _ _ h1', s23.trans s4⟩
  · rintro H' ⟨h1, h2⟩
    rw [hlen] at h1
    exact q D H' hD h1 h2
end
section
variable {P : Program} {w : World} {K : PySem.W.Frag} {mg : Str → Option Value} {base : Heap} {C : Addr}
abbrev s_free : Stmt := top 58
abbrev N_free : List Str := ["_law_load", "_law_pair", "_law_one"]
theorem sc_free : FnScope N_free ["_law_load", "_law_pair"] (defScope s_free) := ⟨rfl, rfl, rfl, by decide +kernel, rfl, by decide +kernel, by decide +kernel⟩
theorem ok_lfree (T : Blt mg) (D : DefAt K mg "_law_free" s_free ["_law_load", "_law_pair"]) : DefOk P w K mg base CX0 1 "_law_free" spIsFree := by
  refine D.ok sc_free (fun vs H Q E h => ?_) (fun f cdv A outer s H vs Q E hr h => ?_)
  · obtain ⟨v, u, L, p, rfl, _⟩ := h
    rfl
  obtain ⟨v, u, L, p, rfl, ⟨b, us, rfl, hb, hP⟩, hl, ⟨a, rfl, ha⟩, q⟩ := h
  have hlen := Paired.length hP
  refine ⟨_, (pss_one (ps_ret (pe_callB (cl_all K) (by rfl) T.z_all (by decide +kernel) (pa_cons (pe_lc (own := [("_law_one", 2)]) (g := gName 2) (tt := tYes) rfl sc_free.nd (pi_seq K (pv 0)) (blkOk_by (N := N_free) (sc := defScope s_free) (by decide +kernel)) (fun _ _ _ _ _ => (pg_name (i := 2) sc_free.nd rfl (Or.inl rfl))) (fun _ _ _ _ _ => pts_nil) (fun _ _ _ _ _ => (pe_and (pe_cmpR op_ne (pe_ix (ixT K) (pv 2) pe_int (fun _ _ => rfl)) (pe_ix (ixT K) (pv 1) pe_int (fun _ _ => rfl)) (nomark _)) (pe_one (pe_cmpR op_ne (pe_ix (ixT K) (pv 2) pe_int (fun _ _ => rfl)) (pe_ix (ixT K) (pv 1) pe_int (fun _ _ => rfl)) (nomark _)))))) pa_nil)))), ?_⟩
  have step : ∀ (D : Addr) (hD : H D = none) (i : Nat) (x : V) (H' : Hp), us[i]? = some x → (H' D = some (.lst (((bsOf L p).take i).map V.bl)) ∧ Same H H') → ∃ (c : PP) (cr : Addr), L[i]? = some c ∧ x = .ref cr ∧ H' cr = some (.tup [.int c.1, .int c.2]) ∧ H' a = some (.tup [.int p.1, .int p.2]) ∧ (((bsOf L p).take i).map V.bl).length < sizeLine ∧
      (((bsOf L p).take i).map V.bl) ++ [V.bl (!decide (c.1 = p.1) && !decide (c.2 = p.2))] = (((bsOf L p).take (i + 1)).map V.bl) := by
    rintro D hD i x H' hi ⟨h1, h2⟩
    obtain ⟨c, hc, cr, rfl, hcr⟩ := StV.paired_get hP hi
    refine ⟨c, cr, hc, rfl, h2 _ _ hcr, h2 _ _ ha, ?_, ?_⟩
    · rw [List.length_map, List.length_take]
      exact small1000 (by have : (bsOf L p).length = L.length := List.length_map ..; omega)
    · have e : (bsOf L p)[i]? = some (!decide (c.1 = p.1) && !decide (c.2 = p.2)) := by
        unfold bsOf
        rw [List.getElem?_map, hc]
        rfl
      rw [List.take_add_one, e, List.map_append]
      rfl
  have fin : ∀ (D : Addr) (H' : Hp), (H' D = some (.lst (((bsOf L p).take us.length).map V.bl)) ∧ Same H H') → ∃ (aa : Addr) (bs : List Bool), [V.ref D] = [V.ref aa] ∧ SqL K H' aa (bs.map V.bl) ∧ Q (.bl (bs.all id)) H' := by
    rintro D H' ⟨h1, h2⟩
    refine ⟨D, bsOf L p, rfl, SqL.of ?_, ?_⟩
    · rw [h1, List.take_of_length_le (by have : (bsOf L p).length = L.length := List.length_map ..; omega)]
    · rw [bsOf_all]
      exact q H' h2
  refine ⟨_, rfl, b, rfl, ?_⟩
  rcases hb with hb | hb
  · refine .inl ⟨_, SqL.of hb, fun D hD => lp_list (K := K) (xs := us) (fun i H' => H' D = some (.lst (((bsOf L p).take i).map V.bl)) ∧ Same H H') ⟨upd_same, Com.Same.upd hD⟩ (fun i H' _ p => SqL.of (p.2 _ _ hb)) ?_ (fun H' h => fin D H' h)⟩
    rintro i x H' hi hh
    obtain ⟨c, cr, hc, rfl, h3, h4, h5, h6⟩ := step D hD i x H' hi hh
    refine ⟨rfl, _, rfl, cr, _, 0, _, rfl, rfl, SqT.of h3, rfl, _, rfl, a, _, 0, _, rfl, rfl, SqT.of h4, rfl, rfl, _, rfl, ?_⟩
    rw [dV]
    rw [← h6]
    cases decide (c.1 = p.1) with
    | true => exact ⟨_, hh.1, h5, upd_same, Same.grow hD hh.2⟩
    | false =>
      refine ⟨_, rfl, cr, _, 1, _, rfl, rfl, SqT.of h3, rfl, _, rfl, a, _, 1, _, rfl, rfl, SqT.of h4, rfl, rfl, ?_⟩
      rw [dV]
      exact ⟨_, hh.1, h5, upd_same, Same.grow hD hh.2⟩
  · refine .inr ⟨_, SqT.of hb, fun D hD => lp_tup (K := K) (xs := us) (fun i H' => H' D = some (.lst (((bsOf L p).take i).map V.bl)) ∧ Same H H') ⟨upd_same, Com.Same.upd hD⟩ (fun i H' _ p => SqT.of (p.2 _ _ hb)) ?_ (fun H' h => fin D H' h)⟩
    rintro i x H' hi hh
    obtain ⟨c, cr, hc, rfl, h3, h4, h5, h6⟩ := step D hD i x H' hi hh
    refine ⟨rfl, _, rfl, cr, _, 0, _, rfl, rfl, SqT.of h3, rfl, _, rfl, a, _, 0, _, rfl, rfl, SqT.of h4, rfl, rfl, _, rfl, ?_⟩
    rw [dV]
    rw [← h6]
    cases decide (c.1 = p.1) with
    | true => exact ⟨_, hh.1, h5, upd_same, Same.grow hD hh.2⟩
    | false =>
      refine ⟨_, rfl, cr, _, 1, _, rfl, rfl, SqT.of h3, rfl, _, rfl, a, _, 1, _, rfl, rfl, SqT.of h4, rfl, rfl, ?_⟩
      rw [dV]
      exact ⟨_, hh.1, h5, upd_same, Same.grow hD hh.2⟩
end
end K06
set_option Elab.async false
set_option linter.all false
set_option maxRecDepth 100000
set_option maxHeartbeats 4000000
namespace K06
open PySem PySem.Spec PyProof.Rows L2 Com Com_thing Sd StV Gn Ext Srl
local macro_rules | `(tactic| walk_at "rd1") => `(tactic| (first
  | refine ⟨_, rfl, ?_⟩
  | refine ⟨_, _, rfl, rfl, ?_⟩
  | refine ⟨.inl ⟨by decide, by decide⟩, ?_⟩
  | refine ⟨.inr ⟨by decide, by decide⟩, ?_⟩
  | refine ⟨(by decide : (0 : Int) < _), ?_⟩
  | refine ⟨⟨by decide, by decide⟩, ?_⟩
  | refine ⟨⟨by decide, by decide, by decide⟩, ?_⟩
  | refine ⟨rfl, ?_⟩
  | refine .inl ⟨_, rfl, ?_⟩
  | refine .inr ⟨_, rfl, ?_⟩
  | refine ⟨_, _, _, _, rfl, rfl, SqL.of upd_same, rfl, ?_⟩
  | refine ⟨_, _, _, _, rfl, rfl, upd_same, rfl, ?_⟩
  | refine ⟨mulm (by decide) (by decide), ?_⟩
  | refine ⟨_, _, _, _, rfl, rfl, SqL.of (by assumption), rfl, ?_⟩
  | refine ⟨_, _, _, _, rfl, rfl, (by assumption), rfl, ?_⟩))
local macro_rules | `(tactic| walk_at "rd") => `(tactic| repeat (walk_at "rd1"))
section
variable {P : Program} {w : World} {K : PySem.W.Frag} {mg : Str → Option Value} {base : Heap} {C : Addr}
abbrev s_is_load : Stmt := top 16
abbrev N_is_load : List Str := ["exchange", "thing", "pair", "ins", "i", "o", "outs"]
theorem sc_is_load : FnScope N_is_load ["exchange", "thing"] (defScope s_is_load) := ⟨rfl, rfl, rfl, by decide +kernel, rfl, by decide +kernel, by decide +kernel⟩
theorem ok_is_load (T : Blt mg) (X : ExT K mg C) (D_is_pair : DefOk P w K mg base CX0 3 "is_pair" (spIsPair K C)) (D : DefAt K mg "is_load" s_is_load ["exchange", "thing"]) : DefOk P w K mg base CX0 4 "is_load" (spIsLoad K C) := by
  refine D.ok sc_is_load (fun vs H Q E h => ?_) (fun f cdv A outer s H vs Q E hr h => ?_)
  · obtain ⟨p, i, o, ds, es, m, v, b, rfl, _⟩ := h
    rfl
  obtain ⟨p, i, o, ds, es, m, v, b, rfl, x, j, q⟩ := h
  obtain ⟨dx, hp⟩ := x.ob
  have gn := x.gi.2.1
  have hu := hr.units
  have ld : (ds.map V.int).length = ds.length := List.length_map ..
  refine ⟨_, (pss_cons (ps_if (PW.pt (pw_or (pt_not (pt_val (pe_callB (cl_isi K) (by rfl) T.z_isinstance (by decide +kernel) (pa_cons (pv 1) (pa_cons (pe_bltn (v := .ty "tuple") (by rfl) T.z_tuple (by decide +kernel) rfl) pa_nil))))) (pw_or1 (pt_cmpR op_gt (pe_callB (cl_len K) (by rfl) T.z_len (by decide +kernel) (pa_cons (pv 1) pa_nil)) (pe_callB (cl_len K) (by rfl) T.z_len (by decide +kernel) (pa_cons (pe_fldK K (pv 0)) pa_nil)) (nomark _)))))
    (pss_one (ps_ret pe_bl))
    pss_nil)
  (pss_cons (ps_if (pt_not (pt_val (pe_callB (cl_all K) (by rfl) T.z_all (by decide +kernel) (pa_cons (pe_lc (own := [("pair", 2)]) (g := gName 2) (tt := tYes) rfl sc_is_load.nd (piT K (pv 1)) (blkOk_by (N := N_is_load) (sc := defScope s_is_load) (by decide +kernel)) (fun _ _ _ _ _ => (pg_name (i := 2) sc_is_load.nd rfl (Or.inl rfl))) (fun _ _ _ _ _ => pts_nil) (fun _ _ _ _ _ => (pe_def D_is_pair hr (by decide) pass0 (pa_cons (pv 0) (pa_cons (pv 2) pa_nil))))) pa_nil))))
    (pss_one (ps_ret pe_bl))
    pss_nil)
  (pss_cons (ps_setLc (i := 3) (own := [("i", 4), ("o", 5)]) (g := gTup K 2 (gCons (gName 4) (gCons (gName 5) gNil))) (tt := tYes) rfl sc_is_load.nd rfl rfl (sw_true rfl rfl rfl (by decide +kernel)) (piT K (pv 1)) (blkOk_by (N := N_is_load) (sc := defScope s_is_load) (by decide +kernel)) (fun _ _ _ _ _ => (pgT K (pgs_cons (pg_name (i := 4) sc_is_load.nd rfl (Or.inl rfl)) (pgs_cons (pg_name (i := 5) sc_is_load.nd rfl (Or.inl rfl)) pgs_nil)))) (fun _ _ _ _ _ => pts_nil) (fun _ _ _ _ _ => (pv 4)))
  (pss_cons (ps_setLc (i := 6) (own := [("i", 4), ("o", 5)]) (g := gTup K 2 (gCons (gName 4) (gCons (gName 5) gNil))) (tt := tYes) rfl sc_is_load.nd rfl rfl (sw_true rfl rfl rfl (by decide +kernel)) (piT K (pv 1)) (blkOk_by (N := N_is_load) (sc := defScope s_is_load) (by decide +kernel)) (fun _ _ _ _ _ => (pgT K (pgs_cons (pg_name (i := 4) sc_is_load.nd rfl (Or.inl rfl)) (pgs_cons (pg_name (i := 5) sc_is_load.nd rfl (Or.inl rfl)) pgs_nil)))) (fun _ _ _ _ _ => pts_nil) (fun _ _ _ _ _ => (pv 5)))
  (pss_one (ps_ret (pe_and (pe_cmpR (eqD K hu) (pv 3) (pe_callB (cr_sortedSet rfl) (by rfl) T.z_sorted (by decide +kernel) (pa_cons (pe_callTy (cr_setI rfl) (by rfl) T.z_set (by decide +kernel) (pa_cons (pv 3) pa_nil)) pa_nil)) (nomark _)) (pe_one (pe_cmpR op_eq (pe_callB (cl_len K) (by rfl) T.z_len (by decide +kernel) (pa_cons (pv 6) pa_nil)) (pe_callB cl_lenSet (by rfl) T.z_len (by decide +kernel) (pa_cons (pe_callTy (cr_setI rfl) (by rfl) T.z_set (by decide +kernel) (pa_cons (pv 6) pa_nil)) pa_nil)) (nomark _)))))))))), ?_⟩
  rcases j with ⟨a, xs, rfl, ha, hl, rfl⟩ | ⟨a, xs, bs, rfl, ha, hl, hb, hj, hn, rfl⟩ | ⟨L, ⟨a, xs, rfl, ha, hP⟩, hl, hg, rfl⟩ | ⟨⟨t, ty, k1⟩, rfl⟩
  · refine ⟨_, rfl, _, _, .type "tuple", _, true, rfl, .ty "tuple", .base (.tup ha), kit_ty (by decide +kernel), _, rfl, iteF ?_⟩
    refine ⟨_, rfl, a, _, rfl, .inr (SqT.of ha), _, rfl, p, C, dx, _, _, rfl, hp, X.cl, X.nI, exF_ins _ _ _, i, _, rfl, .inr (SqT.of x.ti), _, _, rfl, rfl, _, rfl, ifB (fun _ => q H (Same.refl H)) (fun c => absurd (of_decide_eq_false c) ?_)⟩
    omega
  · refine ⟨_, rfl, _, _, .type "tuple", _, true, rfl, .ty "tuple", .base (.tup ha), kit_ty (by decide +kernel), _, rfl, iteF ?_⟩
    refine ⟨_, rfl, a, _, rfl, .inr (SqT.of ha), _, rfl, p, C, dx, _, _, rfl, hp, X.cl, X.nI, exF_ins _ _ _, i, _, rfl, .inr (SqT.of x.ti), _, _, rfl, rfl, _, rfl, ifB (fun c => absurd (of_decide_eq_true c) (by omega)) (fun _ => ?_)⟩
    refine ⟨_, rfl, a, rfl, ⟨_, SqT.of ha⟩, fun D hD => lp_tup (K := K) (xs := xs) (fun i H' => H' D = some (.lst ((bs.take i).map V.bl)) ∧ But D H H')
          ⟨upd_same, .upd⟩ (fun i H' _ p => SqT.of (by rw [p.2 a (ne_of_none ha hD)]; exact ha)) ?_ ?_⟩
    · rintro i v H' hi ⟨h1, h2⟩
      have hib : i < bs.length := by rw [hb]; exact (List.getElem?_eq_some_iff.mp hi).1
      have s2 := h2.same hD
      refine ⟨rfl, _, rfl, _, rfl, p, _, _, ds, es, m, v, bs[i], rfl, x.same s2, (hj i v _ hi (List.getElem?_eq_getElem hib)).same s2, _, h1, ?_, ?_⟩
      · rw [List.length_map, List.length_take]
        exact small1000 (by omega)
      · refine ⟨?_, fun b hb => ?_⟩
        · show upd H' D _ D = _
          rw [upd_same, List.take_add_one, List.map_append, List.getElem?_eq_getElem hib]
          rfl
        · rw [upd_ne hb]
          exact h2 b hb
    · rintro H' ⟨h1, h2⟩
      refine ⟨D, bs, rfl, SqL.of (by rw [h1, List.take_of_length_le (by omega)]), ?_⟩
      rw [hn]
      exact ⟨_, rfl, q H' (h2.same hD)⟩
  · have hlen := Paired.length hP
    refine ⟨_, rfl, _, _, .type "tuple", _, true, rfl, .ty "tuple", .base (.tup ha), kit_ty (by decide +kernel), _, rfl, iteF ?_⟩
    refine ⟨_, rfl, a, _, rfl, .inr (SqT.of ha), _, rfl, p, C, dx, _, _, rfl, hp, X.cl, X.nI, exF_ins _ _ _, i, _, rfl, .inr (SqT.of x.ti), _, _, rfl, rfl, _, rfl, ifB (fun c => absurd (of_decide_eq_true c) (by omega)) (fun _ => ?_)⟩
    refine ⟨_, rfl, a, rfl, ⟨_, SqT.of ha⟩, fun D hD => lp_tup (K := K) (xs := xs) (fun i H' => H' D = some (.lst ((List.replicate i true).map V.bl)) ∧ Same H H')
          ⟨upd_same, Com.Same.upd hD⟩ (fun i H' _ p => SqT.of (p.2 _ _ ha)) ?_ ?_⟩
    · rintro i v H' hi ⟨h1, s2⟩
      obtain ⟨pr, hpr, hv⟩ := StV.paired_get hP hi
      have hg1 := hg pr (List.mem_of_getElem? hpr)
      have hil := (List.getElem?_eq_some_iff.mp hi).1
      refine ⟨rfl, _, rfl, _, rfl, p, _, _, ds, es, m, v, true, rfl, x.same s2, (PairJ.good hv hg1).same s2, _, h1, ?_, ?_⟩
      · rw [List.length_map, List.length_replicate]
        exact small1000 (by omega)
      · refine ⟨?_, Same.grow hD s2⟩
        show upd H' D _ D = _
        rw [upd_same, List.replicate_succ', List.map_append]
        rfl
    · rintro H1 ⟨h1, s1⟩
      refine ⟨D, _, rfl, SqL.of h1, ?_⟩
      rw [show (List.replicate xs.length true).all id = true by simp]
      refine ⟨_, rfl, ?_⟩
      have ha1 := s1 _ _ ha
      refine ⟨_, rfl, a, rfl, ⟨_, SqT.of ha1⟩, fun D2 hD2 => lp_tup (K := K) (xs := xs) (fun i H' => H' D2 = some (.lst (((L.take i).map (·.1)).map V.int)) ∧ Same H1 H')
          ⟨upd_same, Com.Same.upd hD2⟩ (fun i H' _ p => SqT.of (p.2 _ _ ha1)) ?_ ?_⟩
      · rintro i v H' hi ⟨h1, s2⟩
        obtain ⟨pr, hpr, c, rfl, hc⟩ := StV.paired_get hP hi
        have hil := (List.getElem?_eq_some_iff.mp hi).1
        refine ⟨c, _, rfl, SqT.of (s2 _ _ (s1 _ _ hc)), rfl, _, _, rfl, _, _, rfl, rfl, rfl, _, rfl, _, h1, ?_, ?_, Same.grow hD2 s2⟩
        · rw [List.length_map, List.length_map, List.length_take]
          exact small1000 (by omega)
        · show upd _ _ _ _ = _
          rw [upd_same, List.take_add_one, hpr]
          simp
      · rintro H2 ⟨h2, s2⟩
        rw [List.take_of_length_le (by omega)] at h2
        dsimp only [gName]
        refine at_st (σ' := [some (.ref p), some (.ref a), none, some (.ref D2), none, none, none]) rfl ?_
        have ha2 := s2 _ _ ha1
        refine ⟨_, rfl, a, rfl, ⟨_, SqT.of ha2⟩, fun D3 hD3 => lp_tup (K := K) (xs := xs) (fun i H' => H' D3 = some (.lst (((L.take i).map (·.2)).map V.int)) ∧ Same H2 H')
            ⟨upd_same, Com.Same.upd hD3⟩ (fun i H' _ p => SqT.of (p.2 _ _ ha2)) ?_ ?_⟩
        · rintro i v H' hi ⟨h1, s3⟩
          obtain ⟨pr, hpr, c, rfl, hc⟩ := StV.paired_get hP hi
          have hil := (List.getElem?_eq_some_iff.mp hi).1
          refine ⟨c, _, rfl, SqT.of (s3 _ _ (s2 _ _ (s1 _ _ hc))), rfl, _, _, rfl, _, _, rfl, rfl, rfl, _, rfl, _, h1, ?_, ?_, Same.grow hD3 s3⟩
          · rw [List.length_map, List.length_map, List.length_take]
            exact small1000 (by omega)
          · show upd _ _ _ _ = _
            rw [upd_same, List.take_add_one, hpr]
            simp
        · rintro H3 ⟨h3, s3⟩
          rw [List.take_of_length_le (by omega)] at h3
          dsimp only [gName]
          refine at_st (σ' := [some (.ref p), some (.ref a), none, some (.ref D2), none, none, some (.ref D3)]) rfl ?_
          have h23 := s3 _ _ h2
          have lL1 : (L.map (·.1)).length = L.length := List.length_map ..
          have lL2 : (L.map (·.2)).length = L.length := List.length_map ..
          refine ⟨_, rfl, _, rfl, D2, _, rfl, SqL.of h23, by omega, fun p1 n1 ks1 nd1 hm1 hk1 hn1 hp1 => ?_⟩
          have s4 := Com.Same.upd (o := SetO w p1 (fun k => decide (k ∈ L.map (·.1))) n1) hp1
          refine ⟨p1, _, n1, rfl, upd_same, by omega, fun ns p2 as1 hns hln hp2 => ?_⟩
          have s5 := s4.trans (Com.Same.upd (o := .lst (ns.map V.int)) hp2)
          have h5 := upd_same (H := upd H3 p1 (SetO w p1 (fun k => decide (k ∈ L.map (·.1))) n1)) (a := p2) (o := .lst (ns.map V.int))
          refine ⟨_, _, dp_lI (s5 _ _ h23), dp_lI h5, shaped_lI _, shaped_lI _, ?_⟩
          rw [eqv_lI, asc_dec as1 (fun k => by rw [hns k, decide_eq_true_eq])]
          refine ⟨_, rfl, ifB (fun c => ?_) (fun c => ?_)⟩
          · refine ⟨_, rfl, D3, _, rfl, .inl (SqL.of (s5 _ _ h3)), _, rfl, D3, _, rfl, SqL.of (s5 _ _ h3), by omega, fun p6 n6 ks6 nd6 hm6 hk6 hn6 hp6 => ?_⟩
            refine ⟨p6, _, n6, rfl, upd_same, by omega, rfl, ?_⟩
            have e : decide (V.int (((L.map (·.2)).map V.int).length : Nat) = V.int (n6 : Nat)) = decide (L.map (·.2)).Nodup := by
              rw [← nd_dec nd6 hm6]
              refine decide_eq_decide.mpr ⟨fun h => ?_, fun h => ?_⟩
              · injection h with h
                rw [List.length_map] at h
                omega
              · rw [List.length_map, h, hk6]
            rw [e]
            have e2 : ascB L = decide (L.map (·.2)).Nodup := by
              unfold ascB
              rw [c, Bool.true_and]
            rw [e2] at q
            exact q _ (s1.trans (s2.trans (s3.trans (s5.trans (Com.Same.upd hp6)))))
          · have e2 : ascB L = false := by
              unfold ascB
              rw [c, Bool.false_and]
            rw [e2] at q
            exact q _ (s1.trans (s2.trans (s3.trans s5)))
  · refine ⟨_, rfl, v, _, t, _, false, rfl, .ty "tuple", ty, k1, _, rfl, iteT ?_⟩
    exact q H (Same.refl H)
abbrev s_is_standing : Stmt := top 28
abbrev N_is_standing : List Str := ["exchange", "thing", "load", "ins", "outs"]
theorem sc_is_standing : FnScope N_is_standing ["exchange", "thing"] (defScope s_is_standing) := ⟨rfl, rfl, rfl, by decide +kernel, rfl, by decide +kernel, by decide +kernel⟩
theorem ok_is_standing (T : Blt mg) (X : ExT K mg C) (D_is_load : DefOk P w K mg base CX0 4 "is_load" (spIsLoad K C)) (D_doors_left : DefOk P w K mg base CX0 1 "doors_left" (spDoorsLeft C)) (D : DefAt K mg "is_standing" s_is_standing ["exchange", "thing"]) : DefOk P w K mg base CX0 5 "is_standing" (spIsStanding K C) := by
  refine D.ok sc_is_standing (fun vs H Q E h => ?_) (fun f cdv A outer s H vs Q E hr h => ?_)
  · obtain ⟨p, i, o, ds, es, m, v, b, rfl, _⟩ := h
    rfl
  obtain ⟨p, i, o, ds, es, m, v, b, rfl, x, j, q⟩ := h
  obtain ⟨dx, hp⟩ := x.ob
  have m7 := x.m2
  have g1 := x.gi.1
  have g2 := x.go.1
  refine ⟨_, (pss_cons (ps_if (PW.pt (pw_or (pt_not (pt_val (pe_callB (cl_isi K) (by rfl) T.z_isinstance (by decide +kernel) (pa_cons (pv 1) (pa_cons (pe_bltn (v := .ty "tuple") (by rfl) T.z_tuple (by decide +kernel) rfl) pa_nil))))) (pw_or1 (pt_cmpR op_ne (pe_callB (cl_len K) (by rfl) T.z_len (by decide +kernel) (pa_cons (pv 1) pa_nil)) (pe_fldK K (pv 0)) (nomark _)))))
    (pss_one (ps_ret pe_bl))
    pss_nil)
  (pss_cons (ps_if (pt_not (pt_val (pe_callB (cl_all K) (by rfl) T.z_all (by decide +kernel) (pa_cons (pe_lc (own := [("load", 2)]) (g := gName 2) (tt := tYes) rfl sc_is_standing.nd (piT K (pv 1)) (blkOk_by (N := N_is_standing) (sc := defScope s_is_standing) (by decide +kernel)) (fun _ _ _ _ _ => (pg_name (i := 2) sc_is_standing.nd rfl (Or.inl rfl))) (fun _ _ _ _ _ => pts_nil) (fun _ _ _ _ _ => (pe_def D_is_load hr (by decide) pass0 (pa_cons (pv 0) (pa_cons (pv 2) pa_nil))))) pa_nil))))
    (pss_one (ps_ret pe_bl))
    pss_nil)
  (pss_cons (ps_asg (pe_def D_doors_left hr (by decide) pass0 (pa_cons (pv 0) (pa_cons (pv 1) pa_nil))) (pgT K (pgs_cons (pg_name (i := 3) sc_is_standing.nd rfl (Or.inl rfl)) (pgs_cons (pg_name (i := 4) sc_is_standing.nd rfl (Or.inl rfl)) pgs_nil))))
  (pss_one (ps_ret (pe_and (pe_cmpR op_ge (pe_callB (cr_min rfl) (by rfl) T.z_min (by decide +kernel) (pa_cons (pv 3) pa_nil)) pe_int (nomark _)) (pe_one (pe_cmpR op_ge (pe_callB (cr_min rfl) (by rfl) T.z_min (by decide +kernel) (pa_cons (pv 4) pa_nil)) pe_int (nomark _))))))))), ?_⟩
  rcases j with ⟨a, xs, rfl, ha, hl, rfl⟩ | ⟨a, xs, bs, rfl, ha, hl, hb, hj, hn, rfl⟩ | ⟨S, hS, hl, hg, rfl⟩ | ⟨⟨t, ty, k1⟩, rfl⟩
  · refine ⟨_, rfl, _, _, .type "tuple", _, true, rfl, .ty "tuple", .base (.tup ha), kit_ty (by decide +kernel), _, rfl, iteF ?_⟩
    refine ⟨_, rfl, a, _, rfl, .inr (SqT.of ha), _, rfl, p, C, dx, _, _, rfl, hp, X.cl, X.nM, exF_middles _ _ _, rfl, _, rfl, ifB (fun _ => q H (Same.refl H)) (fun c => absurd c ?_)⟩
    simp
    omega
  · refine ⟨_, rfl, _, _, .type "tuple", _, true, rfl, .ty "tuple", .base (.tup ha), kit_ty (by decide +kernel), _, rfl, iteF ?_⟩
    refine ⟨_, rfl, a, _, rfl, .inr (SqT.of ha), _, rfl, p, C, dx, _, _, rfl, hp, X.cl, X.nM, exF_middles _ _ _, rfl, _, rfl, ifB (fun c => absurd c (by simp; omega)) (fun _ => ?_)⟩
    refine ⟨_, rfl, a, rfl, ⟨_, SqT.of ha⟩, fun D hD => lp_tup (K := K) (xs := xs) (fun i H' => H' D = some (.lst ((bs.take i).map V.bl)) ∧ Same H H')
          ⟨upd_same, Com.Same.upd hD⟩ (fun i H' _ p => SqT.of (p.2 _ _ ha)) ?_ ?_⟩
    · rintro i v H' hi ⟨h1, s2⟩
      have hib : i < bs.length := by rw [hb]; exact (List.getElem?_eq_some_iff.mp hi).1
      refine ⟨rfl, _, rfl, _, rfl, p, _, _, ds, es, m, v, bs[i], rfl, x.same s2, (hj i v _ hi (List.getElem?_eq_getElem hib)).same s2, fun H3 s3 => ⟨_, s3 _ _ h1, ?_, ?_, Same.grow hD (s2.trans s3)⟩⟩
      · rw [List.length_map, List.length_take]
        exact small1000 (by omega)
      · show upd H3 D _ D = _
        rw [upd_same, List.take_add_one, List.map_append, List.getElem?_eq_getElem hib]
        rfl
    · rintro H' ⟨h1, s2⟩
      refine ⟨D, bs, rfl, SqL.of (by rw [h1, List.take_of_length_le (by omega)]), ?_⟩
      rw [hn]
      exact ⟨_, rfl, q H' s2⟩
  · have hSV := hS
    obtain ⟨a, xs, rfl, ha, hP⟩ := hS
    have hlen := Paired.length hP
    refine ⟨_, rfl, _, _, .type "tuple", _, true, rfl, .ty "tuple", .base (.tup ha), kit_ty (by decide +kernel), _, rfl, iteF ?_⟩
    refine ⟨_, rfl, a, _, rfl, .inr (SqT.of ha), _, rfl, p, C, dx, _, _, rfl, hp, X.cl, X.nM, exF_middles _ _ _, rfl, _, rfl, ifB (fun c => absurd c (by simp; omega)) (fun _ => ?_)⟩
    refine ⟨_, rfl, a, rfl, ⟨_, SqT.of ha⟩, fun D hD => lp_tup (K := K) (xs := xs) (fun i H' => H' D = some (.lst ((List.replicate i true).map V.bl)) ∧ Same H H')
          ⟨upd_same, Com.Same.upd hD⟩ (fun i H' _ p => SqT.of (p.2 _ _ ha)) ?_ ?_⟩
    · rintro i v H' hi ⟨h1, s2⟩
      obtain ⟨L, hL, hv⟩ := StV.paired_get hP hi
      have hil := (List.getElem?_eq_some_iff.mp hi).1
      refine ⟨rfl, _, rfl, _, rfl, p, _, _, ds, es, m, v, true, rfl, x.same s2, (LoadJ.good hv (hg L (List.mem_of_getElem? hL))).same s2, fun H3 s3 => ⟨_, s3 _ _ h1, ?_, ?_, Same.grow hD (s2.trans s3)⟩⟩
      · rw [List.length_map, List.length_replicate]
        exact small1000 (by omega)
      · show upd H3 D _ D = _
        rw [upd_same, List.replicate_succ', List.map_append]
        rfl
    · rintro H1 ⟨h1, s1⟩
      refine ⟨D, _, rfl, SqL.of h1, ?_⟩
      rw [show (List.replicate xs.length true).all id = true by simp]
      refine ⟨_, rfl, ?_⟩
      refine ⟨_, rfl, _, rfl, p, _, _, ds, es, m, _, S, rfl, x.same s1, StaV.same s1 hSV, fun L hL => (hg L hL).rng, fun t la lb H2 na nb nab ht h2 h3 s2 => ?_⟩
      refine ⟨t, _, rfl, SqT.of ht, rfl, _, _, rfl, _, _, rfl, rfl, ?_⟩
      dsimp only [gName]
      refine at_st (σ' := [some (.ref p), some (.ref a), none, some (.ref la), some (.ref lb)]) rfl ?_
      refine ⟨_, rfl, la, _, rfl, SqL.of h2, by rw [left_len]; omega, fun d1 hd1 hm1 => ⟨_, _, rfl, rfl, _, rfl, ifB (fun c1 => ?_) (fun c1 => ?_)⟩⟩
      · refine ⟨_, rfl, lb, _, rfl, SqL.of h3, by rw [left_len]; omega, fun d2 hd2 hm2 => ⟨_, _, rfl, rfl, ?_⟩⟩
        have := q H2 (s1.trans s2)
        have e1 : doorB ds es S = decide (0 ≤ d2) := by
          unfold doorB
          rw [decide_eq_true (show ∀ d ∈ left ds (fs S), 0 ≤ d from fun d hd => by have := hm1 d hd; have := of_decide_eq_true c1; omega), Bool.true_and]
          refine decide_eq_decide.mpr ⟨fun h => h d2 hd2, fun h d hd => by have := hm2 d hd; omega⟩
        rw [e1] at this
        exact this
      · have := q H2 (s1.trans s2)
        have e1 : doorB ds es S = false := by
          unfold doorB
          rw [decide_eq_false (fun h => absurd (h d1 hd1) (of_decide_eq_false c1)), Bool.false_and]
        rw [e1] at this
        exact this
  · refine ⟨_, rfl, v, _, t, _, false, rfl, .ty "tuple", ty, k1, _, rfl, iteT ?_⟩
    exact q H (Same.refl H)
end
end K06
set_option Elab.async false
set_option linter.all false
set_option maxRecDepth 100000
set_option maxHeartbeats 4000000
namespace K06
open PySem PySem.Spec PyProof.Rows L2 Com Com_thing Sd StV Gn Ext Srl
local macro_rules | `(tactic| walk_at "rd1") => `(tactic| (first
  | refine ⟨_, rfl, ?_⟩
  | refine ⟨_, _, rfl, rfl, ?_⟩
  | refine ⟨.inl ⟨by decide, by decide⟩, ?_⟩
  | refine ⟨.inr ⟨by decide, by decide⟩, ?_⟩
  | refine ⟨(by decide : (0 : Int) < _), ?_⟩
  | refine ⟨⟨by decide, by decide⟩, ?_⟩
  | refine ⟨⟨by decide, by decide, by decide⟩, ?_⟩
  | refine ⟨rfl, ?_⟩
  | refine .inl ⟨_, rfl, ?_⟩
  | refine .inr ⟨_, rfl, ?_⟩
  | refine ⟨_, _, _, _, rfl, rfl, SqL.of upd_same, rfl, ?_⟩
  | refine ⟨_, _, _, _, rfl, rfl, upd_same, rfl, ?_⟩
  | refine ⟨mulm (by decide) (by decide), ?_⟩
  | refine ⟨_, _, _, _, rfl, rfl, SqL.of (by assumption), rfl, ?_⟩
  | refine ⟨_, _, _, _, rfl, rfl, (by assumption), rfl, ?_⟩))
local macro_rules | `(tactic| walk_at "rd") => `(tactic| repeat (walk_at "rd1"))
section
variable {P : Program} {w : World} {K : PySem.W.Frag} {mg : Str → Option Value} {base : Heap} {C : Addr}
abbrev s_loads : Stmt := top 59
abbrev N_loads : List Str := ["_law_flow_here", "_law_ins", "_law_outs", "_law_middles", "_law_many", "_law_loads_here", "_law_k", "_law_left", "_law_turn", "_law_pair", "_law_load"]
theorem sc_loads : FnScope N_loads ["_law_flow_here", "_law_ins", "_law_outs", "_law_middles", "_law_many"] (defScope s_loads) := ⟨rfl, rfl, rfl, by decide +kernel, rfl, by decide +kernel, by decide +kernel⟩
theorem ok_lloads (T : Blt mg) (D_pick : DefOk P w K mg base CX0 1 "_law_pick" spPick) (D_free : DefOk P w K mg base CX0 1 "_law_free" spIsFree) (D : DefAt K mg "_law_loads" s_loads ["_law_flow_here", "_law_ins", "_law_outs", "_law_middles", "_law_many"]) : DefOk P w K mg base CX0 2 "_law_loads" spLoads := by
  refine D.ok sc_loads (fun vs H Q E h => ?_) (fun f cdv A outer s H vs Q E hr h => ?_)
  · obtain ⟨a, i, o, ds, es, m, many, rfl, _⟩ := h
    rfl
  obtain ⟨a, i, o, ds, es, m, many, rfl, f0, ti, gi, to, go, m1, m2, k1, k2, q⟩ := h
  have ld : (ds.map V.int).length = ds.length := List.length_map ..
  have le : (es.map V.int).length = es.length := List.length_map ..
  have gd1 := gi.1
  have gd2 := gi.2.1
  have ge1 := go.1
  have ge2 := go.2.1
  refine ⟨_, (pss_cons (ps_setLc (i := 5) (own := [("_law_k", 6)]) (g := gName 6) (tt := tYes) rfl sc_loads.nd rfl rfl (sw_true rfl rfl rfl (by decide +kernel)) (pi_range1 (by rfl) T.z_range (pa_cons (pv 3) pa_nil)) (blkOk_by (N := N_loads) (sc := defScope s_loads) (by decide +kernel)) (fun _ _ _ _ _ => (pg_name (i := 6) sc_loads.nd rfl (Or.inl rfl))) (fun _ _ _ _ _ => pts_nil) (fun _ _ _ _ _ => (pe_lst pa_nil)))
  (pss_cons (ps_set (i := 7) sc_loads.nd rfl (Or.inl rfl) (pe_lst (pa_cons (pe_callTy (cl_list K) (by rfl) T.z_list (by decide +kernel) (pa_cons (pv 1) pa_nil)) (pa_cons (pe_callTy (cl_list K) (by rfl) T.z_list (by decide +kernel) (pa_cons (pv 2) pa_nil)) pa_nil))))
  (pss_cons (ps_for PassesOwn.never rfl (pi_range1 (by rfl) T.z_range (pa_cons (pv 4) pa_nil)) (pg_name (i := 8) sc_loads.nd rfl (Or.inl rfl))
    (pss_cons (ps_set (i := 9) sc_loads.nd rfl (Or.inl rfl) (pe_tup (pa_cons (pe_def D_pick hr (by decide) pass0 (pa_cons (pv 0) (pa_cons (pe_callB (cl_len K) (by rfl) T.z_len (by decide +kernel) (pa_cons (pv 1) pa_nil)) pa_nil))) (pa_cons (pe_def D_pick hr (by decide) pass0 (pa_cons (pv 0) (pa_cons (pe_callB (cl_len K) (by rfl) T.z_len (by decide +kernel) (pa_cons (pv 2) pa_nil)) pa_nil))) pa_nil))))
    (pss_cons (ps_set (i := 6) sc_loads.nd rfl (Or.inl rfl) (pe_def D_pick hr (by decide) pass0 (pa_cons (pv 0) (pa_cons (pv 3) pa_nil))))
    (pss_one (ps_if (PW.pt (pw_and (pt_cmpR op_gt (pe_ix (ixL K) (pe_ix (ixL K) (pv 7) pe_int (fun _ _ => rfl)) (pe_ix (ixT K) (pv 9) pe_int (fun _ _ => rfl)) (fun _ _ => rfl)) pe_int (nomark _)) (pw_and (pt_cmpR op_gt (pe_ix (ixL K) (pe_ix (ixL K) (pv 7) pe_int (fun _ _ => rfl)) (pe_ix (ixT K) (pv 9) pe_int (fun _ _ => rfl)) (fun _ _ => rfl)) pe_int (nomark _)) (pw_and1 (pt_val (pe_def D_free hr (by decide) pass0 (pa_cons (pe_ix (ixL K) (pv 5) (pv 6) (fun _ _ => rfl)) (pa_cons (pv 9) pa_nil))))))))
      (pss_cons (ps_asg (pe_callB (cr_srtP K) (by rfl) T.z_sorted (by decide +kernel) (pa_cons (pe_op op_cat (pe_ix (ixL K) (pv 5) (pv 6) (fun _ _ => rfl)) (pe_lst (pa_cons (pv 9) pa_nil))) pa_nil)) (pg_sub (pv 5) (pv 6) set_list))
      (pss_cons (ps_augS (pe_ix (ixL K) (pv 7) pe_int (fun _ _ => rfl)) (pe_ix (ixT K) (pv 9) pe_int (fun _ _ => rfl)) (getL K) pe_int ip_sub set_list)
      (pss_one (ps_augS (pe_ix (ixL K) (pv 7) pe_int (fun _ _ => rfl)) (pe_ix (ixT K) (pv 9) pe_int (fun _ _ => rfl)) (getL K) pe_int ip_sub set_list))))
      pss_nil)))))
  (pss_one (ps_ret (pe_callTy (cl_tuple K) (by rfl) T.z_tuple (by decide +kernel) (pa_cons (pe_lc (own := [("_law_load", 10)]) (g := gName 10) (tt := tYes) rfl sc_loads.nd (piL K (pv 5)) (blkOk_by (N := N_loads) (sc := defScope s_loads) (by decide +kernel)) (fun _ _ _ _ _ => (pg_name (i := 10) sc_loads.nd rfl (Or.inl rfl))) (fun _ _ _ _ _ => pts_nil) (fun _ _ _ _ _ => (pe_callTy (cl_tuple K) (by rfl) T.z_tuple (by decide +kernel) (pa_cons (pv 10) pa_nil)))) pa_nil))))))), ?_⟩
  refine ⟨_, rfl, _, rfl, by omega, by omega, fun A hA => ?_⟩
  have aA : a ≠ A := (FlowAt.ne f0 hA).symm
  refine lp_range (lo := 0) (fun k H' => ∃ vs, H' A = some (.lst vs) ∧ Paired (fun v L => ∃ b us, v = .ref b ∧ H' b = some (.lst us) ∧ PairsV H' us L ∧ b ≠ a ∧ b ≠ A) vs (List.replicate k []) ∧ Same H H') ⟨[], upd_same, .nil, Com.Same.upd hA⟩ ?_ ?_
  · rintro k H' hk ⟨vs, h1, h2, h3⟩
    refine ⟨rfl, (by show 0 ≤ sizeLine; decide), fun b hb => ?_⟩
    have nb : A ≠ b := ne_of_none h1 hb
    have vl := Paired.length h2
    rw [List.length_replicate] at vl
    refine ⟨vs, by rw [upd_ne nb]; exact h1, small1000 (by omega), vs ++ [.ref b], upd_same, ?_, Same.grow hA (h3.trans (Com.Same.upd hb))⟩
    rw [List.replicate_succ']
    have ts : TupS H' (upd (upd H' b (.lst [])) A (.lst (vs ++ [V.ref b]))) := (TupS.new hb).trans (TupS.lset (by rw [upd_ne nb]; exact h1))
    refine Paired.snoc (paired_imp (fun v L ⟨c, us, e, hc, hp, n1, n2⟩ => ⟨c, us, e, ?hc, PairsV.mono ts hp, n1, n2⟩) h2) ⟨b, [], rfl, ?hn, .nil, FlowAt.ne (FlowAt.same f0 h3) hb, nb.symm⟩
    case hc =>
      rw [upd_ne n2, upd_ne (ne_of_none hc hb)]
      exact hc
    case hn => rw [upd_ne nb.symm, upd_same]
  · rintro H1 ⟨vs0, hA1, hV1, s1⟩
    dsimp only [gName]
    refine at_st (σ' := [some (.ref a), some (.ref i), some (.ref o), some (.int m), some (.int many), some (.ref A), none, none, none, none, none]) rfl ?_
    refine ⟨_, rfl, i, _, rfl, .inr (SqT.of (Same.tup s1 ti)), fun I0 hI0 => ?_⟩
    have s2 := Com.Same.upd (o := .lst (ds.map V.int)) hI0
    have h2 := upd_same (H := H1) (a := I0) (o := .lst (ds.map V.int))
    generalize upd H1 I0 (.lst (ds.map V.int)) = H2 at s2 h2 ⊢
    have s12 := s1.trans s2
    refine ⟨_, rfl, o, _, rfl, .inr (SqT.of (Same.tup s12 to)), fun I1 hI1 => ?_⟩
    have s3 := Com.Same.upd (o := .lst (es.map V.int)) hI1
    have h3 := upd_same (H := H2) (a := I1) (o := .lst (es.map V.int))
    generalize upd H2 I1 (.lst (es.map V.int)) = H3 at s3 h3 ⊢
    have s13 := s12.trans s3
    refine ⟨(by show 2 ≤ sizeLine; decide), fun L0 hL0 => ?_⟩
    have s4 := Com.Same.upd (o := .lst [.ref I0, .ref I1]) hL0
    have h4 := upd_same (H := H3) (a := L0) (o := .lst [.ref I0, .ref I1])
    generalize upd H3 L0 (.lst [.ref I0, .ref I1]) = H4 at s4 h4 ⊢
    have s14 := s13.trans s4
    have bk : ∀ {b : Addr} {H' : Hp}, Same H H' → H' b = none → H b = none := fun {b H'} s n => by
      cases e : H b with
      | none => rfl
      | some z => rw [s _ _ e] at n; cases n
    have Z : Apart H a A L0 I0 I1 := ⟨hA, bk s13 hL0, bk s1 hI0, bk s12 hI1, aA, (FlowAt.ne (FlowAt.same f0 s13) hL0).symm, (FlowAt.ne (FlowAt.same f0 s1) hI0).symm, (FlowAt.ne (FlowAt.same f0 s12) hI1).symm,
      ne_of_none (s3 _ _ (s2 _ _ hA1)) hL0, ne_of_none hA1 hI0, ne_of_none (s2 _ _ hA1) hI1, (ne_of_none (s3 _ _ h2) hL0).symm, (ne_of_none h3 hL0).symm, ne_of_none h2 hI1⟩
    obtain ⟨nm, rfl⟩ := Int.eq_ofNat_of_zero_le (show 0 ≤ m by omega)
    have LD : LdI a A L0 I0 I1 ds es (nm : Nat) H H4 (List.replicate nm []) vs0 := by
      refine ⟨FlowAt.same f0 s14, s4 _ _ (s3 _ _ (s2 _ _ hA1)), ?_, h4, ?_, ?_, StdOk.empty (fun d hd => (gi.2.2 d hd).1) (fun d hd => (go.2.2 d hd).1), same_old s14⟩
      · refine paired_imp (fun v L ⟨c, us, e, hc, hp, n1, n2⟩ => ⟨c, us, e, s4 _ _ (s3 _ _ (s2 _ _ hc)), PairsV.same (s2.trans (s3.trans s4)) hp, n1, n2, ne_of_none (s3 _ _ (s2 _ _ hc)) hL0, ne_of_none hc hI0, ne_of_none (s2 _ _ hc) hI1⟩) hV1
      · show H4 I0 = _
        rw [show fs (List.replicate nm ([] : List PP)) = [] by simp [fs], left_nil]
        exact s4 _ _ (s3 _ _ h2)
      · show H4 I1 = _
        rw [show sn (List.replicate nm ([] : List PP)) = [] by simp [sn], left_nil]
        exact s4 _ _ h3
    dsimp only [gName]
    refine at_st (σ' := [some (.ref a), some (.ref i), some (.ref o), some (.int (nm : Nat)), some (.int many), some (.ref A), none, some (.ref L0), none, none, none]) rfl ?_
    clear h2 h3 h4 hA1 hV1 s2 s3 s4 hL0 hI1 hI0 hA s12 s13 s1
    refine ⟨_, rfl, _, rfl, by omega, by omega, for_range (lo := 0) (fun j σ H' => ∃ w6 w8 w9 S vs, σ = [some (.ref a), some (.ref i), some (.ref o), some (.int (nm : Nat)), some (.int many), some (.ref A), w6, some (.ref L0), w8, w9, none] ∧ LdI a A L0 I0 I1 ds es (nm : Nat) H H' S vs) ⟨_, _, _, _, _, rfl, LD⟩ ?_ ?_⟩
    · rintro j σ H5 hj ⟨w6, w8, w9, S, vs, rfl, I⟩
      dsimp only [gName]
      have ti5 : Tup H5 i ds := I.old _ _ ti (tup_ne f0 ti)
      have to5 : Tup H5 o es := I.old _ _ to (tup_ne f0 to)
      refine ⟨_, rfl, _, rfl, i, _, rfl, .inr (SqT.of ti5), a, _, rfl, I.fl, by omega, small200 (by omega), fun d1 H6 d10 d11 f6 b6 => ?_⟩
      have I6 := I.but Z b6 f6
      have to6 : Tup H6 o es := I6.old _ _ to (tup_ne f0 to)
      refine ⟨_, rfl, _, rfl, o, _, rfl, .inr (SqT.of to6), a, _, rfl, f6, by omega, small200 (by omega), fun d2 H7 d20 d21 f7 b7 => ?_⟩
      have I7 := I6.but Z b7 f7
      refine ⟨(by show 2 ≤ sizeLine; decide), fun t ht => ?_⟩
      have s8 := Com.Same.upd (o := .tup [V.int d1, V.int d2]) ht
      have h8 := upd_same (H := H7) (a := t) (o := .tup [V.int d1, V.int d2])
      generalize upd H7 t (.tup [V.int d1, V.int d2]) = H8 at s8 h8 ⊢
      have I8 := I7.same s8
      dsimp only [gName]
      refine at_st (σ' := [some (.ref a), some (.ref i), some (.ref o), some (.int (nm : Nat)), some (.int many), some (.ref A), w6, some (.ref L0), some (.int (0 + (j : Nat))), some (.ref t), none]) rfl ?_
      refine ⟨_, rfl, _, rfl, a, _, rfl, I8.fl, by omega, small200 (by omega), fun k H9 k0 kn f9 b9 => ?_⟩
      have I9 := I8.but Z b9 f9
      have h9 : H9 t = some (.tup [V.int d1, V.int d2]) := by rw [b9 t (tup_ne I8.fl h8)]; exact h8
      dsimp only [gName]
      refine at_st (σ' := [some (.ref a), some (.ref i), some (.ref o), some (.int (nm : Nat)), some (.int many), some (.ref A), some (.int k), some (.ref L0), some (.int (0 + (j : Nat))), some (.ref t), none]) rfl ?_
      clear b9 f9 h8 s8 ht b7 f7 b6 f6 I6 I7 I8 to6 ti5 to5
      obtain ⟨n1, rfl⟩ := Int.eq_ofNat_of_zero_le d10
      obtain ⟨n2, rfl⟩ := Int.eq_ofNat_of_zero_le d20
      obtain ⟨kk, rfl⟩ := Int.eq_ofNat_of_zero_le k0
      have l1 := left_len ds (fs S)
      have l2 := left_len es (sn S)
      obtain ⟨x1, hx1⟩ : ∃ x1, (left ds (fs S))[n1]? = some x1 := ⟨_, List.getElem?_eq_getElem (by omega)⟩
      obtain ⟨x2, hx2⟩ : ∃ x2, (left es (sn S))[n2]? = some x2 := ⟨_, List.getElem?_eq_getElem (by omega)⟩
      have lm := I9.ok.len
      obtain ⟨L, hL⟩ : ∃ L, S[kk]? = some L := ⟨_, List.getElem?_eq_getElem (by omega)⟩
      obtain ⟨v, hv, b, us, rfl, hb, hP, nb⟩ := paired_get' I9.hS hL
      have lL := (I9.ok.ld L (List.mem_of_getElem? hL)).len
      have hin : InP ds.length es.length ((n1 : Int), (n2 : Int)) := ⟨by omega, by show (n1 : Int) < _; omega, by show (0 : Int) ≤ (n2 : Int); omega, by show (n2 : Int) < _; omega⟩
      refine ⟨_, rfl, L0, _, 0, _, rfl, rfl, SqL.of I9.hL, rfl, _, rfl, t, _, 0, _, rfl, rfl, SqT.of h9, rfl, I0, _, _, _, rfl, rfl, SqL.of I9.h0, atI_at rfl hx1, _, _, rfl, rfl, _, rfl, ?_⟩
      refine ifB (fun c1 => ?_) (fun c1 => ⟨_, _, _, S, vs, rfl, I9⟩)
      refine ⟨_, rfl, L0, _, 1, _, rfl, rfl, SqL.of I9.hL, rfl, _, rfl, t, _, 1, _, rfl, rfl, SqT.of h9, rfl, I1, _, _, _, rfl, rfl, SqL.of I9.h1, atI_at rfl hx2, _, _, rfl, rfl, _, rfl, ?_⟩
      refine ifB (fun c2 => ?_) (fun c2 => ⟨_, _, _, S, vs, rfl, I9⟩)
      refine ⟨_, rfl, _, rfl, A, _, _, .ref b, rfl, rfl, SqL.of I9.hA, atI_nat hv, _, rfl, .ref b, .ref t, L, ((n1 : Int), (n2 : Int)), rfl, ⟨b, us, rfl, .inl hb, hP⟩, by omega, ⟨t, rfl, h9⟩, fun H10 s10 => ⟨_, rfl, ?_⟩⟩
      have I10 := I9.same s10
      have hb10 := s10 _ _ hb
      have hP10 := PairsV.same s10 hP
      have h10 := s10 _ _ h9
      clear I9 hb hP h9 s10
      refine ifB (fun c3 => ?_) (fun c3 => ⟨_, _, _, S, vs, rfl, I10⟩)
      refine ⟨_, rfl, _, rfl, A, _, _, .ref b, rfl, rfl, SqL.of I10.hA, atI_nat hv, _, rfl, (by show 1 ≤ sizeLine; decide), fun l hl => ?_⟩
      have s11 := Com.Same.upd (o := .lst [V.ref t]) hl
      have h11 := upd_same (H := H10) (a := l) (o := .lst [V.ref t])
      generalize upd H10 l (.lst [V.ref t]) = H11 at s11 h11 ⊢
      have ul := Paired.length hP10
      refine ⟨b, l, us, [.ref t], rfl, rfl, s11 _ _ hb10, h11, len1 (by rw [List.length_singleton]; omega), fun c hc => ?_⟩
      have s12 := s11.trans (Com.Same.upd (o := .lst (us ++ [V.ref t])) hc)
      have h12 := upd_same (H := H11) (a := c) (o := .lst (us ++ [V.ref t]))
      generalize upd H11 c (.lst (us ++ [V.ref t])) = H12 at s12 h12 ⊢
      refine ⟨c, _, L ++ [((n1 : Int), (n2 : Int))], rfl, SqL.of h12, Paired.snoc (PairsV.same s12 hP10) ⟨t, rfl, s12 _ _ h10⟩, fun ws q1 hws hq1 => ?_⟩
      have I12 := I10.same s12
      have s13 := Com.Same.upd (o := .lst ws) hq1
      have h13 := upd_same (H := H12) (a := q1) (o := .lst ws)
      have nq : q1 ≠ a ∧ q1 ≠ A ∧ q1 ≠ L0 ∧ q1 ≠ I0 ∧ q1 ≠ I1 := ⟨FlowAt.ne I12.fl hq1, (ne_of_none I12.hA hq1).symm, (ne_of_none I12.hL hq1).symm, (ne_of_none I12.h0 hq1).symm, (ne_of_none I12.h1 hq1).symm⟩
      have hws13 := PairsV.same s13 hws
      have I13 := I12.same s13
      have ht13 := s13 _ _ (s12 _ _ h10)
      generalize upd H12 q1 (.lst ws) = H13 at s13 h13 hws13 I13 ht13 ⊢
      clear I12 I10 hws hq1 s13 h12 s12 h11 s11 hl hc hP10 hb10 h10
      have hkl : ixN vs.length (kk : Int) = some kk := by
        have := (List.getElem?_eq_some_iff.mp hv).1
        unfold ixN
        rw [if_pos (by omega), if_pos (by omega)]
        simp
      refine ⟨_, rfl, _, rfl, A, vs, (kk : Int), kk, rfl, rfl, I13.hA, hkl, ?_⟩
      have tA : upd H13 A (.lst (vs.set kk (.ref q1))) t = some (.tup [V.int n1, V.int n2]) := by
        rw [upd_ne (fun z => by rw [z, I13.hA] at ht13; cases ht13)]
        exact ht13
      refine ⟨_, rfl, L0, _, 0, _, rfl, rfl, SqL.of (by rw [upd_ne Z.AL.symm]; exact I13.hL), rfl, _, rfl, t, _, 0, _, rfl, rfl, SqT.of tA, rfl, I0, _, _, .int x1, rfl, rfl, SqL.of (by rw [upd_ne Z.A0.symm]; exact I13.h0), atI_at rfl hx1, _, _, rfl, rfl, I0, _, _, n1, rfl, rfl, (by rw [upd_ne Z.A0.symm]; exact I13.h0), ixN_at rfl hx1, ?_⟩
      rw [set_int]
      have tB : upd (upd H13 A (.lst (vs.set kk (.ref q1)))) I0 (.lst (((left ds (fs S)).set n1 (x1 - 1)).map V.int)) t = some (.tup [V.int n1, V.int n2]) := by
        rw [upd_ne (fun z => by rw [z, I13.h0] at ht13; cases ht13)]
        exact tA
      have hLB : upd (upd H13 A (.lst (vs.set kk (.ref q1)))) I0 (.lst (((left ds (fs S)).set n1 (x1 - 1)).map V.int)) L0 = some (.lst [.ref I0, .ref I1]) := by
        rw [upd_ne Z.L0', upd_ne Z.AL.symm]
        exact I13.hL
      have h1B : upd (upd H13 A (.lst (vs.set kk (.ref q1)))) I0 (.lst (((left ds (fs S)).set n1 (x1 - 1)).map V.int)) I1 = some (.lst ((left es (sn S)).map V.int)) := by
        rw [upd_ne Z.I01.symm, upd_ne Z.A1.symm]
        exact I13.h1
      refine ⟨_, rfl, L0, _, 1, _, rfl, rfl, SqL.of hLB, rfl, _, rfl, t, _, 1, _, rfl, rfl, SqT.of tB, rfl, I1, _, _, .int x2, rfl, rfl, SqL.of h1B, atI_at rfl hx2, _, _, rfl, rfl, I1, _, _, n2, rfl, rfl, h1B, ixN_at rfl hx2, ?_⟩
      rw [set_int]
      exact ⟨_, _, _, _, _, rfl, I13.put Z hL hin c3 hx1 (of_decide_eq_true c1) hx2 (of_decide_eq_true c2) h13 hws13 nq⟩
    · rintro σ H5 ⟨w6, w8, w9, S, vs, rfl, I⟩
      have vl := Paired.length I.hS
      have sl := I.ok.len
      refine ⟨_, rfl, A, rfl, ⟨_, SqL.of I.hA⟩, fun D hD => lp_list (K := K) (xs := vs) (fun k H' => ∃ ws, H' D = some (.lst ws) ∧ LoadsV H' ws (S.take k) ∧ Same H5 H') ⟨[], upd_same, by rw [List.take_zero]; exact .nil, Com.Same.upd hD⟩ (fun k H' _ p => SqL.of (p.choose_spec.2.2 _ _ I.hA)) ?_ ?_⟩
      · rintro k y H' hk ⟨ws, h1, h2, h3⟩
        obtain ⟨L, hL, b, us, rfl, hb, hP, _⟩ := StV.paired_get I.hS hk
        have hkl := (List.getElem?_eq_some_iff.mp hk).1
        have wl := Paired.length h2
        rw [List.length_take] at wl
        refine ⟨rfl, _, rfl, b, us, rfl, .inl ⟨SqL.of (h3 _ _ hb), fun t2 ht2 => ?_⟩⟩
        have nt : D ≠ t2 := ne_of_none h1 ht2
        refine ⟨ws, by rw [upd_ne nt]; exact h1, small1000 (by omega), ws ++ [.ref t2], upd_same, ?_, Same.grow hD (h3.trans (Com.Same.upd ht2))⟩
        have ts : TupS H' (upd (upd H' t2 (.tup us)) D (.lst (ws ++ [V.ref t2]))) := (TupS.new ht2).trans (TupS.lset (by rw [upd_ne nt]; exact h1))
        rw [List.take_add_one, hL]
        refine Paired.snoc (LoadsV.tupS ts h2) ⟨t2, us, rfl, ?_, PairsV.mono ts (PairsV.same h3 hP)⟩
        rw [upd_ne nt.symm, upd_same]
      · rintro H6 ⟨ws, h1, h2, h3⟩
        rw [List.take_of_length_le (by omega)] at h2
        refine ⟨D, ws, rfl, .inl ⟨SqL.of h1, fun t2 ht2 => ?_⟩⟩
        have s7 := Com.Same.upd (o := .tup ws) ht2
        refine q _ S _ ⟨t2, ws, rfl, upd_same, LoadsV.same s7 h2⟩ I.ok (FlowAt.same I.fl (h3.trans s7)) (Old.trans I.old (same_old (h3.trans s7)))
end
end K06
set_option Elab.async false
set_option linter.all false
set_option maxRecDepth 100000
set_option maxHeartbeats 4000000
namespace K06
open PySem PySem.Spec PyProof.Rows L2 Com Com_thing Sd StV Gn Ext Srl
local macro_rules | `(tactic| walk_at "rd1") => `(tactic| (first
  | refine ⟨_, rfl, ?_⟩
  | refine ⟨_, _, rfl, rfl, ?_⟩
  | refine ⟨.inl ⟨by decide, by decide⟩, ?_⟩
  | refine ⟨.inr ⟨by decide, by decide⟩, ?_⟩
  | refine ⟨(by decide : (0 : Int) < _), ?_⟩
  | refine ⟨⟨by decide, by decide⟩, ?_⟩
  | refine ⟨⟨by decide, by decide, by decide⟩, ?_⟩
  | refine ⟨rfl, ?_⟩
  | refine .inl ⟨_, rfl, ?_⟩
  | refine .inr ⟨_, rfl, ?_⟩
  | refine ⟨_, _, _, _, rfl, rfl, SqL.of upd_same, rfl, ?_⟩
  | refine ⟨_, _, _, _, rfl, rfl, upd_same, rfl, ?_⟩
  | refine ⟨mulm (by decide) (by decide), ?_⟩
  | refine ⟨_, _, _, _, rfl, rfl, SqL.of (by assumption), rfl, ?_⟩
  | refine ⟨_, _, _, _, rfl, rfl, (by assumption), rfl, ?_⟩))
local macro_rules | `(tactic| walk_at "rd") => `(tactic| repeat (walk_at "rd1"))
theorem r65 {k : Nat} {A : Around} (r : Room k A) : A.units + 65 < cLine := by have := r.un; omega
/-- a def that is not reached here -/
def spNo : Sp := fun _ _ _ _ => False
def spCS (K : Frg) (C CS : Addr) : Sp := fun vs H Q E => ∃ (p i o : Addr) (ds es : List Int) (m : Int) (v : V), vs = [.ref p, v] ∧ ExAt C H p i o ds es m ∧ ((StaJ K H ds es m v false ∧ RefT CS H v E) ∨ (∃ S, StaV H v S ∧ StdOk ds es m S ∧ ∀ H', Same H H' → Q .non H'))
def spCP (K : Frg) (C CP : Addr) : Sp := fun vs H Q E => ∃ (p i o : Addr) (ds es : List Int) (m : Int) (u : V), vs = [.ref p, u] ∧ ExAt C H p i o ds es m ∧ ((PairJ K H ds.length es.length u false ∧ RefT CP H u E) ∨ (∃ pr, PairV H u pr ∧ InP ds.length es.length pr ∧ ∀ H', Same H H' → Q .non H'))
def sp2 (K : Frg) (C CS : Addr) : Sp := fun vs H Q E => ∃ (p i o : Addr) (ds es : List Int) (m : Int) (v : V), vs = [.ref p, v] ∧ ExAt C H p i o ds es m ∧ ((StaJ K H ds es m v false ∧ RefT CS H v E) ∨ (∃ S, StaV H v S ∧ StdOk ds es m S ∧ ∀ r H', Same H H' → Q r H'))
def spF (K : Frg) (C CS CP : Addr) : Sp := fun vs H Q E => ∃ (p i o : Addr) (ds es : List Int) (m : Int) (v u : V), vs = [.ref p, v, u] ∧ ExAt C H p i o ds es m ∧ ((StaJ K H ds es m v false ∧ RefT CS H v E) ∨ (∃ S, StaV H v S ∧ StdOk ds es m S ∧ ((PairJ K H ds.length es.length u false ∧ RefT CP H u E) ∨ (∃ pr, PairV H u pr ∧ InP ds.length es.length pr ∧ ∀ r H', Same H H' → Q r H'))))
def Core (K : Frg) (C CS CP : Addr) (p : Addr) (v u : V) (H : Hp) (E : XK) : Prop := ∃ (i o : Addr) (ds es : List Int) (m : Int), ExAt C H p i o ds es m ∧ ((StaJ K H ds es m v false ∧ RefT CS H v E) ∨ (∃ S, StaV H v S ∧ StdOk ds es m S ∧ PairJ K H ds.length es.length u false ∧ RefT CP H u E))
def sp3n (K : Frg) (C CS CP : Addr) : Sp := fun vs H _ E => ∃ (p : Addr) (v u : V), vs = [.ref p, v, u] ∧ Core K C CS CP p v u H E
def sp4n (K : Frg) (C CS CP : Addr) : Sp := fun vs H _ E => ∃ (p : Addr) (v u x : V), vs = [.ref p, v, u, x] ∧ Core K C CS CP p v u H E
def sp5n (K : Frg) (C CS CP : Addr) : Sp := fun vs H _ E => ∃ (p : Addr) (v u x y : V), vs = [.ref p, v, u, x, y] ∧ Core K C CS CP p v u H E
section
variable {P : Program} {w : World} {K : PySem.W.Frag} {mg : Str → Option Value} {base : Heap} {C CS CP fS fP : Addr}
abbrev s_check_standing : Stmt := top 29
abbrev N_check_standing : List Str := ["exchange", "standing"]
theorem sc_check_standing : FnScope N_check_standing ["exchange", "standing"] (defScope s_check_standing) := ⟨rfl, rfl, rfl, by decide +kernel, rfl, by decide +kernel, by decide +kernel⟩
theorem ok_check_standing (TS : PySem.Exo_thing.Txt P K mg "NoStanding" CS fS) (D_is_standing : DefOk P w K mg base CX0 5 "is_standing" (spIsStanding K C)) (D : DefAt K mg "check_standing" s_check_standing ["exchange", "standing"]) : DefOk P w K mg base (L2.CX P w) 6 "check_standing" (spCS K C CS) := by
  refine D.okX sc_check_standing (fun vs H Q E h => ?_) (fun f cdv A outer s H vs Q E hr h => ?_)
  · obtain ⟨p, i, o, ds, es, m, v, rfl, _⟩ := h
    rfl
  obtain ⟨p, i, o, ds, es, m, v, rfl, x, j⟩ := h
  refine ⟨_, (pss_one (ps_if (pt_not (pt_val (pe_def D_is_standing hr (by decide) pass0 (pa_cons (pv 0) (pa_cons (pv 1) pa_nil)))))
    (pss_one (Com_thing.ps_raiseE TS hr (takes_of rfl rfl rfl rfl) (by exact (pa_cons (pv 1) pa_nil))))
    pss_nil)), ?_⟩
  rcases j with ⟨j, q⟩ | ⟨S, hS, hg, q⟩
  · exact ⟨_, rfl, _, rfl, p, i, o, ds, es, m, v, false, rfl, x, j, fun H1 s1 => ⟨_, rfl, _, rfl, _, rfl, fun d hd => q d _ upd_same (s1.trans (Com.Same.upd hd))⟩⟩
  · exact ⟨_, rfl, _, rfl, p, i, o, ds, es, m, v, true, rfl, x, StaJ.good hS hg, fun H1 s1 => ⟨_, rfl, q H1 s1⟩⟩
abbrev s_check_pair : Stmt := top 30
abbrev N_check_pair : List Str := ["exchange", "pair"]
theorem sc_check_pair : FnScope N_check_pair ["exchange", "pair"] (defScope s_check_pair) := ⟨rfl, rfl, rfl, by decide +kernel, rfl, by decide +kernel, by decide +kernel⟩
theorem ok_check_pair (TP : PySem.Exo_thing.Txt P K mg "NoPair" CP fP) (D_is_pair : DefOk P w K mg base CX0 3 "is_pair" (spIsPair K C)) (D : DefAt K mg "check_pair" s_check_pair ["exchange", "pair"]) : DefOk P w K mg base (L2.CX P w) 4 "check_pair" (spCP K C CP) := by
  refine D.okX sc_check_pair (fun vs H Q E h => ?_) (fun f cdv A outer s H vs Q E hr h => ?_)
  · obtain ⟨p, i, o, ds, es, m, v, rfl, _⟩ := h
    rfl
  obtain ⟨p, i, o, ds, es, m, u, rfl, x, j⟩ := h
  refine ⟨_, (pss_one (ps_if (pt_not (pt_val (pe_def D_is_pair hr (by decide) pass0 (pa_cons (pv 0) (pa_cons (pv 1) pa_nil)))))
    (pss_one (Com_thing.ps_raiseE TP hr (takes_of rfl rfl rfl rfl) (by exact (pa_cons (pv 1) pa_nil))))
    pss_nil)), ?_⟩
  rcases j with ⟨j, q⟩ | ⟨pr, hu, hin, q⟩
  · exact ⟨_, rfl, _, rfl, p, i, o, ds, es, m, u, false, rfl, x, j, _, rfl, _, rfl, _, rfl, fun d hd => q d _ upd_same (Com.Same.upd hd)⟩
  · exact ⟨_, rfl, _, rfl, p, i, o, ds, es, m, u, true, rfl, x, PairJ.good hu hin, _, rfl, q H (Same.refl H)⟩
abbrev s_calls : Stmt := top 32
abbrev N_calls : List Str := ["exchange", "standing", "load", "pair"]
theorem sc_calls : FnScope N_calls ["exchange", "standing"] (defScope s_calls) := ⟨rfl, rfl, rfl, by decide +kernel, rfl, by decide +kernel, by decide +kernel⟩
theorem ok_calls (T : Blt mg) (D_check_standing : DefOk P w K mg base (L2.CX P w) 6 "check_standing" (spCS K C CS)) (D : DefAt K mg "calls" s_calls ["exchange", "standing"]) : DefOk P w K mg base (L2.CX P w) 7 "calls" (sp2 K C CS) := by
  refine D.okX sc_calls (fun vs H Q E h => ?_) (fun f cdv A outer s H vs Q E hr h => ?_)
  · obtain ⟨p, i, o, ds, es, m, v, rfl, _⟩ := h
    rfl
  obtain ⟨p, i, o, ds, es, m, v, rfl, x, j⟩ := h
  have m7 := x.m2
  have hn4 := x.gi.2.1
  refine ⟨_, (pss_cons (ps_expr (pe_def D_check_standing hr (by decide) passE (pa_cons (pv 0) (pa_cons (pv 1) pa_nil))))
  (pss_one (ps_ret (pe_callB (cr_srtP K) (by rfl) T.z_sorted (by decide +kernel) (pa_cons (pe_lc2 (own := [("load", 2), ("pair", 3)]) (vs1 := [3]) (g := gName 2) (g1 := gName 3) (tt := tYes) (tt1 := tYes) rfl sc_calls.nd (piT K (pv 1)) (blkOk_by (N := N_calls) (sc := defScope s_calls) (by decide +kernel)) (by decide) (fun _ _ _ _ _ => by exact (pg_name (i := 2) sc_calls.nd rfl (Or.inl rfl))) (fun _ _ _ _ _ => by exact pts_nil) (fun _ _ _ _ _ => by exact (piT K (pv 2))) (fun _ _ _ _ _ => by exact (pg_name (i := 3) sc_calls.nd rfl (Or.inl rfl))) (fun _ _ _ _ _ => by exact pts_nil) (fun _ _ _ _ _ => by exact (pv 3))) pa_nil))))), ?_⟩
  rcases j with ⟨j, q⟩ | ⟨S, hS, hg, q⟩
  · exact ⟨_, rfl, _, rfl, p, i, o, ds, es, m, v, rfl, x, .inl ⟨j, q⟩⟩
  have lm := hg.len
  refine ⟨_, rfl, _, rfl, p, i, o, ds, es, m, v, rfl, x, .inr ⟨S, hS, hg, fun H1 s1 => ?_⟩⟩
  obtain ⟨a, us, rfl, ha, hP⟩ := StaV.same s1 hS
  have hlen := Paired.length hP
  have big : ∀ k, (S.take k).flatten.length ≤ k * 4 := by
    intro k
    induction k with
    | zero => simp
    | succ k ih =>
      rw [List.take_add_one, List.flatten_append, List.length_append]
      cases e : S[k]? with
      | none => rw [show ((none : Option (List PP)).toList) = [] from rfl, List.flatten_nil, List.length_nil]; omega
      | some L =>
        have := (hg.ld L (List.mem_of_getElem? e)).len
        rw [show ((some L).toList) = [L] from rfl, List.flatten_cons, List.flatten_nil, List.append_nil]
        omega
  refine ⟨_, rfl, a, rfl, ⟨_, SqT.of ha⟩, fun D hD => lp_tup (K := K) (xs := us) (fun k H' => ∃ ws, H' D = some (.lst ws) ∧ PairsV H' ws (S.take k).flatten ∧ Same H1 H') ⟨[], upd_same, .nil, Com.Same.upd hD⟩ (fun k H' _ p => SqT.of (p.choose_spec.2.2 _ _ ha)) ?_ ?_⟩
  · rintro k y H' hk ⟨ws, h1, h2, h3⟩
    obtain ⟨L, hL, b, zs, rfl, hb, hZ⟩ := StV.paired_get hP hk
    have hkl := (List.getElem?_eq_some_iff.mp hk).1
    have hLL := (hg.ld L (List.mem_of_getElem? hL)).len
    have hzl := Paired.length hZ
    have bk := big k
    have wl := Paired.length h2
    refine ⟨rfl, ?_⟩
    refine ⟨_, rfl, b, rfl, ⟨_, SqT.of (h3 _ _ hb)⟩, lp_tup (K := K) (xs := zs) (fun j H' => ∃ ws, H' D = some (.lst ws) ∧ PairsV H' ws ((S.take k).flatten ++ L.take j) ∧ Same H1 H') ⟨ws, h1, by simpa using h2, h3⟩ (fun j H' _ p => SqT.of (p.choose_spec.2.2 _ _ hb)) ?_ ?_⟩
    · rintro j y H' hj ⟨ws, h1, h2, h3⟩
      obtain ⟨pr, hpr, c, rfl, hc⟩ := StV.paired_get hZ hj
      have wl := Paired.length h2
      have hjl := (List.getElem?_eq_some_iff.mp hj).1
      rw [List.length_append, List.length_take] at wl
      refine ⟨rfl, _, rfl, _, h1, small1000 (by omega), ws ++ [.ref c], upd_same, ?_, Same.grow hD h3⟩
      rw [List.take_add_one, hpr, ← List.append_assoc]
      have ts : TupS H' (upd H' D (.lst (ws ++ [V.ref c]))) := TupS.lset h1
      exact Paired.snoc (PairsV.mono ts h2) ⟨c, rfl, ts _ _ (h3 _ _ hc)⟩
    · rintro H' ⟨ws, h1, h2, h3⟩
      have eL : L.take zs.length = L := List.take_of_length_le (by omega)
      rw [eL] at h2
      refine ⟨ws, h1, ?_, h3⟩
      rw [List.take_add_one, List.flatten_append, hL, show ((some L).toList) = [L] from rfl, List.flatten_cons, List.flatten_nil, List.append_nil]
      exact h2
  · rintro H' ⟨ws, h1, h2, h3⟩
    rw [List.take_of_length_le (by omega)] at h2
    refine ⟨D, ws, S.flatten, rfl, SqL.of h1, h2, fun xs q1 hp hn => ?_⟩
    have s4 := Com.Same.upd (o := .lst xs) hn
    exact q _ _ (s1.trans (h3.trans s4))
abbrev s_free_doors : Stmt := top 33
abbrev N_free_doors : List Str := ["exchange", "standing"]
theorem sc_free_doors : FnScope N_free_doors ["exchange", "standing"] (defScope s_free_doors) := ⟨rfl, rfl, rfl, by decide +kernel, rfl, by decide +kernel, by decide +kernel⟩
theorem ok_free_doors (D_check_standing : DefOk P w K mg base (L2.CX P w) 6 "check_standing" (spCS K C CS)) (D_doors_left : DefOk P w K mg base CX0 1 "doors_left" (spDoorsLeft C)) (D : DefAt K mg "free_doors" s_free_doors ["exchange", "standing"]) : DefOk P w K mg base (L2.CX P w) 7 "free_doors" (sp2 K C CS) := by
  refine D.okX sc_free_doors (fun vs H Q E h => ?_) (fun f cdv A outer s H vs Q E hr h => ?_)
  · obtain ⟨p, i, o, ds, es, m, v, rfl, _⟩ := h
    rfl
  obtain ⟨p, i, o, ds, es, m, v, rfl, x, j⟩ := h
  refine ⟨_, (pss_cons (ps_expr (pe_def D_check_standing hr (by decide) passE (pa_cons (pv 0) (pa_cons (pv 1) pa_nil))))
  (pss_one (ps_ret (pe_def D_doors_left hr (by decide) pass0 (pa_cons (pv 0) (pa_cons (pv 1) pa_nil)))))), ?_⟩
  rcases j with ⟨j, q⟩ | ⟨S, hS, hg, q⟩
  · exact ⟨_, rfl, _, rfl, p, i, o, ds, es, m, v, rfl, x, .inl ⟨j, q⟩⟩
  refine ⟨_, rfl, _, rfl, p, i, o, ds, es, m, v, rfl, x, .inr ⟨S, hS, hg, fun H1 s1 => ?_⟩⟩
  exact ⟨_, rfl, _, rfl, p, i, o, ds, es, m, v, S, rfl, x.same s1, StaV.same s1 hS, Rng.of hg, fun t a b H' _ _ _ _ _ _ s2 => q _ _ (s1.trans s2)⟩
abbrev s_shape : Stmt := top 38
abbrev N_shape : List Str := ["exchange", "standing"]
theorem sc_shape : FnScope N_shape ["exchange", "standing"] (defScope s_shape) := ⟨rfl, rfl, rfl, by decide +kernel, rfl, by decide +kernel, by decide +kernel⟩
theorem ok_shape (T : Blt mg) (D_check_standing : DefOk P w K mg base (L2.CX P w) 6 "check_standing" (spCS K C CS)) (D : DefAt K mg "shape" s_shape ["exchange", "standing"]) : DefOk P w K mg base (L2.CX P w) 7 "shape" (sp2 K C CS) := by
  refine D.okX sc_shape (fun vs H Q E h => ?_) (fun f cdv A outer s H vs Q E hr h => ?_)
  · obtain ⟨p, i, o, ds, es, m, v, rfl, _⟩ := h
    rfl
  obtain ⟨p, i, o, ds, es, m, v, rfl, x, j⟩ := h
  have hu := hr.units
  refine ⟨_, (pss_cons (ps_expr (pe_def D_check_standing hr (by decide) passE (pa_cons (pv 0) (pa_cons (pv 1) pa_nil))))
  (pss_one (ps_ret (pe_callTy (cl_tuple K) (by rfl) T.z_tuple (by decide +kernel) (pa_cons (pe_callB (cr_srtL hu K) (by rfl) T.z_sorted (by decide +kernel) (pa_cons (pv 1) pa_nil)) pa_nil))))), ?_⟩
  rcases j with ⟨j, q⟩ | ⟨S, hS, hg, q⟩
  · exact ⟨_, rfl, _, rfl, p, i, o, ds, es, m, v, rfl, x, .inl ⟨j, q⟩⟩
  refine ⟨_, rfl, _, rfl, p, i, o, ds, es, m, v, rfl, x, .inr ⟨S, hS, hg, fun H1 s1 => ?_⟩⟩
  obtain ⟨a, us, rfl, ha, hP⟩ := StaV.same s1 hS
  refine ⟨_, rfl, a, us, S, rfl, ha, hP, fun ws p1 hW _ hp1 => ?_⟩
  have s2 := Com.Same.upd (o := .lst ws) hp1
  refine ⟨p1, ws, rfl, .inl ⟨SqL.of upd_same, fun t ht => ?_⟩⟩
  exact q _ _ (s1.trans (s2.trans (Com.Same.upd (o := .tup ws) ht)))
abbrev s_free_middles : Stmt := top 34
abbrev N_free_middles : List Str := ["exchange", "standing", "pair"]
theorem sc_free_middles : FnScope N_free_middles ["exchange", "standing", "pair"] (defScope s_free_middles) := ⟨rfl, rfl, rfl, by decide +kernel, rfl, by decide +kernel, by decide +kernel⟩
theorem ok_free_middles (D_check_standing : DefOk P w K mg base (L2.CX P w) 6 "check_standing" (spCS K C CS)) (D_check_pair : DefOk P w K mg base (L2.CX P w) 4 "check_pair" (spCP K C CP)) (D_free_for : DefOk P w K mg base CX0 2 "free_for" spFreeFor) (D : DefAt K mg "free_middles" s_free_middles ["exchange", "standing", "pair"]) : DefOk P w K mg base (L2.CX P w) 7 "free_middles" (spF K C CS CP) := by
  refine D.okX sc_free_middles (fun vs H Q E h => ?_) (fun f cdv A outer s H vs Q E hr h => ?_)
  · obtain ⟨p, i, o, ds, es, m, v, u, rfl, _⟩ := h
    rfl
  obtain ⟨p, i, o, ds, es, m, v, u, rfl, x, j⟩ := h
  refine ⟨_, (pss_cons (ps_expr (pe_def D_check_standing hr (by decide) passE (pa_cons (pv 0) (pa_cons (pv 1) pa_nil))))
  (pss_cons (ps_expr (pe_def D_check_pair hr (by decide) passE (pa_cons (pv 0) (pa_cons (pv 2) pa_nil))))
  (pss_one (ps_ret (pe_def D_free_for hr (by decide) pass0 (pa_cons (pv 1) (pa_cons (pv 2) pa_nil))))))), ?_⟩
  have m7 := x.m2
  have g4 := x.gi.2.1
  rcases j with ⟨j, q⟩ | ⟨S, hS, hg, q⟩
  · exact ⟨_, rfl, _, rfl, p, i, o, ds, es, m, v, rfl, x, .inl ⟨j, q⟩⟩
  have lm := hg.len
  refine ⟨_, rfl, _, rfl, p, i, o, ds, es, m, v, rfl, x, .inr ⟨S, hS, hg, fun H1 s1 => ?_⟩⟩
  rcases q with ⟨j, q⟩ | ⟨pr, hu, hin, q⟩
  · exact ⟨_, rfl, _, rfl, p, i, o, ds, es, m, u, rfl, x.same s1, .inl ⟨j.same s1, fun d H' hd s => q d H' hd (s1.trans s)⟩⟩
  refine ⟨_, rfl, _, rfl, p, i, o, ds, es, m, u, rfl, x.same s1, .inr ⟨pr, PairV.same s1 hu, hin, fun H2 s2 => ?_⟩⟩
  have s12 := s1.trans s2
  exact ⟨_, rfl, _, rfl, v, u, S, pr, rfl, StaV.same s12 hS, by omega, fun L hL => by have := (hg.ld L hL).len; omega, PairV.same s12 hu, fun q1 H3 hn h3 s3 => q _ _ (s12.trans s3)⟩
abbrev s_open_pairs : Stmt := top 23
abbrev N_open_pairs : List Str := ["exchange", "standing", "ins", "outs", "i", "o"]
theorem sc_open_pairs : FnScope N_open_pairs ["exchange", "standing"] (defScope s_open_pairs) := ⟨rfl, rfl, rfl, by decide +kernel, rfl, by decide +kernel, by decide +kernel⟩
theorem no_open_pairs (D : DefAt K mg "open_pairs" s_open_pairs ["exchange", "standing"]) : DefOk P w K mg base CX0 1 "open_pairs" spNo := D.ok sc_open_pairs (fun vs H Q E h => h.elim) (fun f cdv A outer s H vs Q E hr h => h.elim)
abbrev s_check_doors : Stmt := top 31
abbrev N_check_doors : List Str := ["exchange", "standing", "pair", "ins", "outs"]
theorem sc_check_doors : FnScope N_check_doors ["exchange", "standing", "pair"] (defScope s_check_doors) := ⟨rfl, rfl, rfl, by decide +kernel, rfl, by decide +kernel, by decide +kernel⟩
theorem no_check_doors (D : DefAt K mg "check_doors" s_check_doors ["exchange", "standing", "pair"]) : DefOk P w K mg base CX0 1 "check_doors" spNo := D.ok sc_check_doors (fun vs H Q E h => h.elim) (fun f cdv A outer s H vs Q E hr h => h.elim)
abbrev s_placed : Stmt := top 25
abbrev N_placed : List Str := ["standing", "pair", "k"]
theorem sc_placed : FnScope N_placed ["standing", "pair", "k"] (defScope s_placed) := ⟨rfl, rfl, rfl, by decide +kernel, rfl, by decide +kernel, by decide +kernel⟩
theorem no_placed (D : DefAt K mg "placed" s_placed ["standing", "pair", "k"]) : DefOk P w K mg base CX0 1 "placed" spNo := D.ok sc_placed (fun vs H Q E h => h.elim) (fun f cdv A outer s H vs Q E hr h => h.elim)
abbrev s_unplaced : Stmt := top 26
abbrev N_unplaced : List Str := ["standing", "pair", "k"]
theorem sc_unplaced : FnScope N_unplaced ["standing", "pair", "k"] (defScope s_unplaced) := ⟨rfl, rfl, rfl, by decide +kernel, rfl, by decide +kernel, by decide +kernel⟩
theorem no_unplaced (D : DefAt K mg "unplaced" s_unplaced ["standing", "pair", "k"]) : DefOk P w K mg base CX0 1 "unplaced" spNo := D.ok sc_unplaced (fun vs H Q E h => h.elim) (fun f cdv A outer s H vs Q E hr h => h.elim)
abbrev s_check_without : Stmt := top 49
abbrev N_check_without : List Str := ["exchange", "standing", "k", "side", "pair"]
theorem sc_check_without : FnScope N_check_without ["exchange", "standing", "k", "side", "pair"] (defScope s_check_without) := ⟨rfl, rfl, rfl, by decide +kernel, rfl, by decide +kernel, by decide +kernel⟩
theorem no_check_without (D : DefAt K mg "_check_without" s_check_without ["exchange", "standing", "k", "side", "pair"]) : DefOk P w K mg base CX0 1 "_check_without" spNo := D.ok sc_check_without (fun vs H Q E h => h.elim) (fun f cdv A outer s H vs Q E hr h => h.elim)
abbrev s_chain_steps : Stmt := top 46
abbrev N_chain_steps : List Str := ["standing", "pair", "p", "q", "steps", "here", "there", "side", "call"]
theorem sc_chain_steps : FnScope N_chain_steps ["standing", "pair", "p", "q"] (defScope s_chain_steps) := ⟨rfl, rfl, rfl, by decide +kernel, rfl, by decide +kernel, by decide +kernel⟩
theorem no_chain_steps (D : DefAt K mg "chain_steps" s_chain_steps ["standing", "pair", "p", "q"]) : DefOk P w K mg base CX0 1 "chain_steps" spNo := D.ok sc_chain_steps (fun vs H Q E h => h.elim) (fun f cdv A outer s H vs Q E hr h => h.elim)
abbrev s_barred : Stmt := top 35
abbrev N_barred : List Str := ["exchange", "standing", "pair"]
theorem sc_barred : FnScope N_barred ["exchange", "standing", "pair"] (defScope s_barred) := ⟨rfl, rfl, rfl, by decide +kernel, rfl, by decide +kernel, by decide +kernel⟩
theorem ok_barred (D_check_standing : DefOk P w K mg base (L2.CX P w) 6 "check_standing" (spCS K C CS)) (D_check_pair : DefOk P w K mg base (L2.CX P w) 4 "check_pair" (spCP K C CP)) (D_open_pairs : DefOk P w K mg base CX0 1 "open_pairs" spNo) (D_free_for : DefOk P w K mg base CX0 2 "free_for" spFreeFor) (D : DefAt K mg "barred" s_barred ["exchange", "standing", "pair"]) : DefOk P w K mg base (L2.CX P w) 7 "barred" (sp3n K C CS CP) := by
  refine D.okX sc_barred (fun vs H Q E h => ?_) (fun f cdv A outer s H vs Q E hr h => ?_)
  · obtain ⟨p, v, u, rfl, _⟩ := h
    rfl
  obtain ⟨p, v, u, rfl, i, o, ds, es, m, x, j⟩ := h
  refine ⟨_, (pss_cons (ps_expr (pe_def D_check_standing hr (by decide) passE (pa_cons (pv 0) (pa_cons (pv 1) pa_nil))))
  (pss_cons (ps_expr (pe_def D_check_pair hr (by decide) passE (pa_cons (pv 0) (pa_cons (pv 2) pa_nil))))
  (pss_one (ps_ret (pe_and (pe_cmpR (inS K) (pv 2) (pe_def D_open_pairs hr (by decide) pass0 (pa_cons (pv 0) (pa_cons (pv 1) pa_nil))) rfl) (pe_one (pe_cmpR op_eq (pe_def D_free_for hr (by decide) pass0 (pa_cons (pv 1) (pa_cons (pv 2) pa_nil))) (pe_lst pa_nil) (nomark _)))))))), ?_⟩
  rcases j with ⟨j, q⟩ | ⟨S, hS, hg, j, q⟩
  · exact ⟨_, rfl, _, rfl, p, i, o, ds, es, m, v, rfl, x, .inl ⟨j, q⟩⟩
  exact ⟨_, rfl, _, rfl, p, i, o, ds, es, m, v, rfl, x, .inr ⟨S, hS, hg, fun H1 s1 => ⟨_, rfl, _, rfl, p, i, o, ds, es, m, u, rfl, x.same s1, .inl ⟨j.same s1, fun d H' hd s => q d H' hd (s1.trans s)⟩⟩⟩⟩
abbrev s_with_call : Stmt := top 36
abbrev N_with_call : List Str := ["exchange", "standing", "pair", "k"]
theorem sc_with_call : FnScope N_with_call ["exchange", "standing", "pair", "k"] (defScope s_with_call) := ⟨rfl, rfl, rfl, by decide +kernel, rfl, by decide +kernel, by decide +kernel⟩
theorem ok_with_call (D_check_standing : DefOk P w K mg base (L2.CX P w) 6 "check_standing" (spCS K C CS)) (D_check_pair : DefOk P w K mg base (L2.CX P w) 4 "check_pair" (spCP K C CP)) (D_check_doors : DefOk P w K mg base CX0 1 "check_doors" spNo) (D_is_plain_int : DefOk P w K mg base CX0 1 "is_plain_int" (spPlain K)) (D_free_for : DefOk P w K mg base CX0 2 "free_for" spFreeFor) (D_placed : DefOk P w K mg base CX0 1 "placed" spNo) (D : DefAt K mg "with_call" s_with_call ["exchange", "standing", "pair", "k"]) : DefOk P w K mg base (L2.CX P w) 7 "with_call" (sp4n K C CS CP) := by
  refine D.okX sc_with_call (fun vs H Q E h => ?_) (fun f cdv A outer s H vs Q E hr h => ?_)
  · obtain ⟨p, v, u, kx, rfl, _⟩ := h
    rfl
  obtain ⟨p, v, u, kx, rfl, i, o, ds, es, m, x, j⟩ := h
  refine ⟨_, (pss_cons (ps_expr (pe_def D_check_standing hr (by decide) passE (pa_cons (pv 0) (pa_cons (pv 1) pa_nil))))
  (pss_cons (ps_expr (pe_def D_check_pair hr (by decide) passE (pa_cons (pv 0) (pa_cons (pv 2) pa_nil))))
  (pss_cons (ps_expr (pe_def D_check_doors hr (by decide) pass0 (pa_cons (pv 0) (pa_cons (pv 1) (pa_cons (pv 2) pa_nil)))))
  (pss_cons (ps_if (PW.pt (pw_or (pt_not (pt_val (pe_def D_is_plain_int hr (by decide) pass0 (pa_cons (pv 3) pa_nil)))) (pw_or1 (pt_cmpR (notInS K) (pv 3) (pe_def D_free_for hr (by decide) pass0 (pa_cons (pv 1) (pa_cons (pv 2) pa_nil))) rfl))))
    (pss_one ps_never)
    pss_nil)
  (pss_one (ps_ret (pe_def D_placed hr (by decide) pass0 (pa_cons (pv 1) (pa_cons (pv 2) (pa_cons (pv 3) pa_nil)))))))))), ?_⟩
  rcases j with ⟨j, q⟩ | ⟨S, hS, hg, j, q⟩
  · exact ⟨_, rfl, _, rfl, p, i, o, ds, es, m, v, rfl, x, .inl ⟨j, q⟩⟩
  exact ⟨_, rfl, _, rfl, p, i, o, ds, es, m, v, rfl, x, .inr ⟨S, hS, hg, fun H1 s1 => ⟨_, rfl, _, rfl, p, i, o, ds, es, m, u, rfl, x.same s1, .inl ⟨j.same s1, fun d H' hd s => q d H' hd (s1.trans s)⟩⟩⟩⟩
abbrev s_without_call : Stmt := top 37
abbrev N_without_call : List Str := ["exchange", "standing", "pair", "k"]
theorem sc_without_call : FnScope N_without_call ["exchange", "standing", "pair", "k"] (defScope s_without_call) := ⟨rfl, rfl, rfl, by decide +kernel, rfl, by decide +kernel, by decide +kernel⟩
theorem ok_without_call (D_check_standing : DefOk P w K mg base (L2.CX P w) 6 "check_standing" (spCS K C CS)) (D_check_pair : DefOk P w K mg base (L2.CX P w) 4 "check_pair" (spCP K C CP)) (D_is_int_within : DefOk P w K mg base CX0 2 "is_int_within" (spWithin K)) (D_unplaced : DefOk P w K mg base CX0 1 "unplaced" spNo) (D : DefAt K mg "without_call" s_without_call ["exchange", "standing", "pair", "k"]) : DefOk P w K mg base (L2.CX P w) 7 "without_call" (sp4n K C CS CP) := by
  refine D.okX sc_without_call (fun vs H Q E h => ?_) (fun f cdv A outer s H vs Q E hr h => ?_)
  · obtain ⟨p, v, u, kx, rfl, _⟩ := h
    rfl
  obtain ⟨p, v, u, kx, rfl, i, o, ds, es, m, x, j⟩ := h
  refine ⟨_, (pss_cons (ps_expr (pe_def D_check_standing hr (by decide) passE (pa_cons (pv 0) (pa_cons (pv 1) pa_nil))))
  (pss_cons (ps_expr (pe_def D_check_pair hr (by decide) passE (pa_cons (pv 0) (pa_cons (pv 2) pa_nil))))
  (pss_cons (ps_if (pt_not (pt_val (pe_def D_is_int_within hr (by decide) pass0 (pa_cons (pv 3) (pa_cons pe_int (pa_cons (pe_op op_sub (pe_fldK K (pv 0)) pe_int) pa_nil))))))
    (pss_one ps_never)
    pss_nil)
  (pss_cons (ps_if (pt_cmpR (notInS K) (pv 2) (pe_ix (ixL K) (pv 1) (pv 3) (fun _ _ => rfl)) rfl)
    (pss_one ps_never)
    pss_nil)
  (pss_one (ps_ret (pe_def D_unplaced hr (by decide) pass0 (pa_cons (pv 1) (pa_cons (pv 2) (pa_cons (pv 3) pa_nil)))))))))), ?_⟩
  rcases j with ⟨j, q⟩ | ⟨S, hS, hg, j, q⟩
  · exact ⟨_, rfl, _, rfl, p, i, o, ds, es, m, v, rfl, x, .inl ⟨j, q⟩⟩
  exact ⟨_, rfl, _, rfl, p, i, o, ds, es, m, v, rfl, x, .inr ⟨S, hS, hg, fun H1 s1 => ⟨_, rfl, _, rfl, p, i, o, ds, es, m, u, rfl, x.same s1, .inl ⟨j.same s1, fun d H' hd s => q d H' hd (s1.trans s)⟩⟩⟩⟩
abbrev s_chain : Stmt := top 48
abbrev N_chain : List Str := ["exchange", "standing", "pair", "p", "q"]
theorem sc_chain : FnScope N_chain ["exchange", "standing", "pair", "p", "q"] (defScope s_chain) := ⟨rfl, rfl, rfl, by decide +kernel, rfl, by decide +kernel, by decide +kernel⟩
theorem ok_chain (D_check_standing : DefOk P w K mg base (L2.CX P w) 6 "check_standing" (spCS K C CS)) (D_check_pair : DefOk P w K mg base (L2.CX P w) 4 "check_pair" (spCP K C CP)) (D_check_without : DefOk P w K mg base CX0 1 "_check_without" spNo) (D_chain_steps : DefOk P w K mg base CX0 1 "chain_steps" spNo) (D : DefAt K mg "chain" s_chain ["exchange", "standing", "pair", "p", "q"]) : DefOk P w K mg base (L2.CX P w) 7 "chain" (sp5n K C CS CP) := by
  refine D.okX sc_chain (fun vs H Q E h => ?_) (fun f cdv A outer s H vs Q E hr h => ?_)
  · obtain ⟨p, v, u, kx, ky, rfl, _⟩ := h
    rfl
  obtain ⟨p, v, u, kx, ky, rfl, i, o, ds, es, m, x, j⟩ := h
  refine ⟨_, (pss_cons (ps_expr (pe_def D_check_standing hr (by decide) passE (pa_cons (pv 0) (pa_cons (pv 1) pa_nil))))
  (pss_cons (ps_expr (pe_def D_check_pair hr (by decide) passE (pa_cons (pv 0) (pa_cons (pv 2) pa_nil))))
  (pss_cons (ps_expr (pe_def D_check_without hr (by decide) pass0 (pa_cons (pv 0) (pa_cons (pv 1) (pa_cons (pv 3) (pa_cons pe_int (pa_cons (pv 2) pa_nil)))))))
  (pss_cons (ps_expr (pe_def D_check_without hr (by decide) pass0 (pa_cons (pv 0) (pa_cons (pv 1) (pa_cons (pv 4) (pa_cons pe_int (pa_cons (pv 2) pa_nil)))))))
  (pss_one (ps_ret (pe_def D_chain_steps hr (by decide) pass0 (pa_cons (pv 1) (pa_cons (pv 2) (pa_cons (pv 3) (pa_cons (pv 4) pa_nil))))))))))), ?_⟩
  rcases j with ⟨j, q⟩ | ⟨S, hS, hg, j, q⟩
  · exact ⟨_, rfl, _, rfl, p, i, o, ds, es, m, v, rfl, x, .inl ⟨j, q⟩⟩
  exact ⟨_, rfl, _, rfl, p, i, o, ds, es, m, v, rfl, x, .inr ⟨S, hS, hg, fun H1 s1 => ⟨_, rfl, _, rfl, p, i, o, ds, es, m, u, rfl, x.same s1, .inl ⟨j.same s1, fun d H' hd s => q d H' hd (s1.trans s)⟩⟩⟩⟩
end
end K06
set_option Elab.async false
set_option linter.all false
set_option maxRecDepth 100000
set_option maxHeartbeats 4000000
namespace K06
open PySem PySem.Spec PyProof.Rows L2 Com Com_thing Sd StV Gn Ext Srl
local macro_rules | `(tactic| walk_at "rd1") => `(tactic| (first
  | refine ⟨_, rfl, ?_⟩
  | refine ⟨_, _, rfl, rfl, ?_⟩
  | refine ⟨.inl ⟨by decide, by decide⟩, ?_⟩
  | refine ⟨.inr ⟨by decide, by decide⟩, ?_⟩
  | refine ⟨(by decide : (0 : Int) < _), ?_⟩
  | refine ⟨⟨by decide, by decide⟩, ?_⟩
  | refine ⟨⟨by decide, by decide, by decide⟩, ?_⟩
  | refine ⟨rfl, ?_⟩
  | refine .inl ⟨_, rfl, ?_⟩
  | refine .inr ⟨_, rfl, ?_⟩
  | refine ⟨_, _, _, _, rfl, rfl, SqL.of upd_same, rfl, ?_⟩
  | refine ⟨_, _, _, _, rfl, rfl, upd_same, rfl, ?_⟩
  | refine ⟨mulm (by decide) (by decide), ?_⟩
  | refine ⟨_, _, _, _, rfl, rfl, SqL.of (by assumption), rfl, ?_⟩
  | refine ⟨_, _, _, _, rfl, rfl, (by assumption), rfl, ?_⟩))
local macro_rules | `(tactic| walk_at "rd") => `(tactic| repeat (walk_at "rd1"))
def spAsk (K : Frg) (C CS CP : Addr) : Sp := fun vs H Q E => ∃ (wy : Nat) (p i o : Addr) (ds es : List Int) (m : Int) (v u kx : V), vs = [.int (wy : Nat), .ref p, v, u, kx] ∧ wy < 8 ∧ ExAt C H p i o ds es m ∧ ((StaJ K H ds es m v false ∧ RefT CS H v E) ∨ (∃ S, StaV H v S ∧ StdOk ds es m S ∧
  ((wy < 3 ∧ ∀ r H', Same H H' → Q r H') ∨ (3 ≤ wy ∧ PairJ K H ds.length es.length u false ∧ RefT CP H u E) ∨ (wy = 3 ∧ ∃ pr, PairV H u pr ∧ InP ds.length es.length pr ∧ ∀ r H', Same H H' → Q r H'))))
def toldT (H : Hp) (xs : List V) (Q : VK) : Prop := ∀ t H', H' t = some (.tup xs) → Same H H' → Q (.ref t) H'
def spRef (K : Frg) (C : Addr) : Sp := fun vs H Q _ => ∃ (wy : Nat) (p i o : Addr) (ds es : List Int) (m : Int) (v u kx : V), vs = [.int (wy : Nat), .ref p, v, u, kx] ∧ wy < 8 ∧ ExAt C H p i o ds es m ∧ ((StaJ K H ds es m v false ∧ toldT H [.str "standing", v] Q) ∨ (∃ S, StaV H v S ∧ StdOk ds es m S ∧
  ((wy < 3 ∧ toldT H [.str "told"] Q) ∨ (3 ≤ wy ∧ PairJ K H ds.length es.length u false ∧ toldT H [.str "pair", u] Q) ∨ (wy = 3 ∧ ∃ pr, PairV H u pr ∧ InP ds.length es.length pr ∧ toldT H [.str "told"] Q))))
section
variable {P : Program} {w : World} {K : PySem.W.Frag} {mg : Str → Option Value} {base : Heap} {C CS CP fS fP : Addr}
abbrev s_ask : Stmt := top 61
abbrev N_ask : List Str := ["_law_way", "_law_exchange_here", "_law_standing", "_law_pair", "_law_k"]
theorem sc_ask : FnScope N_ask ["_law_way", "_law_exchange_here", "_law_standing", "_law_pair", "_law_k"] (defScope s_ask) := ⟨rfl, rfl, rfl, by decide +kernel, rfl, by decide +kernel, by decide +kernel⟩
theorem ok_ask (D_calls : DefOk P w K mg base (L2.CX P w) 7 "calls" (sp2 K C CS)) (D_free_doors : DefOk P w K mg base (L2.CX P w) 7 "free_doors" (sp2 K C CS)) (D_shape : DefOk P w K mg base (L2.CX P w) 7 "shape" (sp2 K C CS)) (D_free_middles : DefOk P w K mg base (L2.CX P w) 7 "free_middles" (spF K C CS CP)) (D_barred : DefOk P w K mg base (L2.CX P w) 7 "barred" (sp3n K C CS CP))
    (D_with_call : DefOk P w K mg base (L2.CX P w) 7 "with_call" (sp4n K C CS CP)) (D_chain : DefOk P w K mg base (L2.CX P w) 7 "chain" (sp5n K C CS CP)) (D_without_call : DefOk P w K mg base (L2.CX P w) 7 "without_call" (sp4n K C CS CP)) (D : DefAt K mg "_law_ask" s_ask ["_law_way", "_law_exchange_here", "_law_standing", "_law_pair", "_law_k"]) : DefOk P w K mg base (L2.CX P w) 8 "_law_ask" (spAsk K C CS CP) := by
  refine D.okX sc_ask (fun vs H Q E h => ?_) (fun f cdv A outer s H vs Q E hr h => ?_)
  · obtain ⟨wy, p, i, o, ds, es, m, v, u, kx, rfl, _⟩ := h
    rfl
  obtain ⟨wy, p, i, o, ds, es, m, v, u, kx, rfl, hw, x, j⟩ := h
  refine ⟨_, (pss_cons (ps_if (pt_cmpR op_eq (pv 0) pe_int (nomark _))
    (pss_one (ps_ret (pe_def D_calls hr (by decide) passE (pa_cons (pv 1) (pa_cons (pv 2) pa_nil)))))
    pss_nil)
  (pss_cons (ps_if (pt_cmpR op_eq (pv 0) pe_int (nomark _))
    (pss_one (ps_ret (pe_def D_free_doors hr (by decide) passE (pa_cons (pv 1) (pa_cons (pv 2) pa_nil)))))
    pss_nil)
  (pss_cons (ps_if (pt_cmpR op_eq (pv 0) pe_int (nomark _))
    (pss_one (ps_ret (pe_def D_shape hr (by decide) passE (pa_cons (pv 1) (pa_cons (pv 2) pa_nil)))))
    pss_nil)
  (pss_cons (ps_if (pt_cmpR op_eq (pv 0) pe_int (nomark _))
    (pss_one (ps_ret (pe_def D_free_middles hr (by decide) passE (pa_cons (pv 1) (pa_cons (pv 2) (pa_cons (pv 3) pa_nil))))))
    pss_nil)
  (pss_cons (ps_if (pt_cmpR op_eq (pv 0) pe_int (nomark _))
    (pss_one (ps_ret (pe_def D_barred hr (by decide) passE (pa_cons (pv 1) (pa_cons (pv 2) (pa_cons (pv 3) pa_nil))))))
    pss_nil)
  (pss_cons (ps_if (pt_cmpR op_eq (pv 0) pe_int (nomark _))
    (pss_one (ps_ret (pe_def D_with_call hr (by decide) passE (pa_cons (pv 1) (pa_cons (pv 2) (pa_cons (pv 3) (pa_cons (pv 4) pa_nil)))))))
    pss_nil)
  (pss_cons (ps_if (pt_cmpR op_eq (pv 0) pe_int (nomark _))
    (pss_one (ps_ret (pe_def D_chain hr (by decide) passE (pa_cons (pv 1) (pa_cons (pv 2) (pa_cons (pv 3) (pa_cons (pv 4) (pa_cons (pe_un un_neg pe_int) pa_nil))))))))
    pss_nil)
  (pss_one (ps_ret (pe_def D_without_call hr (by decide) passE (pa_cons (pv 1) (pa_cons (pv 2) (pa_cons (pv 3) (pa_cons (pv 4) pa_nil)))))))))))))), ?_⟩
  have j2 : wy < 3 → ((StaJ K H ds es m v false ∧ RefT CS H v E) ∨ (∃ S, StaV H v S ∧ StdOk ds es m S ∧ ∀ r H', Same H H' → Q r H')) := fun h3 => by
    rcases j with j | ⟨S, hS, hg, ⟨_, q⟩ | ⟨h, _⟩ | ⟨h, _⟩⟩
    · exact .inl j
    · exact .inr ⟨S, hS, hg, q⟩
    · omega
    · omega
  have j3 : wy = 3 → ((StaJ K H ds es m v false ∧ RefT CS H v E) ∨ (∃ S, StaV H v S ∧ StdOk ds es m S ∧ ((PairJ K H ds.length es.length u false ∧ RefT CP H u E) ∨ (∃ pr, PairV H u pr ∧ InP ds.length es.length pr ∧ ∀ r H', Same H H' → Q r H')))) := fun h3 => by
    rcases j with j | ⟨S, hS, hg, ⟨h, _⟩ | ⟨_, q⟩ | ⟨_, q⟩⟩
    · exact .inl j
    · omega
    · exact .inr ⟨S, hS, hg, .inl q⟩
    · exact .inr ⟨S, hS, hg, .inr q⟩
  have jc : 3 < wy → Core K C CS CP p v u H E := fun h3 => by
    rcases j with j | ⟨S, hS, hg, ⟨h, _⟩ | ⟨_, q⟩ | ⟨h, _⟩⟩
    · exact ⟨i, o, ds, es, m, x, .inl j⟩
    · omega
    · exact ⟨i, o, ds, es, m, x, .inr ⟨S, hS, hg, q⟩⟩
    · omega
  clear j
  refine ⟨_, rfl, rfl, _, rfl, ?_⟩
  rw [dV]
  refine ifB (fun c => ?_) (fun c0 => ?_)
  · have := of_decide_eq_true c
    exact ⟨_, rfl, _, rfl, p, i, o, ds, es, m, v, rfl, x, j2 (by omega)⟩
  refine ⟨_, rfl, rfl, _, rfl, ?_⟩
  rw [dV]
  refine ifB (fun c => ?_) (fun c1 => ?_)
  · have := of_decide_eq_true c
    exact ⟨_, rfl, _, rfl, p, i, o, ds, es, m, v, rfl, x, j2 (by omega)⟩
  refine ⟨_, rfl, rfl, _, rfl, ?_⟩
  rw [dV]
  refine ifB (fun c => ?_) (fun c2 => ?_)
  · have := of_decide_eq_true c
    exact ⟨_, rfl, _, rfl, p, i, o, ds, es, m, v, rfl, x, j2 (by omega)⟩
  refine ⟨_, rfl, rfl, _, rfl, ?_⟩
  rw [dV]
  refine ifB (fun c => ?_) (fun c3 => ?_)
  · have := of_decide_eq_true c
    exact ⟨_, rfl, _, rfl, _, rfl, p, i, o, ds, es, m, v, u, rfl, x, j3 (by omega)⟩
  have d0 := of_decide_eq_false c0
  have d1 := of_decide_eq_false c1
  have d2 := of_decide_eq_false c2
  have d3 := of_decide_eq_false c3
  have jc := jc (by omega)
  refine ⟨_, rfl, rfl, _, rfl, ?_⟩
  refine ifB (fun c => ?_) (fun c4 => ?_)
  · exact ⟨_, rfl, _, rfl, _, rfl, p, v, u, rfl, jc⟩
  refine ⟨_, rfl, rfl, _, rfl, ?_⟩
  refine ifB (fun c => ?_) (fun c5 => ?_)
  · exact ⟨_, rfl, _, rfl, _, rfl, _, rfl, p, v, u, kx, rfl, jc⟩
  refine ⟨_, rfl, rfl, _, rfl, ?_⟩
  refine ifB (fun c => ?_) (fun c7 => ?_)
  · exact ⟨_, rfl, _, rfl, _, rfl, _, rfl, _, rfl, p, v, u, kx, .int (-1), rfl, jc⟩
  · exact ⟨_, rfl, _, rfl, _, rfl, _, rfl, p, v, u, kx, rfl, jc⟩
abbrev s_refused : Stmt := top 62
abbrev N_refused : List Str := ["_law_way", "_law_exchange_here", "_law_standing", "_law_pair", "_law_k", "_law_answer", "e"]
theorem sc_refused : FnScope N_refused ["_law_way", "_law_exchange_here", "_law_standing", "_law_pair", "_law_k"] (defScope s_refused) := ⟨rfl, rfl, rfl, by decide +kernel, rfl, by decide +kernel, by decide +kernel⟩
theorem ok_refused (TS : PySem.Exo_thing.Txt P K mg "NoStanding" CS fS) (TP : PySem.Exo_thing.Txt P K mg "NoPair" CP fP) (nPS : PySem.W.exmOne K (.ref CP) (.ref CS) = some false) (D_ask : DefOk P w K mg base (L2.CX P w) 8 "_law_ask" (spAsk K C CS CP)) (D : DefAt K mg "_law_refused" s_refused ["_law_way", "_law_exchange_here", "_law_standing", "_law_pair", "_law_k"]) : DefOk P w K mg base CX0 10 "_law_refused" (spRef K C) := by
  refine D.ok sc_refused (fun vs H Q E h => ?_) (fun f cdv A outer s H vs Q E hr h => ?_)
  · obtain ⟨wy, p, i, o, ds, es, m, v, u, kx, rfl, _⟩ := h
    rfl
  obtain ⟨wy, p, i, o, ds, es, m, v, u, kx, rfl, hw, x, j⟩ := h
  refine ⟨_, (pss_cons (ps_set (i := 5) sc_refused.nd rfl (Or.inl rfl) (pe_tup (pa_cons pe_str pa_nil)))
  (pss_cons (ps_tryAs (tb := fun W => tDrop (tDefS (spAsk K C CS CP) (WE W) (tCons (tVar 0) (tCons (tVar 1) (tCons (tVar 2) (tCons (tVar 3) (tCons (tVar 4) tNil))))))) (l := [⟨.ref CS, 6, fun a cls d => tAsg (tTup (tCons (tC (.str "standing")) (tCons (tXf a cls d CS "thing" (tVar 6)) tNil))) (gName 5)⟩, ⟨.ref CP, 6, fun a cls d => tAsg (tTup (tCons (tC (.str "pair")) (tCons (tXf a cls d CP "thing" (tVar 6)) tNil))) (gName 5)⟩]) sc_refused.nd takes0 (fun W pn xe tk _ => pss_one (ps_expr (pe_defS D_ask hr (by decide) (fun σ => passAt tk σ) (by exact (pa_cons (pv 0) (pa_cons (pv 1) (pa_cons (pv 2) (pa_cons (pv 3) (pa_cons (pv 4) pa_nil)))))))))  (HdsAs.cons rfl rfl ⟨rfl, by decide, .inl TS.gC⟩ (fun a oe cls d pn hz hf => pss_one (ps_set (i := 5) sc_refused.nd rfl (Or.inl rfl) (by exact (pe_tup (pa_cons pe_str (pa_cons (pe_xf (Com_thing.xf_of TS) TS.noN hz hf (pv 6)) pa_nil)))))) (HdsAs.cons rfl rfl ⟨rfl, by decide, .inl TP.gC⟩ (fun a oe cls d pn hz hf => pss_one (ps_set (i := 5) sc_refused.nd rfl (Or.inl rfl) (by exact (pe_tup (pa_cons pe_str (pa_cons (pe_xf (Com_thing.xf_of TP) TP.noN hz hf (pv 6)) pa_nil)))))) .nil))) 
  (pss_one (ps_ret (pv 5))))), ?_⟩
  refine ⟨(by show 1 ≤ sizeLine; decide), fun t0 ht0 => ?_⟩
  have s0 := Com.Same.upd (o := .tup [V.str "told"]) ht0
  have z0 := upd_same (H := H) (a := t0) (o := .tup [V.str "told"])
  generalize upd H t0 (.tup [V.str "told"]) = H0 at s0 z0 ⊢
  refine ⟨_, rfl, _, rfl, _, rfl, _, rfl, _, rfl, wy, p, i, o, ds, es, m, v, u, kx, rfl, hw, x.same s0, ?_⟩
  have told : toldT H [.str "told"] Q → ∀ H', Same H0 H' → Q (.ref t0) H' := fun q H' s => q t0 H' (s _ _ z0) (s0.trans s)
  rcases j with ⟨j, q⟩ | ⟨S, hS, hg, ⟨h3, q⟩ | ⟨h3, j, q⟩ | ⟨h3, pr, hu, hin, q⟩⟩
  · refine .inl ⟨j.same s0, fun d H' hd s1 => ?_⟩
    exact ⟨true, TS.te, fun _ a ha => ⟨_, rfl, rfl, rfl, d, _, _, rfl, hd, thing_look _, (by show 2 ≤ sizeLine; decide), fun t ht => ⟨_, rfl, q _ _ upd_same (s0.trans (s1.trans (Com.Same.upd ht)))⟩⟩, (fun h => nomatch h)⟩
  · exact .inr ⟨S, StaV.same s0 hS, hg, .inl ⟨h3, fun r H' s1 => ⟨_, rfl, told q H' s1⟩⟩⟩
  · refine .inr ⟨S, StaV.same s0 hS, hg, .inr (.inl ⟨h3, j.same s0, fun d H' hd s1 => ?_⟩)⟩
    exact ⟨false, nPS, (fun h => nomatch h), fun _ => ⟨true, TP.te, fun _ a ha => ⟨_, rfl, rfl, rfl, d, _, _, rfl, hd, thing_look _, (by show 2 ≤ sizeLine; decide), fun t ht => ⟨_, rfl, q _ _ upd_same (s0.trans (s1.trans (Com.Same.upd ht)))⟩⟩, (fun h => nomatch h)⟩⟩
  · exact .inr ⟨S, StaV.same s0 hS, hg, .inr (.inr ⟨h3, pr, PairV.same s0 hu, hin, fun r H' s1 => ⟨_, rfl, told q H' s1⟩⟩)⟩
end
end K06
set_option Elab.async false
set_option linter.all false
set_option maxRecDepth 100000
set_option maxHeartbeats 4000000
namespace K06
open PySem PySem.Spec PyProof.Rows L2 Com Com_thing Sd StV Gn Ext Srl
local macro_rules | `(tactic| walk_at "rd1") => `(tactic| (first
  | refine ⟨_, rfl, ?_⟩
  | refine ⟨_, _, rfl, rfl, ?_⟩
  | refine ⟨.inl ⟨by decide, by decide⟩, ?_⟩
  | refine ⟨.inr ⟨by decide, by decide⟩, ?_⟩
  | refine ⟨(by decide : (0 : Int) < _), ?_⟩
  | refine ⟨⟨by decide, by decide⟩, ?_⟩
  | refine ⟨⟨by decide, by decide, by decide⟩, ?_⟩
  | refine ⟨rfl, ?_⟩
  | refine .inl ⟨_, rfl, ?_⟩
  | refine .inr ⟨_, rfl, ?_⟩
  | refine ⟨_, _, _, _, rfl, rfl, SqL.of upd_same, rfl, ?_⟩
  | refine ⟨_, _, _, _, rfl, rfl, upd_same, rfl, ?_⟩
  | refine ⟨mulm (by decide) (by decide), ?_⟩
  | refine ⟨_, _, _, _, rfl, rfl, SqL.of (by assumption), rfl, ?_⟩
  | refine ⟨_, _, _, _, rfl, rfl, (by assumption), rfl, ?_⟩))
local macro_rules | `(tactic| walk_at "rd") => `(tactic| repeat (walk_at "rd1"))
section
variable {P : Program} {w : World} {K : PySem.W.Frag} {mg : Str → Option Value} {base : Heap} {C C2 : Addr}
theorem load_pairJ {H : Hp} {v : V} {L : List PP} {n m : Nat} (h : LoadV H v L) : PairJ K H n m v false := by
  obtain ⟨a, us, rfl, ha, hP⟩ := h
  by_cases e : us.length = 2
  · obtain ⟨x, y, rfl⟩ : ∃ x y, us = [x, y] := by
      match us, e with
      | [x, y], _ => exact ⟨x, y, rfl⟩
    cases hP with
    | cons h1 t =>
      cases t with
      | cons h2 t =>
        obtain ⟨c, rfl, hc⟩ := h1
        obtain ⟨d, rfl, hd⟩ := h2
        have off : ∀ {c : Addr} {xs : List V}, H c = some (.tup xs) → ∀ lo hi, InR K H (.ref c) lo hi false := fun hc lo hi => .inr ⟨⟨_, false, .base (.tup hc), kit_ty (by decide +kernel), fun _ => rfl, fun z => (nomatch z)⟩, rfl⟩
        exact .inl ⟨a, _, _, false, false, rfl, ha, off hc _ _, off hd _ _, rfl⟩
  · exact .inr (.inl ⟨a, us, rfl, ha, e, rfl⟩)
theorem sta_loadJ {H : Hp} {v : V} {S : List (List PP)} {n m : Nat} (h : StaV H v S) (h1 : 1 ≤ S.length) : LoadJ K H n m v false := by
  obtain ⟨a, us, rfl, ha, hP⟩ := h
  have hl := Paired.length hP
  by_cases c : n < us.length
  · exact .inl ⟨a, us, rfl, ha, c, rfl⟩
  · refine .inr (.inl ⟨a, us, List.replicate us.length false, rfl, ha, by omega, by simp, fun i v b hi hb => ?_, ?_, rfl⟩)
    · obtain ⟨L, _, hv⟩ := StV.paired_get hP hi
      have : b = false := by
        have := List.mem_of_getElem? hb
        exact (List.mem_replicate.mp this).2
      rw [this]
      exact load_pairJ hv
    · have : us.length = (us.length - 1) + 1 := by omega
      rw [this, List.replicate_succ, List.all_cons]
      rfl
theorem cut_1 (xs : List V) : cutV xs (some 1) none = xs.drop 1 := by
  unfold cutV
  have e1 : HT.sIx xs.length xs.length none = xs.length := HT.sIx_none xs.length xs.length
  have e2 : HT.sIx xs.length 0 (some 1) = min 1 xs.length := by
    show (if (1 : Int) < 0 then ((1 : Int) + (xs.length : Int)).toNat else min (1 : Int).toNat xs.length) = _
    rw [if_neg (by omega)]
    rfl
  rw [e1, e2]
  by_cases h : 1 ≤ xs.length
  · rw [Nat.min_eq_left h]
    exact List.take_of_length_le (by rw [List.length_drop]; omega)
  · rw [Nat.min_eq_right (by omega), List.drop_eq_nil_of_le (by omega : xs.length ≤ 1), Nat.sub_self, List.take_zero]
theorem rep1 (k : Nat) (x : V) : (List.replicate k [x]).flatten = List.replicate k x := by
  induction k with
  | zero => rfl
  | succ k ih => rw [List.replicate_succ, List.flatten_cons, ih, List.replicate_succ]; rfl
theorem at_hp2 {R : Hp → Prop} {H H' : Hp} (e : H = H') (h : R H') : R H := by subst e; exact h
theorem paired_drop1 {α β : Type} {F : α → β → Prop} : ∀ {xs : List α} {ys : List β}, Paired F xs ys → Paired F (xs.drop 1) (ys.drop 1)
  | _, _, .nil => .nil
  | _, _, .cons _ t => t
theorem in_out7 {H : Hp} {i lo hi : Int} (h : ¬ (lo ≤ i ∧ i ≤ hi)) : InR K H (.int i) lo hi false := .inl ⟨i, rfl, by
  rcases Decidable.em (lo ≤ i) with h1 | h1
  · rw [decide_eq_true h1, decide_eq_false (fun z => h ⟨h1, z⟩)]; rfl
  · rw [decide_eq_false h1]; rfl⟩
theorem in_off {H : Hp} {x : V} {t : Value} {lo hi : Int} (ty : TyX K H x t) (k : PySem.W.kitOne K t (.type "int") = some false) : InR K H x lo hi false := .inr ⟨⟨t, false, ty, k, fun _ => rfl, fun c => nomatch c⟩, rfl⟩
theorem in_bl7 {H : Hp} {b : Bool} {lo hi : Int} : InR K H (.bl b) lo hi false := .inr ⟨⟨_, true, .base (.bl b), kit_ty (by decide +kernel), fun c => (nomatch c), fun _ => ⟨true, kit_ty (by decide +kernel), rfl⟩⟩, rfl⟩
theorem kept_old7 {a : Addr} {H H' : Hp} (o : Old a H H') (f : FlowAt H a) (f' : FlowAt H' a) : Kept H H' := by
  obtain ⟨n, c, r, e0⟩ := f
  obtain ⟨n', c', r', e1⟩ := f'
  refine ⟨fun b u e ne => o b u e (fun z => by rw [z, e0] at e; cases e; exact ne _ rfl), fun b xs e => ?_⟩
  by_cases z : b = a
  · rw [z]
    exact ⟨_, e1⟩
  · exact ⟨xs, o b _ e z⟩
theorem first_bad {H J : Hp} {ds es : List Int} {m : Int} {S : List (List PP)} {va : Addr} {vus : List V} {r e : Addr} (w' : Same H J) (z : H r = some (.tup ([V.ref e] ++ vus.drop 1))) (hV : StaV J (.ref va) S) (lv : vus.length = S.length) (sl : (S.length : Int) = m) (hg : StdOk ds es m S)
    (hb : LoadJ K J ds.length es.length (.ref e) false) (h1 : 1 ≤ m) (hva : J va = some (.tup vus)) : StaJ K J ds es m (.ref r) false := by
  obtain ⟨tb, tus, etb, hta, htP⟩ := hV
  cases etb
  rw [hva] at hta
  cases hta
  refine .inr (.inl ⟨r, _, false :: List.replicate (vus.length - 1) true, rfl, w' _ _ z, ?_, ?_, fun k v c hv hc => ?_, rfl, rfl⟩)
  · rw [List.length_append, List.length_drop]; show ((1 + (vus.length - 1) : Nat) : Int) = m; omega
  · rw [List.length_cons, List.length_replicate, List.length_append, List.length_drop]; show _ = 1 + _; omega
  · cases k with
    | zero =>
      have ev : v = V.ref e := by simpa using hv.symm
      have ec : c = false := by simpa using hc.symm
      rw [ev, ec]
      exact hb
    | succ k =>
      have hv' : (vus.drop 1)[k]? = some v := by simpa using hv
      have hc' : (List.replicate (vus.length - 1) true)[k]? = some c := by simpa using hc
      have ec : c = true := (List.mem_replicate.mp (List.mem_of_getElem? hc')).2
      obtain ⟨M, hM, hVM⟩ := StV.paired_get (paired_drop1 htP) hv'
      rw [ec]
      exact LoadJ.good hVM (hg.ld M (List.mem_of_mem_drop (List.mem_of_getElem? hM)))
abbrev s_law : Stmt := top 63
abbrev N_law : List Str := ["_law_script", "_law_flow_here", "_law_exchange_here", "_law_standing", "_law_ins", "_law_outs", "_law_pair", "_law_no_pairs", "_law_none", "_law_full", "_law_no_standings", "_law_bad", "_law_k", "_law_way", "_law_wanted"]
theorem sc_law : FnScope N_law ["_law_script"] (defScope s_law) := ⟨rfl, rfl, rfl, by decide +kernel, rfl, by decide +kernel, by decide +kernel⟩
theorem ok_law_fn (T : Blt mg) (X : ExT K mg C) (O : Oth K C2) (kX : PySem.W.kitOne K (.ref C) (.type "tuple") = some false) (D_flow : DefOk P w K mg base CX0 1 "_law_flow" (spFlow K)) (D_pick : DefOk P w K mg base CX0 1 "_law_pick" spPick) (D_exchange : DefOk P w K mg base CX0 6 "_law_exchange" (spExchange C)) (D_loads : DefOk P w K mg base CX0 2 "_law_loads" spLoads)
    (M_Share : NewOk P w K mg base CX0 2 "Share" C2 (spSh C2)) (D_refused : DefOk P w K mg base CX0 10 "_law_refused" (spRef K C))
    {f : Addr} {fd : FuncData} (FF : Fun K "law" "law" s_law f fd) : FnOk P w K mg base CX0 11 f fd ["_law_script"] (spLaw K) := by
  refine FF.ok sc_law (fun vs H Q E h => ?_) (fun cdv A outer s H vs Q E hr h => ?_)
  · obtain ⟨a, ns, rfl, _⟩ := h
    rfl
  obtain ⟨a0, ns, rfl, hS, hl, q⟩ := h
  have hu := hr.units
  refine ⟨_, (pss_cons (ps_set (i := 1) sc_law.nd rfl (Or.inl rfl) (pe_def D_flow hr (by decide) pass0 (pa_cons (pv 0) (pa_cons pe_int pa_nil))))
  (pss_cons (ps_set (i := 2) sc_law.nd rfl (Or.inl rfl) (pe_def D_exchange hr (by decide) pass0 (pa_cons (pv 1) (pa_cons pe_int (pa_cons pe_int (pa_cons pe_int pa_nil))))))
  (pss_cons (ps_set (i := 1) sc_law.nd rfl (Or.inl rfl) (pe_def D_flow hr (by decide) pass0 (pa_cons (pv 0) (pa_cons pe_int pa_nil))))
  (pss_cons (ps_set (i := 3) sc_law.nd rfl (Or.inl rfl) (pe_def D_loads hr (by decide) pass0 (pa_cons (pv 1) (pa_cons (pe_fldK K (pv 2)) (pa_cons (pe_fldK K (pv 2)) (pa_cons (pe_fldK K (pv 2)) (pa_cons (pe_def D_pick hr (by decide) pass0 (pa_cons (pv 1) (pa_cons pe_int pa_nil))) pa_nil)))))))
  (pss_cons (ps_set (i := 4) sc_law.nd rfl (Or.inl rfl) (pe_callB (cl_len K) (by rfl) T.z_len (by decide +kernel) (pa_cons (pe_fldK K (pv 2)) pa_nil)))
  (pss_cons (ps_set (i := 5) sc_law.nd rfl (Or.inl rfl) (pe_callB (cl_len K) (by rfl) T.z_len (by decide +kernel) (pa_cons (pe_fldK K (pv 2)) pa_nil)))
  (pss_cons (ps_set (i := 6) sc_law.nd rfl (Or.inl rfl) (pe_tup (pa_cons (pe_def D_pick hr (by decide) pass0 (pa_cons (pv 1) (pa_cons (pv 4) pa_nil))) (pa_cons (pe_def D_pick hr (by decide) pass0 (pa_cons (pv 1) (pa_cons (pv 5) pa_nil))) pa_nil))))
  (pss_cons (ps_set (i := 7) sc_law.nd rfl (Or.inl rfl) (pe_lst (pa_cons (pe_tup (pa_cons (pv 4) (pa_cons pe_int pa_nil))) (pa_cons (pe_tup (pa_cons pe_int (pa_cons (pv 5) pa_nil))) (pa_cons (pe_tup (pa_cons (pe_un un_neg pe_int) (pa_cons pe_int pa_nil))) (pa_cons (pe_tup (pa_cons pe_int (pa_cons (pe_un un_neg pe_int) pa_nil))) (pa_cons (pe_tup (pa_cons pe_bl (pa_cons pe_int pa_nil))) (pa_cons (pe_tup (pa_cons pe_int (pa_cons pe_bl pa_nil))) (pa_cons (pe_tup (pa_cons pe_int pa_nil)) (pa_cons (pe_tup (pa_cons pe_int (pa_cons pe_int (pa_cons pe_int pa_nil)))) (pa_cons (pe_lst (pa_cons pe_int (pa_cons pe_int pa_nil))) (pa_cons pe_non (pa_cons pe_int (pa_cons pe_str pa_nil))))))))))))))
  (pss_cons (ps_set (i := 7) sc_law.nd rfl (Or.inl rfl) (pe_op op_cat (pv 7) (pe_lst (pa_cons pe_dnewK (pa_cons (pe_tup (pa_cons pe_non (pa_cons pe_int pa_nil))) (pa_cons (pe_tup (pa_cons pe_int (pa_cons pe_str pa_nil))) (pa_cons (pe_tup (pa_cons (pe_op op_pow pe_int pe_int) (pa_cons pe_int pa_nil))) (pa_cons (pe_new M_Share hr (by decide) pass0 (pa_cons pe_int pa_nil)) (pa_cons (pe_tup (pa_cons (pe_tup (pa_cons pe_int (pa_cons pe_int pa_nil))) pa_nil)) (pa_cons (pv 2) pa_nil))))))))))
  (pss_cons (ps_set (i := 8) sc_law.nd rfl (Or.inl rfl) (pe_ix (ixL K) (pv 7) (pe_def D_pick hr (by decide) pass0 (pa_cons (pv 1) (pa_cons (pe_callB (cl_len K) (by rfl) T.z_len (by decide +kernel) (pa_cons (pv 7) pa_nil)) pa_nil))) (fun _ _ => rfl)))
  (pss_cons (ps_set (i := 9) sc_law.nd rfl (Or.inl rfl) (pe_op (repA K) (pe_tup (pa_cons (pe_tup (pa_cons pe_int (pa_cons pe_int pa_nil))) pa_nil)) pe_int))
  (pss_cons (ps_set (i := 10) sc_law.nd rfl (Or.inl rfl) (pe_lst (pa_cons (pe_callTy (cl_list K) (by rfl) T.z_list (by decide +kernel) (pa_cons (pv 3) pa_nil)) (pa_cons (pe_op catB (pv 3) (pe_tup (pa_cons (pe_tup pa_nil) pa_nil))) (pa_cons (pe_slice (slT) (pv 3) (po_some pe_int) po_none) (pa_cons pe_non (pa_cons pe_int (pa_cons pe_str (pa_cons pe_dnewK (pa_cons (pe_op (repA K) (pe_tup (pa_cons (pv 9) pa_nil)) (pe_fldK K (pv 2))) pa_nil))))))))))
  (pss_cons (ps_set (i := 10) sc_law.nd rfl (Or.inl rfl) (pe_op op_cat (pv 10) (pe_lst (pa_cons (pe_op catB (pe_tup (pa_cons (pe_tup (pa_cons (pv 8) pa_nil)) pa_nil)) (pe_slice (slT) (pv 3) (po_some pe_int) po_none)) (pa_cons (pe_new M_Share hr (by decide) pass0 (pa_cons pe_int pa_nil)) (pa_cons (pv 2) (pa_cons (pe_op catB (pe_tup (pa_cons (pe_lst pa_nil) pa_nil)) (pe_slice (slT) (pv 3) (po_some pe_int) po_none)) pa_nil)))))))
  (pss_cons (ps_set (i := 11) sc_law.nd rfl (Or.inl rfl) (pe_ix (ixL K) (pv 10) (pe_def D_pick hr (by decide) pass0 (pa_cons (pv 1) (pa_cons (pe_callB (cl_len K) (by rfl) T.z_len (by decide +kernel) (pa_cons (pv 10) pa_nil)) pa_nil))) (fun _ _ => rfl)))
  (pss_cons (ps_set (i := 12) sc_law.nd rfl (Or.inl rfl) (pe_ix (ixL K) (pe_lst (pa_cons pe_int (pa_cons (pe_un un_neg pe_int) (pa_cons pe_non (pa_cons (pe_fldK K (pv 2)) (pa_cons pe_bl pa_nil)))))) (pe_def D_pick hr (by decide) pass0 (pa_cons (pv 1) (pa_cons pe_int pa_nil))) (fun _ _ => rfl)))
  (pss_cons (ps_for PassesOwn.never rfl (pi_range1 (by rfl) T.z_range (pa_cons pe_int pa_nil)) (pg_name (i := 13) sc_law.nd rfl (Or.inl rfl))
    (pss_cons (ps_if (pt_cmpR (neO K hu) (pe_def D_refused hr (by decide) pass0 (pa_cons (pv 13) (pa_cons (pv 2) (pa_cons (pv 11) (pa_cons (pv 6) (pa_cons (pv 12) pa_nil)))))) (pe_tup (pa_cons pe_str (pa_cons (pv 11) pa_nil))) (nomark _))
      (pss_one (ps_ret pe_bl))
      pss_nil)
    (pss_cons (ps_if (pt_cmpR (neO K hu) (pe_def D_refused hr (by decide) pass0 (pa_cons (pv 13) (pa_cons (pv 2) (pa_cons (pv 11) (pa_cons (pv 8) (pa_cons (pv 12) pa_nil)))))) (pe_tup (pa_cons pe_str (pa_cons (pv 11) pa_nil))) (nomark _))
      (pss_one (ps_ret pe_bl))
      pss_nil)
    (pss_cons (ps_set (i := 14) sc_law.nd rfl (Or.inl rfl) (pe_tup (pa_cons pe_str (pa_cons (pv 8) pa_nil))))
    (pss_cons (ps_if (pt_cmpR op_lt (pv 13) pe_int (nomark _))
      (pss_one (ps_set (i := 14) sc_law.nd rfl (Or.inl rfl) (pe_tup (pa_cons pe_str pa_nil))))
      pss_nil)
    (pss_one (ps_if (pt_cmpR (neO K hu) (pe_def D_refused hr (by decide) pass0 (pa_cons (pv 13) (pa_cons (pv 2) (pa_cons (pv 3) (pa_cons (pv 8) (pa_cons (pv 12) pa_nil)))))) (pv 14) (nomark _))
      (pss_one (ps_ret pe_bl))
      pss_nil)))))))
  (pss_one (ps_ret (pe_cmpR (eqTS K hu) (pe_def D_refused hr (by decide) pass0 (pa_cons pe_int (pa_cons (pv 2) (pa_cons (pv 3) (pa_cons (pv 6) (pa_cons (pv 12) pa_nil)))))) (pe_tup (pa_cons pe_str pa_nil)) (nomark _)))))))))))))))))))), ?_⟩
  refine ⟨_, rfl, a0, ns, 0, rfl, hS, hl, by omega, fun a1 H1 ha1 f1 b1 => ?_⟩
  refine ⟨_, rfl, a1, 4, 4, 7, rfl, f1, by omega, by omega, by omega, by omega, by omega, by omega, fun x i o ds es m H2 hx E2 f2 o2 => ?_⟩
  have S2 : Same H H2 := of_old ha1 (Old.trans (But.old b1) o2)
  clear f2 o2 hx b1 f1
  refine ⟨_, rfl, a0, ns, 1, rfl, sqlS hS S2, hl, by omega, fun a H3 ha3 f3 b3 => ?_⟩
  have S3 : Same H2 H3 := But.same b3 ha3
  have E3 := E2.same S3
  obtain ⟨dx, hp⟩ := E3.ob
  dsimp only [gName]
  refine at_st (σ' := [some (.ref a0), some (.ref a), some (.ref x), none, none, none, none, none, none, none, none, none, none, none, none]) rfl ?_
  refine ⟨_, rfl, _, rfl, x, C, dx, _, _, rfl, hp, X.cl, X.nI, exF_ins _ _ _, _, rfl, x, C, dx, _, _, rfl, hp, X.cl, X.nO, exF_outs _ _ _, _, rfl, x, C, dx, _, _, rfl, hp, X.cl, X.nM, exF_middles _ _ _, _, rfl, a, 41, rfl, f3, by omega, small200 (by omega), fun many H4 k0 kn f4 b4 => ?_⟩
  have S4 : Same H2 H4 := of_old ha3 (Old.trans (same_old S3) (But.old b4))
  have E4 := E2.same S4
  refine ⟨a, i, o, ds, es, m, many, rfl, f4, E4.ti, E4.gi, E4.to, E4.go, E4.m1, E4.m2, k0, by omega, fun v S H5 hS5 hg f5 o5 => ?_⟩
  have S5 : Same H2 H5 := of_old ha3 (Old.trans (same_old S4) o5)
  clear o5 E4 S4 b4 f4 hp E3 S3 b3 f3 k0 kn
  have E5 := E2.same S5
  have m1 := E5.m1
  have m7 := E5.m2
  have sl := hg.len
  have gd1 := E5.gi.1
  have gd2 := E5.gi.2.1
  have ge1 := E5.go.1
  have ge2 := E5.go.2.1
  have ld : (ds.map V.int).length = ds.length := List.length_map ..
  have le : (es.map V.int).length = es.length := List.length_map ..
  obtain ⟨dx, hp⟩ := E5.ob
  dsimp only [gName]
  refine ⟨_, rfl, x, C, dx, _, _, rfl, hp, X.cl, X.nI, exF_ins _ _ _, i, _, rfl, .inr (SqT.of E5.ti), ?_⟩
  refine ⟨_, rfl, x, C, dx, _, _, rfl, hp, X.cl, X.nO, exF_outs _ _ _, o, _, rfl, .inr (SqT.of E5.to), ?_⟩
  rw [ld, le]
  dsimp only [gName]
  refine at_st (σ' := [some (.ref a0), some (.ref a), some (.ref x), some v, some (.int (ds.length : Nat)), some (.int (es.length : Nat)), none, none, none, none, none, none, none, none, none]) rfl ?_
  -- the pair
  refine ⟨_, rfl, _, rfl, a, _, rfl, f5, by omega, small200 (by omega), fun d1 H6 d10 d11 f6 b6 => ?_⟩
  refine ⟨_, rfl, _, rfl, a, _, rfl, f6, by omega, small200 (by omega), fun d2 H7 d20 d21 f7 b7 => ?_⟩
  have S7 : Same H2 H7 := of_old ha3 (Old.trans (same_old S5) (Old.trans (But.old b6) (But.old b7)))
  have hS7 := StaV.tupS (TupS.but b7 f6) (StaV.tupS (TupS.but b6 f5) hS5)
  refine ⟨(by show 2 ≤ sizeLine; decide), fun t ht => ?_⟩
  have s8 := Com.Same.upd (o := .tup [V.int d1, V.int d2]) ht
  have S8 := S7.trans s8
  have hS8 := StaV.same s8 hS7
  have f8 := FlowAt.same f7 s8
  have hp8 : PairV (upd H7 t (.tup [V.int d1, V.int d2])) (.ref t) (d1, d2) := ⟨t, rfl, upd_same⟩
  generalize upd H7 t (.tup [V.int d1, V.int d2]) = H8 at S8 hS8 hp8 f8 ⊢
  have hin : InP ds.length es.length (d1, d2) := ⟨d10, by show d1 < _; omega, d20, by show d2 < _; omega⟩
  generalize ((d1, d2) : PP) = pr at hp8 hin
  dsimp only [gName]
  refine at_st (σ' := [some (.ref a0), some (.ref a), some (.ref x), some v, some (.int (ds.length : Nat)), some (.int (es.length : Nat)), some (.ref t), none, none, none, none, none, none, none, none]) rfl ?_
  clear s8 hS7 S7 b7 f7 b6 f6 hp E5 hS5 S5 f5 ht
  -- no pairs
  refine ⟨_, rfl, (by show 2 ≤ sizeLine; decide), fun t1 h1 => ?_⟩
  have s1 := Com.Same.upd (o := .tup [V.int (ds.length : Nat), V.int 0]) h1
  have z1 := upd_same (H := H8) (a := t1) (o := .tup [V.int (ds.length : Nat), V.int 0])
  generalize upd H8 t1 (.tup [V.int (ds.length : Nat), V.int 0]) = J1 at s1 z1 ⊢
  refine ⟨_, rfl, (by show 2 ≤ sizeLine; decide), fun t2 h2 => ?_⟩
  have s2 := Com.Same.upd (o := .tup [V.int 0, V.int (es.length : Nat)]) h2
  have z2 := upd_same (H := J1) (a := t2) (o := .tup [V.int 0, V.int (es.length : Nat)])
  generalize upd J1 t2 (.tup [V.int 0, V.int (es.length : Nat)]) = J2 at s2 z2 ⊢
  refine ⟨_, rfl, (by show 2 ≤ sizeLine; decide), fun t3 h3 => ?_⟩
  have s3 := Com.Same.upd (o := .tup [V.int (-1), V.int 0]) h3
  have z3 := upd_same (H := J2) (a := t3) (o := .tup [V.int (-1), V.int 0])
  generalize upd J2 t3 (.tup [V.int (-1), V.int 0]) = J3 at s3 z3 ⊢
  refine ⟨_, rfl, (by show 2 ≤ sizeLine; decide), fun t4 h4 => ?_⟩
  have s4 := Com.Same.upd (o := .tup [V.int 0, V.int (-1)]) h4
  have z4 := upd_same (H := J3) (a := t4) (o := .tup [V.int 0, V.int (-1)])
  generalize upd J3 t4 (.tup [V.int 0, V.int (-1)]) = J4 at s4 z4 ⊢
  refine ⟨(by show 2 ≤ sizeLine; decide), fun t5 h5 => ?_⟩
  have s5 := Com.Same.upd (o := .tup [V.bl true, V.int 0]) h5
  have z5 := upd_same (H := J4) (a := t5) (o := .tup [V.bl true, V.int 0])
  generalize upd J4 t5 (.tup [V.bl true, V.int 0]) = J5 at s5 z5 ⊢
  refine ⟨(by show 2 ≤ sizeLine; decide), fun t6 h6 => ?_⟩
  have s6 := Com.Same.upd (o := .tup [V.int 0, V.bl false]) h6
  have z6 := upd_same (H := J5) (a := t6) (o := .tup [V.int 0, V.bl false])
  generalize upd J5 t6 (.tup [V.int 0, V.bl false]) = J6 at s6 z6 ⊢
  refine ⟨(by show 1 ≤ sizeLine; decide), fun t7 h7 => ?_⟩
  have s7 := Com.Same.upd (o := .tup [V.int 0]) h7
  have z7 := upd_same (H := J6) (a := t7) (o := .tup [V.int 0])
  generalize upd J6 t7 (.tup [V.int 0]) = J7 at s7 z7 ⊢
  refine ⟨(by show 3 ≤ sizeLine; decide), fun t8 h8 => ?_⟩
  have s8 := Com.Same.upd (o := .tup [V.int 0, V.int 0, V.int 0]) h8
  have z8 := upd_same (H := J7) (a := t8) (o := .tup [V.int 0, V.int 0, V.int 0])
  generalize upd J7 t8 (.tup [V.int 0, V.int 0, V.int 0]) = J8 at s8 z8 ⊢
  refine ⟨(by show 2 ≤ sizeLine; decide), fun t9 h9 => ?_⟩
  have s9 := Com.Same.upd (o := .lst [V.int 0, V.int 0]) h9
  have z9 := upd_same (H := J8) (a := t9) (o := .lst [V.int 0, V.int 0])
  generalize upd J8 t9 (.lst [V.int 0, V.int 0]) = J9 at s9 z9 ⊢
  refine ⟨(by show 12 ≤ sizeLine; decide), fun t10 h10 => ?_⟩
  have s10 := Com.Same.upd (o := .lst [V.ref t1, V.ref t2, V.ref t3, V.ref t4, V.ref t5, V.ref t6, V.ref t7, V.ref t8, V.ref t9, V.non, V.int 0, V.str "00"]) h10
  have z10 := upd_same (H := J9) (a := t10) (o := .lst [V.ref t1, V.ref t2, V.ref t3, V.ref t4, V.ref t5, V.ref t6, V.ref t7, V.ref t8, V.ref t9, V.non, V.int 0, V.str "00"])
  generalize upd J9 t10 (.lst [V.ref t1, V.ref t2, V.ref t3, V.ref t4, V.ref t5, V.ref t6, V.ref t7, V.ref t8, V.ref t9, V.non, V.int 0, V.str "00"]) = J10 at s10 z10 ⊢
  dsimp only [gName]
  refine at_st (σ' := [some (.ref a0), some (.ref a), some (.ref x), some v, some (.int (ds.length : Nat)), some (.int (es.length : Nat)), some (.ref t), some (.ref t10), none, none, none, none, none, none, none]) rfl ?_
  refine ⟨_, rfl, fun t11 h11 => ?_⟩
  have s11 := Com.Same.upd (o := .dK []) h11
  have z11 := upd_same (H := J10) (a := t11) (o := .dK [])
  generalize upd J10 t11 (.dK []) = J11 at s11 z11 ⊢
  refine ⟨(by show 2 ≤ sizeLine; decide), fun t12 h12 => ?_⟩
  have s12 := Com.Same.upd (o := .tup [V.non, V.int 0]) h12
  have z12 := upd_same (H := J11) (a := t12) (o := .tup [V.non, V.int 0])
  generalize upd J11 t12 (.tup [V.non, V.int 0]) = J12 at s12 z12 ⊢
  refine ⟨(by show 2 ≤ sizeLine; decide), fun t13 h13 => ?_⟩
  have s13 := Com.Same.upd (o := .tup [V.int 0, V.str "0"]) h13
  have z13 := upd_same (H := J12) (a := t13) (o := .tup [V.int 0, V.str "0"])
  generalize upd J12 t13 (.tup [V.int 0, V.str "0"]) = J13 at s13 z13 ⊢
  refine ⟨_, _, rfl, rfl, ⟨by decide, by decide, by decide⟩, (by show 2 ≤ sizeLine; decide), fun t14 h14 => ?_⟩
  have s14 := Com.Same.upd (o := .tup [V.int (10 ^ (40 : Int).toNat), V.int 0]) h14
  have z14 := upd_same (H := J13) (a := t14) (o := .tup [V.int (10 ^ (40 : Int).toNat), V.int 0])
  generalize upd J13 t14 (.tup [V.int (10 ^ (40 : Int).toNat), V.int 0]) = J14 at s14 z14 ⊢
  refine fun t15 dxs nsh ndx _ => new_sh1 nsh ndx fun J15 dx' fs z15 s15 => ⟨rfl, ?_⟩
  refine ⟨(by show 2 ≤ sizeLine; decide), fun t16 h16 => ?_⟩
  have s16 := Com.Same.upd (o := .tup [V.int 0, V.int 0]) h16
  have z16 := upd_same (H := J15) (a := t16) (o := .tup [V.int 0, V.int 0])
  generalize upd J15 t16 (.tup [V.int 0, V.int 0]) = J16 at s16 z16 ⊢
  refine ⟨(by show 1 ≤ sizeLine; decide), fun t17 h17 => ?_⟩
  have s17 := Com.Same.upd (o := .tup [V.ref t16]) h17
  have z17 := upd_same (H := J16) (a := t17) (o := .tup [V.ref t16])
  generalize upd J16 t17 (.tup [V.ref t16]) = J17 at s17 z17 ⊢
  refine ⟨_, rfl, (by show 7 ≤ sizeLine; decide), fun t18 h18 => ?_⟩
  have s18 := Com.Same.upd (o := .lst [V.ref t11, V.ref t12, V.ref t13, V.ref t14, V.ref t15, V.ref t17, V.ref x]) h18
  have z18 := upd_same (H := J17) (a := t18) (o := .lst [V.ref t11, V.ref t12, V.ref t13, V.ref t14, V.ref t15, V.ref t17, V.ref x])
  generalize upd J17 t18 (.lst [V.ref t11, V.ref t12, V.ref t13, V.ref t14, V.ref t15, V.ref t17, V.ref x]) = J18 at s18 z18 ⊢
  have w17 := s18
  have w16 := s17.trans w17
  have w15 := s16.trans w16
  have w14 := s15.trans w15
  have w13 := s14.trans w14
  have w12 := s13.trans w13
  have w11 := s12.trans w12
  have w10 := s11.trans w11
  have w9 := s10.trans w10
  have w8 := s9.trans w9
  have w7 := s8.trans w8
  have w6 := s7.trans w7
  have w5 := s6.trans w6
  have w4 := s5.trans w5
  have w3 := s4.trans w4
  have w2 := s3.trans w3
  have w1 := s2.trans w2
  have w0 := s1.trans w1
  refine ⟨t10, t18, _, _, rfl, rfl, w10 _ _ z10, z18, (by show 12 + 7 ≤ sizeLine; decide), fun L hL => ?_⟩
  have E18 : ExAt C J18 x i o ds es m := (E2.same (S8.trans w0))
  obtain ⟨dx, hpx⟩ := E18.ob
  have all : ∀ y ∈ [V.ref t1, V.ref t2, V.ref t3, V.ref t4, V.ref t5, V.ref t6, V.ref t7, V.ref t8, V.ref t9, V.non, V.int 0, V.str "00"] ++ [V.ref t11, V.ref t12, V.ref t13, V.ref t14, V.ref t15, V.ref t17, V.ref x], PairJ K J18 ds.length es.length y false ∧ sameOk y = true := by
    intro y hy
    have zr : InR K J18 (.int 0) 0 ((ds.length : Nat) - 1) true := InR.good (by omega) (by omega)
    have zs : InR K J18 (.int 0) 0 ((es.length : Nat) - 1) true := InR.good (by omega) (by omega)
    simp only [List.mem_append, List.mem_cons, List.not_mem_nil, or_false] at hy
    rcases hy with (rfl | rfl | rfl | rfl | rfl | rfl | rfl | rfl | rfl | rfl | rfl | rfl) | (rfl | rfl | rfl | rfl | rfl | rfl | rfl)
    · exact ⟨.inl ⟨t1, _, _, false, true, rfl, w1 _ _ z1, in_out7 (by omega), zs, rfl⟩, rfl⟩
    · exact ⟨.inl ⟨t2, _, _, true, false, rfl, w2 _ _ z2, zr, in_out7 (by omega), rfl⟩, rfl⟩
    · exact ⟨.inl ⟨t3, _, _, false, true, rfl, w3 _ _ z3, in_out7 (by omega), zs, rfl⟩, rfl⟩
    · exact ⟨.inl ⟨t4, _, _, true, false, rfl, w4 _ _ z4, zr, in_out7 (by omega), rfl⟩, rfl⟩
    · exact ⟨.inl ⟨t5, _, _, false, true, rfl, w5 _ _ z5, in_bl7, zs, rfl⟩, rfl⟩
    · exact ⟨.inl ⟨t6, _, _, true, false, rfl, w6 _ _ z6, zr, in_bl7, rfl⟩, rfl⟩
    · exact ⟨.inr (.inl ⟨t7, _, rfl, w7 _ _ z7, by decide, rfl⟩), rfl⟩
    · exact ⟨.inr (.inl ⟨t8, _, rfl, w8 _ _ z8, by decide, rfl⟩), rfl⟩
    · exact ⟨.inr (.inr ⟨⟨_, .base (.lst (w9 _ _ z9)), kit_ty (by decide +kernel)⟩, rfl⟩), rfl⟩
    · exact ⟨.inr (.inr ⟨⟨_, .base .non, kit_ty (by decide +kernel)⟩, rfl⟩), rfl⟩
    · exact ⟨.inr (.inr ⟨⟨_, .base (.int 0), kit_ty (by decide +kernel)⟩, rfl⟩), rfl⟩
    · exact ⟨.inr (.inr ⟨⟨_, .base (.str _), kit_ty (by decide +kernel)⟩, rfl⟩), rfl⟩
    · exact ⟨.inr (.inr ⟨⟨_, .base (.dK (w11 _ _ z11)), kit_ty (by decide +kernel)⟩, rfl⟩), rfl⟩
    · exact ⟨.inl ⟨t12, _, _, false, true, rfl, w12 _ _ z12, in_off (.base .non) (kit_ty (by decide +kernel)), zs, rfl⟩, rfl⟩
    · exact ⟨.inl ⟨t13, _, _, true, false, rfl, w13 _ _ z13, zr, in_off (.base (.str _)) (kit_ty (by decide +kernel)), rfl⟩, rfl⟩
    · exact ⟨.inl ⟨t14, _, _, false, true, rfl, w14 _ _ z14, in_out7 (fun h => absurd h.2 (by
        have : (4 : Int) < 10 ^ (40 : Int).toNat := by decide
        omega)), zs, rfl⟩, rfl⟩
    · exact ⟨.inr (.inr ⟨⟨_, O.ty (w15 _ _ z15), O.kT⟩, rfl⟩), rfl⟩
    · exact ⟨.inr (.inl ⟨t17, _, rfl, w17 _ _ z17, (by show 1 ≠ 2; decide), rfl⟩), rfl⟩
    · exact ⟨.inr (.inr ⟨⟨_, exTy X hpx, kX⟩, rfl⟩), rfl⟩
  generalize eos : [V.ref t1, V.ref t2, V.ref t3, V.ref t4, V.ref t5, V.ref t6, V.ref t7, V.ref t8, V.ref t9, V.non, V.int 0, V.str "00"] ++ [V.ref t11, V.ref t12, V.ref t13, V.ref t14, V.ref t15, V.ref t17, V.ref x] = os at all
  have los : os.length = 19 := by rw [← eos]; rfl
  have f18 := FlowAt.same f8 w0
  have nL : L ≠ a := FlowAt.ne f18 hL
  have sL := Com.Same.upd (o := .lst os) hL
  have zL := upd_same (H := J18) (a := L) (o := .lst os)
  refine at_hp2 (H' := upd J18 L (.lst os)) (by rw [← eos]) ?_
  dsimp only [gName]
  refine at_st (σ' := [some (.ref a0), some (.ref a), some (.ref x), some v, some (.int (ds.length : Nat)), some (.int (es.length : Nat)), some (.ref t), some (.ref L), none, none, none, none, none, none, none]) rfl ?_
  clear eos
  have wL := w0.trans sL
  have all : ∀ y ∈ os, PairJ K (upd J18 L (.lst os)) ds.length es.length y false ∧ sameOk y = true := fun y hy => ⟨(all y hy).1.same sL, (all y hy).2⟩
  have SL := S8.trans wL
  have fL := FlowAt.same f18 sL
  have hSL := StaV.same wL hS8
  have hpL := PairV.same wL hp8
  generalize upd J18 L (.lst os) = G0 at zL all SL fL hSL hpL ⊢
  clear wL sL f18 hL hpx E18 w0 w1 w2 w3 w4 w5 w6 w7 w8 w9 w10 w11 w12 w13 w14 w15 w16 w17 z1 z2 z3 z4 z5 z6 z7 z8 z9 z10 z11 z12 z13 z14 z15 z16 z17 z18 s1 s2 s3 s4 s5 s6 s7 s8 s9 s10 s11 s12 s13 s14 s15 s16 s17 s18 hS8 hp8 S8 f8 h1 h2 h3 h4 h5 h6 h7 h8 h9 h10 h11 h12 h13 h14 h16 h17 h18 nsh ndx
  refine ⟨_, rfl, _, rfl, _, rfl, L, _, rfl, .inl (SqL.of zL), a, _, rfl, fL, by omega, small200 (by omega), fun jj G1 j0 j1 f1 b1 => ?_⟩
  obtain ⟨non, hnon, hat⟩ := pickL (xs := os) j0 j1
  refine ⟨L, os, _, non, rfl, rfl, SqL.of (by rw [b1 L nL]; exact zL), hat, ?_⟩
  have hN := PairJ.kept (Kept.but b1 fL f1) (all non hnon).1
  have oN := (all non hnon).2
  have S1 : Same H2 G1 := of_old ha3 (Old.trans (same_old SL) (But.old b1))
  have hS1 := StaV.tupS (TupS.but b1 fL) hSL
  have hp1 := PairV.tupS (TupS.but b1 fL) hpL
  dsimp only [gName]
  refine at_st (σ' := [some (.ref a0), some (.ref a), some (.ref x), some v, some (.int (ds.length : Nat)), some (.int (es.length : Nat)), some (.ref t), some (.ref L), some non, none, none, none, none, none, none]) rfl ?_
  clear all zL SL fL hSL hpL b1 los nL hat hnon j0 j1 G0
  refine ⟨(by show 2 ≤ sizeLine; decide), fun t1 h1 => ?_⟩
  have s1 := Com.Same.upd (o := .tup [V.int 0, V.int 0]) h1
  have z1 := upd_same (H := G1) (a := t1) (o := .tup [V.int 0, V.int 0])
  generalize upd G1 t1 (.tup [V.int 0, V.int 0]) = J1 at s1 z1 ⊢
  refine ⟨(by show 1 ≤ sizeLine; decide), fun t2 h2 => ?_⟩
  have s2 := Com.Same.upd (o := .tup [V.ref t1]) h2
  have z2 := upd_same (H := J1) (a := t2) (o := .tup [V.ref t1])
  generalize upd J1 t2 (.tup [V.ref t1]) = J2 at s2 z2 ⊢
  refine ⟨t2, 2, [V.ref t1], rfl, rfl, z2, by simp, by decide, by decide, (by show 1 ≤ 1000; decide), fun t3 J3 z3 s3 => ?_⟩
  rw [rep1] at z3
  have q3 : J3 t3 = some (.tup [V.ref t1, V.ref t1]) := z3
  dsimp only [gName]
  refine at_st (σ' := [some (.ref a0), some (.ref a), some (.ref x), some v, some (.int (ds.length : Nat)), some (.int (es.length : Nat)), some (.ref t), some (.ref L), some non, some (.ref t3), none, none, none, none, none]) rfl ?_
  have w3 := s1.trans (s2.trans s3)
  obtain ⟨va, vus, rfl, hva, hvP⟩ := StaV.same w3 hS1
  have hV3 : StaV J3 (.ref va) S := ⟨va, vus, rfl, hva, hvP⟩
  have lv := Paired.length hvP
  have E3 := E2.same (S1.trans w3)
  obtain ⟨dx, hpx⟩ := E3.ob
  -- no standings
  refine ⟨_, rfl, va, vus, rfl, .inr (SqT.of hva), fun t4 h4 => ?_⟩
  have s4 := Com.Same.upd (o := .lst vus) h4
  have z4 := upd_same (H := J3) (a := t4) (o := .lst vus)
  generalize upd J3 t4 (.lst vus) = J4 at s4 z4 ⊢
  refine ⟨_, rfl, (by show 0 ≤ sizeLine; decide), fun t5 h5 => ?_⟩
  have s5 := Com.Same.upd (o := .tup []) h5
  have z5 := upd_same (H := J4) (a := t5) (o := .tup [])
  generalize upd J4 t5 (.tup []) = J5 at s5 z5 ⊢
  refine ⟨(by show 1 ≤ sizeLine; decide), fun t6 h6 => ?_⟩
  have s6 := Com.Same.upd (o := .tup [V.ref t5]) h6
  have z6 := upd_same (H := J5) (a := t6) (o := .tup [V.ref t5])
  generalize upd J5 t6 (.tup [V.ref t5]) = J6 at s6 z6 ⊢
  have y6 := s4.trans (s5.trans s6)
  refine ⟨va, t6, vus, [V.ref t5], rfl, rfl, y6 _ _ hva, z6, (by show vus.length + 1 ≤ 1000; omega), fun t7 J7 z7 s7 => ?_⟩
  have y7 := y6.trans s7
  refine ⟨_, rfl, _, rfl, va, vus, rfl, y7 _ _ hva, fun t8 J8 z8 s8 => ?_⟩
  rw [cut_1] at z8
  refine fun t9 h9 => ?_
  have s9 := Com.Same.upd (o := .dK []) h9
  have z9 := upd_same (H := J8) (a := t9) (o := .dK [])
  generalize upd J8 t9 (.dK []) = J9 at s9 z9 ⊢
  refine ⟨_, rfl, (by show 1 ≤ sizeLine; decide), fun t10 h10 => ?_⟩
  have s10 := Com.Same.upd (o := .tup [V.ref t3]) h10
  have z10 := upd_same (H := J9) (a := t10) (o := .tup [V.ref t3])
  generalize upd J9 t10 (.tup [V.ref t3]) = J10 at s10 z10 ⊢
  have y10 := y7.trans (s8.trans (s9.trans s10))
  refine ⟨_, rfl, x, C, dx, _, _, rfl, y10 _ _ hpx, X.cl, X.nM, exF_middles _ _ _, t10, m, [V.ref t3], rfl, rfl, z10, by simp, m1, by omega, (by show 1 ≤ 1000; decide), fun t11 J11 z11 s11 => ?_⟩
  rw [rep1] at z11
  refine ⟨(by show 8 ≤ sizeLine; decide), fun t12 h12 => ?_⟩
  have s12 := Com.Same.upd (o := .lst [V.ref t4, V.ref t7, V.ref t8, V.non, V.int 0, V.str "", V.ref t9, V.ref t11]) h12
  have z12 := upd_same (H := J11) (a := t12) (o := .lst [V.ref t4, V.ref t7, V.ref t8, V.non, V.int 0, V.str "", V.ref t9, V.ref t11])
  generalize upd J11 t12 (.lst [V.ref t4, V.ref t7, V.ref t8, V.non, V.int 0, V.str "", V.ref t9, V.ref t11]) = J12 at s12 z12 ⊢
  dsimp only [gName]
  refine at_st (σ' := [some (.ref a0), some (.ref a), some (.ref x), some (.ref va), some (.int (ds.length : Nat)), some (.int (es.length : Nat)), some (.ref t), some (.ref L), some non, some (.ref t3), some (.ref t12), none, none, none, none]) rfl ?_
  have y12 := y10.trans (s11.trans s12)
  refine ⟨_, rfl, _, rfl, (by show 1 ≤ sizeLine; decide), fun t13 h13 => ?_⟩
  have s13 := Com.Same.upd (o := .tup [non]) h13
  have z13 := upd_same (H := J12) (a := t13) (o := .tup [non])
  generalize upd J12 t13 (.tup [non]) = J13 at s13 z13 ⊢
  refine ⟨(by show 1 ≤ sizeLine; decide), fun t14 h14 => ?_⟩
  have s14 := Com.Same.upd (o := .tup [V.ref t13]) h14
  have z14 := upd_same (H := J13) (a := t14) (o := .tup [V.ref t13])
  generalize upd J13 t14 (.tup [V.ref t13]) = J14 at s14 z14 ⊢
  have y14 := y12.trans (s13.trans s14)
  refine ⟨_, rfl, _, rfl, va, vus, rfl, y14 _ _ hva, fun t15 J15 z15 s15 => ?_⟩
  rw [cut_1] at z15
  refine ⟨t14, t15, [V.ref t13], vus.drop 1, rfl, rfl, s15 _ _ z14, z15, (by rw [List.length_drop]; show 1 + _ ≤ 1000; omega), fun t16 J16 z16 s16 => ?_⟩
  refine fun t17 dxs nsh ndx _ => new_sh1 nsh ndx fun J17 dx' fs z17 s17 => ⟨rfl, _, rfl, ?_⟩
  refine ⟨(by show 0 ≤ sizeLine; decide), fun t18 h18 => ?_⟩
  have s18 := Com.Same.upd (o := .lst []) h18
  have z18 := upd_same (H := J17) (a := t18) (o := .lst [])
  generalize upd J17 t18 (.lst []) = J18 at s18 z18 ⊢
  refine ⟨(by show 1 ≤ sizeLine; decide), fun t19 h19 => ?_⟩
  have s19 := Com.Same.upd (o := .tup [V.ref t18]) h19
  have z19 := upd_same (H := J18) (a := t19) (o := .tup [V.ref t18])
  generalize upd J18 t19 (.tup [V.ref t18]) = J19 at s19 z19 ⊢
  have y19 := y14.trans (s15.trans (s16.trans (s17.trans (s18.trans s19))))
  refine ⟨_, rfl, _, rfl, va, vus, rfl, y19 _ _ hva, fun t20 J20 z20 s20 => ?_⟩
  rw [cut_1] at z20
  refine ⟨t19, t20, [V.ref t18], vus.drop 1, rfl, rfl, s20 _ _ z19, z20, (by rw [List.length_drop]; show 1 + _ ≤ 1000; omega), fun t21 J21 z21 s21 => ?_⟩
  refine ⟨(by show 4 ≤ sizeLine; decide), fun t22 h22 => ?_⟩
  have s22 := Com.Same.upd (o := .lst [V.ref t16, V.ref t17, V.ref x, V.ref t21]) h22
  have z22 := upd_same (H := J21) (a := t22) (o := .lst [V.ref t16, V.ref t17, V.ref x, V.ref t21])
  generalize upd J21 t22 (.lst [V.ref t16, V.ref t17, V.ref x, V.ref t21]) = J22 at s22 z22 ⊢
  have w21 := s22
  have w20 := s21.trans w21
  have w19 := s20.trans w20
  have w18 := s19.trans w19
  have w17 := s18.trans w18
  have w16 := s17.trans w17
  have w15 := s16.trans w16
  have w14 := s15.trans w15
  have w13 := s14.trans w14
  have w12 := s13.trans w13
  have w11 := s12.trans w12
  have w10 := s11.trans w11
  have w9 := s10.trans w10
  have w8 := s9.trans w9
  have w7 := s8.trans w8
  have w6 := s7.trans w7
  have w5 := s6.trans w6
  have w4 := s5.trans w5
  have w3' := s4.trans w4
  have w2 := s3.trans w3'
  have w1 := s2.trans w2
  have wA := w3.trans w3'
  refine ⟨t12, t22, _, _, rfl, rfl, w12 _ _ z12, z22, (by show 8 + 4 ≤ sizeLine; decide), fun L4 hL4 => ?_⟩
  have hV22 := StaV.same w3' hV3
  have hN22 := hN.same wA
  have full1 : LoadJ K J22 ds.length es.length (.ref t3) false := by
    by_cases c : ds.length < 2
    · exact .inl ⟨t3, _, rfl, w3' _ _ q3, c, rfl⟩
    · refine .inr (.inr (.inl ⟨[(0, 0), (0, 0)], ⟨t3, _, rfl, w3' _ _ q3, .cons ⟨t1, rfl, w1 _ _ z1⟩ (.cons ⟨t1, rfl, w1 _ _ z1⟩ .nil)⟩, by show 2 ≤ _; omega, fun p hp => ?_, ?_⟩))
      · simp only [List.mem_cons, List.not_mem_nil, or_false, or_self] at hp
        rw [hp]
        exact ⟨by show (0 : Int) ≤ 0; omega, by show (0 : Int) < _; omega, by show (0 : Int) ≤ 0; omega, by show (0 : Int) < _; omega⟩
      · decide
  have all : ∀ y ∈ [V.ref t4, V.ref t7, V.ref t8, V.non, V.int 0, V.str "", V.ref t9, V.ref t11] ++ [V.ref t16, V.ref t17, V.ref x, V.ref t21], StaJ K J22 ds es m y false ∧ sameOk y = true := by
    intro y hy
    simp only [List.mem_append, List.mem_cons, List.not_mem_nil, or_false] at hy
    rcases hy with (rfl | rfl | rfl | rfl | rfl | rfl | rfl | rfl) | (rfl | rfl | rfl | rfl)
    · exact ⟨.inr (.inr (.inr ⟨⟨_, .base (.lst (w4 _ _ z4)), kit_ty (by decide +kernel)⟩, rfl⟩)), rfl⟩
    · exact ⟨.inl ⟨t7, _, rfl, w7 _ _ z7, by rw [List.length_append]; show ((vus.length + 1 : Nat) : Int) ≠ m; omega, rfl⟩, rfl⟩
    · exact ⟨.inl ⟨t8, _, rfl, w8 _ _ z8, by rw [List.length_drop]; omega, rfl⟩, rfl⟩
    · exact ⟨.inr (.inr (.inr ⟨⟨_, .base .non, kit_ty (by decide +kernel)⟩, rfl⟩)), rfl⟩
    · exact ⟨.inr (.inr (.inr ⟨⟨_, .base (.int 0), kit_ty (by decide +kernel)⟩, rfl⟩)), rfl⟩
    · exact ⟨.inr (.inr (.inr ⟨⟨_, .base (.str _), kit_ty (by decide +kernel)⟩, rfl⟩)), rfl⟩
    · exact ⟨.inr (.inr (.inr ⟨⟨_, .base (.dK (w9 _ _ z9)), kit_ty (by decide +kernel)⟩, rfl⟩)), rfl⟩
    · refine ⟨.inr (.inl ⟨t11, _, List.replicate m.toNat false, rfl, w11 _ _ z11, by rw [List.length_replicate]; omega, by rw [List.length_replicate, List.length_replicate], fun k v c hv hc => ?_, ?_, rfl⟩), rfl⟩
      · have ev : v = V.ref t3 := (List.mem_replicate.mp (List.mem_of_getElem? hv)).2
        have ec : c = false := (List.mem_replicate.mp (List.mem_of_getElem? hc)).2
        rw [ev, ec]
        exact full1
      · have : m.toNat = (m.toNat - 1) + 1 := by omega
        rw [this, List.replicate_succ, List.all_cons]
        rfl
    · refine ⟨first_bad w16 z16 hV22 lv sl hg ?_ m1 (w3' _ _ hva), rfl⟩
      refine .inr (.inl ⟨t13, [non], [false], rfl, w13 _ _ z13, gd1, rfl, fun k v c hv hc => ?_, rfl, rfl⟩)
      cases k with
      | zero =>
        have ev : v = non := by simpa using hv.symm
        have ec : c = false := by simpa using hc.symm
        rw [ev, ec]
        exact hN22
      | succ k => cases hv
    · exact ⟨.inr (.inr (.inr ⟨⟨_, O.ty (w17 _ _ z17), O.kT⟩, rfl⟩)), rfl⟩
    · exact ⟨.inr (.inr (.inr ⟨⟨_, exTy X (w3' _ _ hpx), kX⟩, rfl⟩)), rfl⟩
    · refine ⟨first_bad w21 z21 hV22 lv sl hg ?_ m1 (w3' _ _ hva), rfl⟩
      exact .inr (.inr (.inr ⟨⟨_, .base (.lst (w18 _ _ z18)), kit_ty (by decide +kernel)⟩, rfl⟩))
  generalize eos : [V.ref t4, V.ref t7, V.ref t8, V.non, V.int 0, V.str "", V.ref t9, V.ref t11] ++ [V.ref t16, V.ref t17, V.ref x, V.ref t21] = os' at all
  have los : os'.length = 12 := by rw [← eos]; rfl
  have f22 := FlowAt.same f1 wA
  have nL : L4 ≠ a := FlowAt.ne f22 hL4
  have sL := Com.Same.upd (o := .lst os') hL4
  have zL := upd_same (H := J22) (a := L4) (o := .lst os')
  refine at_hp2 (H' := upd J22 L4 (.lst os')) (by rw [← eos]) ?_
  dsimp only [gName]
  refine at_st (σ' := [some (.ref a0), some (.ref a), some (.ref x), some (.ref va), some (.int (ds.length : Nat)), some (.int (es.length : Nat)), some (.ref t), some (.ref L), some non, some (.ref t3), some (.ref L4), none, none, none, none]) rfl ?_
  clear eos
  have all : ∀ y ∈ os', StaJ K (upd J22 L4 (.lst os')) ds es m y false ∧ sameOk y = true := fun y hy => ⟨(all y hy).1.same sL, (all y hy).2⟩
  have wL := wA.trans sL
  have SL := S1.trans wL
  have fL := FlowAt.same f22 sL
  have hSL := StaV.same sL hV22
  have hpL := PairV.same wL hp1
  have hNL := hN.same wL
  generalize upd J22 L4 (.lst os') = G2 at zL all SL fL hSL hpL hNL ⊢
  clear wL sL f22 hL4 full1 hN22 hV22 wA w1 w2 w3' w4 w5 w6 w7 w8 w9 w10 w11 w12 w13 w14 w15 w16 w17 w18 w19 w20 w21 y6 y7 y10 y12 y14 y19 z1 z2 z4 z5 z6 z7 z8 z9 z10 z11 z12 z13 z14 z15 z16 z17 z18 z19 z20 z21 z22 hpx E3 hV3 hvP hva w3 q3 z3 hN hp1 hS1 S1 f1
  refine ⟨_, rfl, _, rfl, _, rfl, L4, _, rfl, .inl (SqL.of zL), a, _, rfl, fL, by omega, small200 (by omega), fun jj G3 j0 j1 f3 b3 => ?_⟩
  obtain ⟨bad, hbad, hat⟩ := pickL (xs := os') j0 j1
  refine ⟨L4, os', _, bad, rfl, rfl, SqL.of (by rw [b3 L4 nL]; exact zL), hat, ?_⟩
  have hB := StaJ.kept (Kept.but b3 fL f3) (all bad hbad).1
  have oB := (all bad hbad).2
  have hN3 := PairJ.kept (Kept.but b3 fL f3) hNL
  have S3 : Same H2 G3 := of_old ha3 (Old.trans (same_old SL) (But.old b3))
  have hS3 := StaV.tupS (TupS.but b3 fL) hSL
  have hp3 := PairV.tupS (TupS.but b3 fL) hpL
  dsimp only [gName]
  refine at_st (σ' := [some (.ref a0), some (.ref a), some (.ref x), some (.ref va), some (.int (ds.length : Nat)), some (.int (es.length : Nat)), some (.ref t), some (.ref L), some non, some (.ref t3), some (.ref L4), some bad, none, none, none]) rfl ?_
  clear all zL SL fL hSL hpL hNL b3 los nL hat hbad j0 j1 G2
  -- a middle or another
  have E4 := E2.same S3
  obtain ⟨dx, hpx⟩ := E4.ob
  refine ⟨_, rfl, _, rfl, x, C, dx, _, _, rfl, hpx, X.cl, X.nM, exF_middles _ _ _, (by show 5 ≤ sizeLine; decide), fun L5 hL5 => ?_⟩
  have s5' := Com.Same.upd (o := .lst [V.int 0, V.int (-1), V.non, V.int m, V.bl true]) hL5
  have z5' := upd_same (H := G3) (a := L5) (o := .lst [V.int 0, V.int (-1), V.non, V.int m, V.bl true])
  have nL5 : L5 ≠ a := FlowAt.ne f3 hL5
  generalize upd G3 L5 (.lst [V.int 0, V.int (-1), V.non, V.int m, V.bl true]) = G4 at s5' z5' ⊢
  have f4 := FlowAt.same f3 s5'
  refine ⟨_, rfl, a, 5, rfl, f4, by omega, small200 (by omega), fun jj G5 j0 j1 f5 b5 => ?_⟩
  obtain ⟨kx, hkx, hat⟩ := pickL (xs := [V.int 0, V.int (-1), V.non, V.int m, V.bl true]) j0 j1
  refine ⟨L5, _, _, kx, rfl, rfl, SqL.of (by rw [b5 L5 nL5]; exact z5'), hat, ?_⟩
  have hB5 := StaJ.kept (Kept.but b5 f4 f5) (hB.same s5')
  have hN5 := PairJ.kept (Kept.but b5 f4 f5) (hN3.same s5')
  have S5 : Same H2 G5 := of_old ha3 (Old.trans (same_old (S3.trans s5')) (But.old b5))
  have hS5 := StaV.tupS (TupS.but b5 f4) (StaV.same s5' hS3)
  have hp5 := PairV.tupS (TupS.but b5 f4) (PairV.same s5' hp3)
  dsimp only [gName]
  refine at_st (σ' := [some (.ref a0), some (.ref a), some (.ref x), some (.ref va), some (.int (ds.length : Nat)), some (.int (es.length : Nat)), some (.ref t), some (.ref L), some non, some (.ref t3), some (.ref L4), some bad, some kx, none, none]) rfl ?_
  clear hB hN3 S3 hS3 hp3 f3 f4 b5 s5' z5' hpx E4 hat hkx j0 j1
  have E5 := E2.same S5
  refine ⟨_, rfl, by omega, by omega, for_range (lo := 0) (fun k σ H' => ∃ w13 w14, σ = [some (.ref a0), some (.ref a), some (.ref x), some (.ref va), some (.int (ds.length : Nat)), some (.int (es.length : Nat)), some (.ref t), some (.ref L), some non, some (.ref t3), some (.ref L4), some bad, some kx, w13, w14] ∧ Same G5 H') ⟨none, none, rfl, Same.refl G5⟩ ?_ ?_⟩
  · rintro k σ K0 hk ⟨w13, w14, rfl, s0⟩
    dsimp only [gName]
    rw [Int.zero_add]
    refine at_st (σ' := [some (.ref a0), some (.ref a), some (.ref x), some (.ref va), some (.int (ds.length : Nat)), some (.int (es.length : Nat)), some (.ref t), some (.ref L), some non, some (.ref t3), some (.ref L4), some bad, some kx, some (.int (k : Nat)), w14]) rfl ?_
    have hk8 : k < 8 := by omega
    refine ⟨_, rfl, _, rfl, _, rfl, _, rfl, _, rfl, k, x, i, o, ds, es, m, bad, .ref t, kx, rfl, hk8, E5.same s0, .inl ⟨hB5.same s0, fun u1 K1 hu1 s1 => ?_⟩⟩
    refine ⟨_, rfl, (by show 2 ≤ sizeLine; decide), fun u2 hu2 => .inr ⟨u1, u2, [V.str "standing", bad], rfl, rfl, SqT.of (Com.Same.upd hu2 _ _ hu1), SqT.of upd_same, by rw [List.all_cons, List.all_cons, oB]; rfl, _, rfl, ifB (fun c => absurd c (by simp)) (fun _ => ?_)⟩⟩
    have s2 := s0.trans (s1.trans (Com.Same.upd (o := .tup [V.str "standing", bad]) hu2))
    generalize upd K1 u2 (.tup [V.str "standing", bad]) = K2 at s2 ⊢
    refine ⟨_, rfl, _, rfl, _, rfl, _, rfl, _, rfl, k, x, i, o, ds, es, m, bad, non, kx, rfl, hk8, E5.same s2, .inl ⟨hB5.same s2, fun u3 K3 hu3 s3 => ?_⟩⟩
    refine ⟨_, rfl, (by show 2 ≤ sizeLine; decide), fun u4 hu4 => .inr ⟨u3, u4, [V.str "standing", bad], rfl, rfl, SqT.of (Com.Same.upd hu4 _ _ hu3), SqT.of upd_same, by rw [List.all_cons, List.all_cons, oB]; rfl, _, rfl, ifB (fun c => absurd c (by simp)) (fun _ => ?_)⟩⟩
    have s4 := s2.trans (s3.trans (Com.Same.upd (o := .tup [V.str "standing", bad]) hu4))
    generalize upd K3 u4 (.tup [V.str "standing", bad]) = K4 at s4 ⊢
    refine ⟨_, rfl, (by show 2 ≤ sizeLine; decide), fun u5 hu5 => ?_⟩
    have s5 := s4.trans (Com.Same.upd (o := .tup [V.str "pair", non]) hu5)
    have z5 := upd_same (H := K4) (a := u5) (o := .tup [V.str "pair", non])
    generalize upd K4 u5 (.tup [V.str "pair", non]) = K5 at s5 z5 ⊢
    dsimp only [gName]
    refine at_st (σ' := [some (.ref a0), some (.ref a), some (.ref x), some (.ref va), some (.int (ds.length : Nat)), some (.int (es.length : Nat)), some (.ref t), some (.ref L), some non, some (.ref t3), some (.ref L4), some bad, some kx, some (.int (k : Nat)), some (.ref u5)]) rfl ?_
    refine ⟨_, rfl, _, _, rfl, rfl, _, rfl, ifB (fun c => ?_) (fun c => ?_)⟩
    · have h3 : k < 3 := by have := of_decide_eq_true c; omega
      refine ⟨(by show 1 ≤ sizeLine; decide), fun u6 hu6 => ?_⟩
      have s6 := s5.trans (Com.Same.upd (o := .tup [V.str "told"]) hu6)
      have z6 := upd_same (H := K5) (a := u6) (o := .tup [V.str "told"])
      generalize upd K5 u6 (.tup [V.str "told"]) = K6 at s6 z6 ⊢
      dsimp only [gName]
      refine at_st (σ' := [some (.ref a0), some (.ref a), some (.ref x), some (.ref va), some (.int (ds.length : Nat)), some (.int (es.length : Nat)), some (.ref t), some (.ref L), some non, some (.ref t3), some (.ref L4), some bad, some kx, some (.int (k : Nat)), some (.ref u6)]) rfl ?_
      refine ⟨_, rfl, _, rfl, _, rfl, _, rfl, _, rfl, k, x, i, o, ds, es, m, .ref va, non, kx, rfl, hk8, E5.same s6, .inr ⟨S, StaV.same s6 hS5, hg, .inl ⟨h3, fun u7 K7 hu7 s7 => ?_⟩⟩⟩
      refine ⟨_, rfl, .inr ⟨u7, u6, [V.str "told"], rfl, rfl, SqT.of hu7, SqT.of (s7 _ _ z6), rfl, _, rfl, ifB (fun c => absurd c (by simp)) (fun _ => ?_)⟩⟩
      exact ⟨_, _, rfl, s6.trans s7⟩
    · have h3 : 3 ≤ k := by have := of_decide_eq_false c; omega
      refine ⟨_, rfl, _, rfl, _, rfl, _, rfl, _, rfl, k, x, i, o, ds, es, m, .ref va, non, kx, rfl, hk8, E5.same s5, .inr ⟨S, StaV.same s5 hS5, hg, .inr (.inl ⟨h3, hN5.same s5, fun u7 K7 hu7 s7 => ?_⟩)⟩⟩
      refine ⟨_, rfl, .inr ⟨u7, u5, [V.str "pair", non], rfl, rfl, SqT.of hu7, SqT.of (s7 _ _ z5), by rw [List.all_cons, List.all_cons, oN]; rfl, _, rfl, ifB (fun c => absurd c (by simp)) (fun _ => ?_)⟩⟩
      exact ⟨_, _, rfl, s5.trans s7⟩
  · rintro σ K0 ⟨w13, w14, rfl, s0⟩
    refine ⟨_, rfl, _, rfl, _, rfl, _, rfl, 3, x, i, o, ds, es, m, .ref va, .ref t, kx, rfl, by omega, E5.same s0, .inr ⟨S, StaV.same s0 hS5, hg, .inr (.inr ⟨rfl, pr, PairV.same s0 hp5, hin, fun u1 K1 hu1 s1 => ?_⟩)⟩⟩
    exact ⟨(by show 1 ≤ sizeLine; decide), fun u2 hu2 => ⟨u1, u2, [V.str "told"], rfl, rfl, SqT.of (Com.Same.upd hu2 _ _ hu1), SqT.of upd_same, rfl, q _⟩⟩
end
end K06
set_option Elab.async false
set_option linter.all false
set_option maxRecDepth 100000
set_option maxHeartbeats 4000000
namespace K06
open PySem PySem.Spec PyProof.Rows L2 Com Com_thing Sd StV Gn Ext Srl
local macro_rules | `(tactic| walk_at "rd1") => `(tactic| (first
  | refine ⟨_, rfl, ?_⟩
  | refine ⟨_, _, rfl, rfl, ?_⟩
  | refine ⟨.inl ⟨by decide, by decide⟩, ?_⟩
  | refine ⟨.inr ⟨by decide, by decide⟩, ?_⟩
  | refine ⟨(by decide : (0 : Int) < _), ?_⟩
  | refine ⟨⟨by decide, by decide⟩, ?_⟩
  | refine ⟨⟨by decide, by decide, by decide⟩, ?_⟩
  | refine ⟨rfl, ?_⟩
  | refine .inl ⟨_, rfl, ?_⟩
  | refine .inr ⟨_, rfl, ?_⟩
  | refine ⟨_, _, _, _, rfl, rfl, SqL.of upd_same, rfl, ?_⟩
  | refine ⟨_, _, _, _, rfl, rfl, upd_same, rfl, ?_⟩
  | refine ⟨mulm (by decide) (by decide), ?_⟩
  | refine ⟨_, _, _, _, rfl, rfl, SqL.of (by assumption), rfl, ?_⟩
  | refine ⟨_, _, _, _, rfl, rfl, (by assumption), rfl, ?_⟩))
local macro_rules | `(tactic| walk_at "rd") => `(tactic| repeat (walk_at "rd1"))
abbrev s_NoStanding___init : Stmt := inClass (top 6) 0
abbrev N_NoStanding___init : List Str := ["self", "thing"]
abbrev s_NoPair___init : Stmt := inClass (top 7) 0
abbrev N_NoPair___init : List Str := ["self", "thing"]
theorem exm_no {K : PySem.W.Frag} {S R : Addr} (h1 : PySem.W.subIn K (.ref S) (.type "BaseException") = some true) (h2 : PySem.W.isClsIn K S = true) (h3 : PySem.W.typeIn K (.ref S) = some (.type "type")) (h4 : PySem.W.subIn K (.ref R) (.ref S) = some false) : PySem.W.exmOne K (.ref R) (.ref S) = some false := by
  have e1 : (PySem.W.subIn K (.ref S) (.type "BaseException") == some true) = true := by rw [h1] <;> rfl
  have e2 : ((PySem.W.clsIn K S).isSome && PySem.W.typeIn K (.ref S) == some (.type "type")) = true := by
    have h2' : (PySem.W.clsIn K S).isSome = true := h2
    rw [h2', h3] <;> rfl
  show (if (PySem.W.subIn K (.ref S) (.type "BaseException") == some true) = true then (if ((PySem.W.clsIn K S).isSome && PySem.W.typeIn K (.ref S) == some (.type "type")) = true then PySem.W.subIn K (.ref R) (.ref S) else none) else none) = some false
  rw [if_pos e1, if_pos e2]
  exact h4
end K06
set_option Elab.async false
set_option linter.all false
set_option maxRecDepth 100000
set_option maxHeartbeats 4000000
namespace K06
open PySem PySem.Spec PyProof.Rows L2 Com Com_thing Sd StV Gn Ext Srl
/-! ### what the top has made; the end -/
theorem all_mk {P : Program} {w : World} {K : PySem.W.Frag} {h : Heap} {mg : Str → Option Value} {fa : Addr} (X : K.In h) (G : h.Ns mainGlobals mg) (hfa : mg "law" = some (.ref fa))
    {f_is_plain_int : Addr} {od_is_plain_int an_is_plain_int : Option Addr} {sl_is_plain_int : Array (Option Value)} {oc_is_plain_int kV_is_plain_int dc_is_plain_int pm_is_plain_int cd_is_plain_int ct_is_plain_int : Value}
    {f_is_int_within : Addr} {od_is_int_within an_is_int_within : Option Addr} {sl_is_int_within : Array (Option Value)} {oc_is_int_within kV_is_int_within dc_is_int_within pm_is_int_within cd_is_int_within ct_is_int_within : Value}
    {f_is_pair : Addr} {od_is_pair an_is_pair : Option Addr} {sl_is_pair : Array (Option Value)} {oc_is_pair kV_is_pair dc_is_pair pm_is_pair cd_is_pair ct_is_pair : Value}
    {f_is_load : Addr} {od_is_load an_is_load : Option Addr} {sl_is_load : Array (Option Value)} {oc_is_load kV_is_load dc_is_load pm_is_load cd_is_load ct_is_load : Value}
    {f_is_free : Addr} {od_is_free an_is_free : Option Addr} {sl_is_free : Array (Option Value)} {oc_is_free kV_is_free dc_is_free pm_is_free cd_is_free ct_is_free : Value}
    {f_doors_left : Addr} {od_doors_left an_doors_left : Option Addr} {sl_doors_left : Array (Option Value)} {oc_doors_left kV_doors_left dc_doors_left pm_doors_left cd_doors_left ct_doors_left : Value}
    {f_open_pairs : Addr} {od_open_pairs an_open_pairs : Option Addr} {sl_open_pairs : Array (Option Value)} {oc_open_pairs kV_open_pairs dc_open_pairs pm_open_pairs cd_open_pairs ct_open_pairs : Value}
    {f_free_for : Addr} {od_free_for an_free_for : Option Addr} {sl_free_for : Array (Option Value)} {oc_free_for kV_free_for dc_free_for pm_free_for cd_free_for ct_free_for : Value}
    {f_placed : Addr} {od_placed an_placed : Option Addr} {sl_placed : Array (Option Value)} {oc_placed kV_placed dc_placed pm_placed cd_placed ct_placed : Value}
    {f_unplaced : Addr} {od_unplaced an_unplaced : Option Addr} {sl_unplaced : Array (Option Value)} {oc_unplaced kV_unplaced dc_unplaced pm_unplaced cd_unplaced ct_unplaced : Value}
    {f_is_standing : Addr} {od_is_standing an_is_standing : Option Addr} {sl_is_standing : Array (Option Value)} {oc_is_standing kV_is_standing dc_is_standing pm_is_standing cd_is_standing ct_is_standing : Value}
    {f_check_standing : Addr} {od_check_standing an_check_standing : Option Addr} {sl_check_standing : Array (Option Value)} {oc_check_standing kV_check_standing dc_check_standing pm_check_standing cd_check_standing ct_check_standing : Value}
    {f_check_pair : Addr} {od_check_pair an_check_pair : Option Addr} {sl_check_pair : Array (Option Value)} {oc_check_pair kV_check_pair dc_check_pair pm_check_pair cd_check_pair ct_check_pair : Value}
    {f_check_doors : Addr} {od_check_doors an_check_doors : Option Addr} {sl_check_doors : Array (Option Value)} {oc_check_doors kV_check_doors dc_check_doors pm_check_doors cd_check_doors ct_check_doors : Value}
    {f_calls : Addr} {od_calls an_calls : Option Addr} {sl_calls : Array (Option Value)} {oc_calls kV_calls dc_calls pm_calls cd_calls ct_calls : Value}
    {f_free_doors : Addr} {od_free_doors an_free_doors : Option Addr} {sl_free_doors : Array (Option Value)} {oc_free_doors kV_free_doors dc_free_doors pm_free_doors cd_free_doors ct_free_doors : Value}
    {f_free_middles : Addr} {od_free_middles an_free_middles : Option Addr} {sl_free_middles : Array (Option Value)} {oc_free_middles kV_free_middles dc_free_middles pm_free_middles cd_free_middles ct_free_middles : Value}
    {f_barred : Addr} {od_barred an_barred : Option Addr} {sl_barred : Array (Option Value)} {oc_barred kV_barred dc_barred pm_barred cd_barred ct_barred : Value}
    {f_with_call : Addr} {od_with_call an_with_call : Option Addr} {sl_with_call : Array (Option Value)} {oc_with_call kV_with_call dc_with_call pm_with_call cd_with_call ct_with_call : Value}
    {f_without_call : Addr} {od_without_call an_without_call : Option Addr} {sl_without_call : Array (Option Value)} {oc_without_call kV_without_call dc_without_call pm_without_call cd_without_call ct_without_call : Value}
    {f_shape : Addr} {od_shape an_shape : Option Addr} {sl_shape : Array (Option Value)} {oc_shape kV_shape dc_shape pm_shape cd_shape ct_shape : Value}
    {f_chain_steps : Addr} {od_chain_steps an_chain_steps : Option Addr} {sl_chain_steps : Array (Option Value)} {oc_chain_steps kV_chain_steps dc_chain_steps pm_chain_steps cd_chain_steps ct_chain_steps : Value}
    {f_chain : Addr} {od_chain an_chain : Option Addr} {sl_chain : Array (Option Value)} {oc_chain kV_chain dc_chain pm_chain cd_chain ct_chain : Value}
    {f_check_without : Addr} {od_check_without an_check_without : Option Addr} {sl_check_without : Array (Option Value)} {oc_check_without kV_check_without dc_check_without pm_check_without cd_check_without ct_check_without : Value}
    {f_is_side : Addr} {od_is_side an_is_side : Option Addr} {sl_is_side : Array (Option Value)} {oc_is_side kV_is_side dc_is_side pm_is_side cd_is_side ct_is_side : Value}
    {f_flow : Addr} {od_flow an_flow : Option Addr} {sl_flow : Array (Option Value)} {oc_flow kV_flow dc_flow pm_flow cd_flow ct_flow : Value}
    {f_pick : Addr} {od_pick an_pick : Option Addr} {sl_pick : Array (Option Value)} {oc_pick kV_pick dc_pick pm_pick cd_pick ct_pick : Value}
    {f_doors : Addr} {od_doors an_doors : Option Addr} {sl_doors : Array (Option Value)} {oc_doors kV_doors dc_doors pm_doors cd_doors ct_doors : Value}
    {f_free : Addr} {od_free an_free : Option Addr} {sl_free : Array (Option Value)} {oc_free kV_free dc_free pm_free cd_free ct_free : Value}
    {f_loads : Addr} {od_loads an_loads : Option Addr} {sl_loads : Array (Option Value)} {oc_loads kV_loads dc_loads pm_loads cd_loads ct_loads : Value}
    {f_exchange : Addr} {od_exchange an_exchange : Option Addr} {sl_exchange : Array (Option Value)} {oc_exchange kV_exchange dc_exchange pm_exchange cd_exchange ct_exchange : Value}
    {f_ask : Addr} {od_ask an_ask : Option Addr} {sl_ask : Array (Option Value)} {oc_ask kV_ask dc_ask pm_ask cd_ask ct_ask : Value}
    {f_refused : Addr} {od_refused an_refused : Option Addr} {sl_refused : Array (Option Value)} {oc_refused kV_refused dc_refused pm_refused cd_refused ct_refused : Value}
    {f_law : Addr} {od_law an_law : Option Addr} {sl_law : Array (Option Value)} {oc_law kV_law dc_law pm_law cd_law ct_law : Value}
    {f_Exchange_init : Addr} {od_Exchange_init an_Exchange_init : Option Addr} {sl_Exchange_init : Array (Option Value)} {oc_Exchange_init kV_Exchange_init dc_Exchange_init pm_Exchange_init cd_Exchange_init ct_Exchange_init : Value}
    {C_Exchange : Addr}
    {C_Share : Addr}
    {C_NoStanding : Addr}
    {C_NoPair : Addr}
    {f_i T_i : Addr} {od_i an_i odT : Option Addr} {sl_i slT : Array (Option Value)} {oc_i kV_i dc_i pm_i cd_i ct_i ocT : Value} {tk : Tok} {nTt : Nat}
    {eS_nm eS_q : Str} {eS_N eS_Ca : Addr} {eS_bs eS_sub : List Value} {eS_sn : List Str} {eS_ab : Bool} {eS_col : Option Bool} {eS_dd : Option Addr} {eS_0 eS_1 eS_2 eS_3 eS_5 : Option Value}
    {fS_E cdaS_E ccS_E : Addr} {odS_E anS_E cldS_E cddS_E : Option Addr} {slS_E cslS_E ccsS_E : Array (Option Value)} {ocS_E dcS_E pmS_E ctS_E clS_E cclS_E : Value} {vsS_E : Array Value} {fileS_E : Str} {tfS_E : Tok}
    {eP_nm eP_q : Str} {eP_N eP_Ca : Addr} {eP_bs eP_sub : List Value} {eP_sn : List Str} {eP_ab : Bool} {eP_col : Option Bool} {eP_dd : Option Addr} {eP_0 eP_1 eP_2 eP_3 eP_5 : Option Value}
    {fP_E cdaP_E ccP_E : Addr} {odP_E anP_E cldP_E cddP_E : Option Addr} {slP_E cslP_E ccsP_E : Array (Option Value)} {ocP_E dcP_E pmP_E ctP_E clP_E cclP_E : Value} {vsP_E : Array Value} {fileP_E : Str} {tfP_E : Tok}
    {t_MOST_SWITCHES : Tok}
    {t_MOST_DOORS : Tok}
    {t_MOST_MIDDLES : Tok}
    (a_Exchange : PySem.W.nsIn K mainGlobals "Exchange" = some (some (.ref C_Exchange)))
    (a_Share : PySem.W.nsIn K mainGlobals "Share" = some (some (.ref C_Share)))
    (a_NoStanding : PySem.W.nsIn K mainGlobals "NoStanding" = some (some (.ref C_NoStanding)))
    (a_NoPair : PySem.W.nsIn K mainGlobals "NoPair" = some (some (.ref C_NoPair)))
    (a_is_plain_int : PySem.W.nsIn K mainGlobals "is_plain_int" = some (some (.ref f_is_plain_int)))
    (l_is_plain_int : K.lookup f_is_plain_int = some ⟨oc_is_plain_int, od_is_plain_int, .func (PySem.W.fnOf "is_plain_int" "is_plain_int" (defArgs s_is_plain_int) (defBody s_is_plain_int) (defScope s_is_plain_int) .none kV_is_plain_int dc_is_plain_int pm_is_plain_int an_is_plain_int cd_is_plain_int ct_is_plain_int), sl_is_plain_int⟩)
    (c_is_plain_int : PySem.W.codeIn K cd_is_plain_int "is_plain_int" = true)
    (k_is_plain_int : PySem.W.keepIn K (.ref f_is_plain_int) = true)
    (a_is_int_within : PySem.W.nsIn K mainGlobals "is_int_within" = some (some (.ref f_is_int_within)))
    (l_is_int_within : K.lookup f_is_int_within = some ⟨oc_is_int_within, od_is_int_within, .func (PySem.W.fnOf "is_int_within" "is_int_within" (defArgs s_is_int_within) (defBody s_is_int_within) (defScope s_is_int_within) .none kV_is_int_within dc_is_int_within pm_is_int_within an_is_int_within cd_is_int_within ct_is_int_within), sl_is_int_within⟩)
    (c_is_int_within : PySem.W.codeIn K cd_is_int_within "is_int_within" = true)
    (k_is_int_within : PySem.W.keepIn K (.ref f_is_int_within) = true)
    (a_is_pair : PySem.W.nsIn K mainGlobals "is_pair" = some (some (.ref f_is_pair)))
    (l_is_pair : K.lookup f_is_pair = some ⟨oc_is_pair, od_is_pair, .func (PySem.W.fnOf "is_pair" "is_pair" (defArgs s_is_pair) (defBody s_is_pair) (defScope s_is_pair) .none kV_is_pair dc_is_pair pm_is_pair an_is_pair cd_is_pair ct_is_pair), sl_is_pair⟩)
    (c_is_pair : PySem.W.codeIn K cd_is_pair "is_pair" = true)
    (k_is_pair : PySem.W.keepIn K (.ref f_is_pair) = true)
    (a_is_load : PySem.W.nsIn K mainGlobals "is_load" = some (some (.ref f_is_load)))
    (l_is_load : K.lookup f_is_load = some ⟨oc_is_load, od_is_load, .func (PySem.W.fnOf "is_load" "is_load" (defArgs s_is_load) (defBody s_is_load) (defScope s_is_load) .none kV_is_load dc_is_load pm_is_load an_is_load cd_is_load ct_is_load), sl_is_load⟩)
    (c_is_load : PySem.W.codeIn K cd_is_load "is_load" = true)
    (k_is_load : PySem.W.keepIn K (.ref f_is_load) = true)
    (a_is_free : PySem.W.nsIn K mainGlobals "is_free" = some (some (.ref f_is_free)))
    (l_is_free : K.lookup f_is_free = some ⟨oc_is_free, od_is_free, .func (PySem.W.fnOf "is_free" "is_free" (defArgs s_is_free) (defBody s_is_free) (defScope s_is_free) .none kV_is_free dc_is_free pm_is_free an_is_free cd_is_free ct_is_free), sl_is_free⟩)
    (c_is_free : PySem.W.codeIn K cd_is_free "is_free" = true)
    (k_is_free : PySem.W.keepIn K (.ref f_is_free) = true)
    (a_doors_left : PySem.W.nsIn K mainGlobals "doors_left" = some (some (.ref f_doors_left)))
    (l_doors_left : K.lookup f_doors_left = some ⟨oc_doors_left, od_doors_left, .func (PySem.W.fnOf "doors_left" "doors_left" (defArgs s_doors_left) (defBody s_doors_left) (defScope s_doors_left) .none kV_doors_left dc_doors_left pm_doors_left an_doors_left cd_doors_left ct_doors_left), sl_doors_left⟩)
    (c_doors_left : PySem.W.codeIn K cd_doors_left "doors_left" = true)
    (k_doors_left : PySem.W.keepIn K (.ref f_doors_left) = true)
    (a_open_pairs : PySem.W.nsIn K mainGlobals "open_pairs" = some (some (.ref f_open_pairs)))
    (l_open_pairs : K.lookup f_open_pairs = some ⟨oc_open_pairs, od_open_pairs, .func (PySem.W.fnOf "open_pairs" "open_pairs" (defArgs s_open_pairs) (defBody s_open_pairs) (defScope s_open_pairs) .none kV_open_pairs dc_open_pairs pm_open_pairs an_open_pairs cd_open_pairs ct_open_pairs), sl_open_pairs⟩)
    (c_open_pairs : PySem.W.codeIn K cd_open_pairs "open_pairs" = true)
    (k_open_pairs : PySem.W.keepIn K (.ref f_open_pairs) = true)
    (a_free_for : PySem.W.nsIn K mainGlobals "free_for" = some (some (.ref f_free_for)))
    (l_free_for : K.lookup f_free_for = some ⟨oc_free_for, od_free_for, .func (PySem.W.fnOf "free_for" "free_for" (defArgs s_free_for) (defBody s_free_for) (defScope s_free_for) .none kV_free_for dc_free_for pm_free_for an_free_for cd_free_for ct_free_for), sl_free_for⟩)
    (c_free_for : PySem.W.codeIn K cd_free_for "free_for" = true)
    (k_free_for : PySem.W.keepIn K (.ref f_free_for) = true)
    (a_placed : PySem.W.nsIn K mainGlobals "placed" = some (some (.ref f_placed)))
    (l_placed : K.lookup f_placed = some ⟨oc_placed, od_placed, .func (PySem.W.fnOf "placed" "placed" (defArgs s_placed) (defBody s_placed) (defScope s_placed) .none kV_placed dc_placed pm_placed an_placed cd_placed ct_placed), sl_placed⟩)
    (c_placed : PySem.W.codeIn K cd_placed "placed" = true)
    (k_placed : PySem.W.keepIn K (.ref f_placed) = true)
    (a_unplaced : PySem.W.nsIn K mainGlobals "unplaced" = some (some (.ref f_unplaced)))
    (l_unplaced : K.lookup f_unplaced = some ⟨oc_unplaced, od_unplaced, .func (PySem.W.fnOf "unplaced" "unplaced" (defArgs s_unplaced) (defBody s_unplaced) (defScope s_unplaced) .none kV_unplaced dc_unplaced pm_unplaced an_unplaced cd_unplaced ct_unplaced), sl_unplaced⟩)
    (c_unplaced : PySem.W.codeIn K cd_unplaced "unplaced" = true)
    (k_unplaced : PySem.W.keepIn K (.ref f_unplaced) = true)
    (a_is_standing : PySem.W.nsIn K mainGlobals "is_standing" = some (some (.ref f_is_standing)))
    (l_is_standing : K.lookup f_is_standing = some ⟨oc_is_standing, od_is_standing, .func (PySem.W.fnOf "is_standing" "is_standing" (defArgs s_is_standing) (defBody s_is_standing) (defScope s_is_standing) .none kV_is_standing dc_is_standing pm_is_standing an_is_standing cd_is_standing ct_is_standing), sl_is_standing⟩)
    (c_is_standing : PySem.W.codeIn K cd_is_standing "is_standing" = true)
    (k_is_standing : PySem.W.keepIn K (.ref f_is_standing) = true)
    (a_check_standing : PySem.W.nsIn K mainGlobals "check_standing" = some (some (.ref f_check_standing)))
    (l_check_standing : K.lookup f_check_standing = some ⟨oc_check_standing, od_check_standing, .func (PySem.W.fnOf "check_standing" "check_standing" (defArgs s_check_standing) (defBody s_check_standing) (defScope s_check_standing) .none kV_check_standing dc_check_standing pm_check_standing an_check_standing cd_check_standing ct_check_standing), sl_check_standing⟩)
    (c_check_standing : PySem.W.codeIn K cd_check_standing "check_standing" = true)
    (k_check_standing : PySem.W.keepIn K (.ref f_check_standing) = true)
    (a_check_pair : PySem.W.nsIn K mainGlobals "check_pair" = some (some (.ref f_check_pair)))
    (l_check_pair : K.lookup f_check_pair = some ⟨oc_check_pair, od_check_pair, .func (PySem.W.fnOf "check_pair" "check_pair" (defArgs s_check_pair) (defBody s_check_pair) (defScope s_check_pair) .none kV_check_pair dc_check_pair pm_check_pair an_check_pair cd_check_pair ct_check_pair), sl_check_pair⟩)
    (c_check_pair : PySem.W.codeIn K cd_check_pair "check_pair" = true)
    (k_check_pair : PySem.W.keepIn K (.ref f_check_pair) = true)
    (a_check_doors : PySem.W.nsIn K mainGlobals "check_doors" = some (some (.ref f_check_doors)))
    (l_check_doors : K.lookup f_check_doors = some ⟨oc_check_doors, od_check_doors, .func (PySem.W.fnOf "check_doors" "check_doors" (defArgs s_check_doors) (defBody s_check_doors) (defScope s_check_doors) .none kV_check_doors dc_check_doors pm_check_doors an_check_doors cd_check_doors ct_check_doors), sl_check_doors⟩)
    (c_check_doors : PySem.W.codeIn K cd_check_doors "check_doors" = true)
    (k_check_doors : PySem.W.keepIn K (.ref f_check_doors) = true)
    (a_calls : PySem.W.nsIn K mainGlobals "calls" = some (some (.ref f_calls)))
    (l_calls : K.lookup f_calls = some ⟨oc_calls, od_calls, .func (PySem.W.fnOf "calls" "calls" (defArgs s_calls) (defBody s_calls) (defScope s_calls) .none kV_calls dc_calls pm_calls an_calls cd_calls ct_calls), sl_calls⟩)
    (c_calls : PySem.W.codeIn K cd_calls "calls" = true)
    (k_calls : PySem.W.keepIn K (.ref f_calls) = true)
    (a_free_doors : PySem.W.nsIn K mainGlobals "free_doors" = some (some (.ref f_free_doors)))
    (l_free_doors : K.lookup f_free_doors = some ⟨oc_free_doors, od_free_doors, .func (PySem.W.fnOf "free_doors" "free_doors" (defArgs s_free_doors) (defBody s_free_doors) (defScope s_free_doors) .none kV_free_doors dc_free_doors pm_free_doors an_free_doors cd_free_doors ct_free_doors), sl_free_doors⟩)
    (c_free_doors : PySem.W.codeIn K cd_free_doors "free_doors" = true)
    (k_free_doors : PySem.W.keepIn K (.ref f_free_doors) = true)
    (a_free_middles : PySem.W.nsIn K mainGlobals "free_middles" = some (some (.ref f_free_middles)))
    (l_free_middles : K.lookup f_free_middles = some ⟨oc_free_middles, od_free_middles, .func (PySem.W.fnOf "free_middles" "free_middles" (defArgs s_free_middles) (defBody s_free_middles) (defScope s_free_middles) .none kV_free_middles dc_free_middles pm_free_middles an_free_middles cd_free_middles ct_free_middles), sl_free_middles⟩)
    (c_free_middles : PySem.W.codeIn K cd_free_middles "free_middles" = true)
    (k_free_middles : PySem.W.keepIn K (.ref f_free_middles) = true)
    (a_barred : PySem.W.nsIn K mainGlobals "barred" = some (some (.ref f_barred)))
    (l_barred : K.lookup f_barred = some ⟨oc_barred, od_barred, .func (PySem.W.fnOf "barred" "barred" (defArgs s_barred) (defBody s_barred) (defScope s_barred) .none kV_barred dc_barred pm_barred an_barred cd_barred ct_barred), sl_barred⟩)
    (c_barred : PySem.W.codeIn K cd_barred "barred" = true)
    (k_barred : PySem.W.keepIn K (.ref f_barred) = true)
    (a_with_call : PySem.W.nsIn K mainGlobals "with_call" = some (some (.ref f_with_call)))
    (l_with_call : K.lookup f_with_call = some ⟨oc_with_call, od_with_call, .func (PySem.W.fnOf "with_call" "with_call" (defArgs s_with_call) (defBody s_with_call) (defScope s_with_call) .none kV_with_call dc_with_call pm_with_call an_with_call cd_with_call ct_with_call), sl_with_call⟩)
    (c_with_call : PySem.W.codeIn K cd_with_call "with_call" = true)
    (k_with_call : PySem.W.keepIn K (.ref f_with_call) = true)
    (a_without_call : PySem.W.nsIn K mainGlobals "without_call" = some (some (.ref f_without_call)))
    (l_without_call : K.lookup f_without_call = some ⟨oc_without_call, od_without_call, .func (PySem.W.fnOf "without_call" "without_call" (defArgs s_without_call) (defBody s_without_call) (defScope s_without_call) .none kV_without_call dc_without_call pm_without_call an_without_call cd_without_call ct_without_call), sl_without_call⟩)
    (c_without_call : PySem.W.codeIn K cd_without_call "without_call" = true)
    (k_without_call : PySem.W.keepIn K (.ref f_without_call) = true)
    (a_shape : PySem.W.nsIn K mainGlobals "shape" = some (some (.ref f_shape)))
    (l_shape : K.lookup f_shape = some ⟨oc_shape, od_shape, .func (PySem.W.fnOf "shape" "shape" (defArgs s_shape) (defBody s_shape) (defScope s_shape) .none kV_shape dc_shape pm_shape an_shape cd_shape ct_shape), sl_shape⟩)
    (c_shape : PySem.W.codeIn K cd_shape "shape" = true)
    (k_shape : PySem.W.keepIn K (.ref f_shape) = true)
    (a_chain_steps : PySem.W.nsIn K mainGlobals "chain_steps" = some (some (.ref f_chain_steps)))
    (l_chain_steps : K.lookup f_chain_steps = some ⟨oc_chain_steps, od_chain_steps, .func (PySem.W.fnOf "chain_steps" "chain_steps" (defArgs s_chain_steps) (defBody s_chain_steps) (defScope s_chain_steps) .none kV_chain_steps dc_chain_steps pm_chain_steps an_chain_steps cd_chain_steps ct_chain_steps), sl_chain_steps⟩)
    (c_chain_steps : PySem.W.codeIn K cd_chain_steps "chain_steps" = true)
    (k_chain_steps : PySem.W.keepIn K (.ref f_chain_steps) = true)
    (a_chain : PySem.W.nsIn K mainGlobals "chain" = some (some (.ref f_chain)))
    (l_chain : K.lookup f_chain = some ⟨oc_chain, od_chain, .func (PySem.W.fnOf "chain" "chain" (defArgs s_chain) (defBody s_chain) (defScope s_chain) .none kV_chain dc_chain pm_chain an_chain cd_chain ct_chain), sl_chain⟩)
    (c_chain : PySem.W.codeIn K cd_chain "chain" = true)
    (k_chain : PySem.W.keepIn K (.ref f_chain) = true)
    (a_check_without : PySem.W.nsIn K mainGlobals "_check_without" = some (some (.ref f_check_without)))
    (l_check_without : K.lookup f_check_without = some ⟨oc_check_without, od_check_without, .func (PySem.W.fnOf "_check_without" "_check_without" (defArgs s_check_without) (defBody s_check_without) (defScope s_check_without) .none kV_check_without dc_check_without pm_check_without an_check_without cd_check_without ct_check_without), sl_check_without⟩)
    (c_check_without : PySem.W.codeIn K cd_check_without "_check_without" = true)
    (k_check_without : PySem.W.keepIn K (.ref f_check_without) = true)
    (a_is_side : PySem.W.nsIn K mainGlobals "_is_side" = some (some (.ref f_is_side)))
    (l_is_side : K.lookup f_is_side = some ⟨oc_is_side, od_is_side, .func (PySem.W.fnOf "_is_side" "_is_side" (defArgs s_is_side) (defBody s_is_side) (defScope s_is_side) .none kV_is_side dc_is_side pm_is_side an_is_side cd_is_side ct_is_side), sl_is_side⟩)
    (c_is_side : PySem.W.codeIn K cd_is_side "_is_side" = true)
    (k_is_side : PySem.W.keepIn K (.ref f_is_side) = true)
    (a_flow : PySem.W.nsIn K mainGlobals "_law_flow" = some (some (.ref f_flow)))
    (l_flow : K.lookup f_flow = some ⟨oc_flow, od_flow, .func (PySem.W.fnOf "_law_flow" "_law_flow" (defArgs s_flow) (defBody s_flow) (defScope s_flow) .none kV_flow dc_flow pm_flow an_flow cd_flow ct_flow), sl_flow⟩)
    (c_flow : PySem.W.codeIn K cd_flow "_law_flow" = true)
    (k_flow : PySem.W.keepIn K (.ref f_flow) = true)
    (a_pick : PySem.W.nsIn K mainGlobals "_law_pick" = some (some (.ref f_pick)))
    (l_pick : K.lookup f_pick = some ⟨oc_pick, od_pick, .func (PySem.W.fnOf "_law_pick" "_law_pick" (defArgs s_pick) (defBody s_pick) (defScope s_pick) .none kV_pick dc_pick pm_pick an_pick cd_pick ct_pick), sl_pick⟩)
    (c_pick : PySem.W.codeIn K cd_pick "_law_pick" = true)
    (k_pick : PySem.W.keepIn K (.ref f_pick) = true)
    (a_doors : PySem.W.nsIn K mainGlobals "_law_doors" = some (some (.ref f_doors)))
    (l_doors : K.lookup f_doors = some ⟨oc_doors, od_doors, .func (PySem.W.fnOf "_law_doors" "_law_doors" (defArgs s_doors) (defBody s_doors) (defScope s_doors) .none kV_doors dc_doors pm_doors an_doors cd_doors ct_doors), sl_doors⟩)
    (c_doors : PySem.W.codeIn K cd_doors "_law_doors" = true)
    (k_doors : PySem.W.keepIn K (.ref f_doors) = true)
    (a_free : PySem.W.nsIn K mainGlobals "_law_free" = some (some (.ref f_free)))
    (l_free : K.lookup f_free = some ⟨oc_free, od_free, .func (PySem.W.fnOf "_law_free" "_law_free" (defArgs s_free) (defBody s_free) (defScope s_free) .none kV_free dc_free pm_free an_free cd_free ct_free), sl_free⟩)
    (c_free : PySem.W.codeIn K cd_free "_law_free" = true)
    (k_free : PySem.W.keepIn K (.ref f_free) = true)
    (a_loads : PySem.W.nsIn K mainGlobals "_law_loads" = some (some (.ref f_loads)))
    (l_loads : K.lookup f_loads = some ⟨oc_loads, od_loads, .func (PySem.W.fnOf "_law_loads" "_law_loads" (defArgs s_loads) (defBody s_loads) (defScope s_loads) .none kV_loads dc_loads pm_loads an_loads cd_loads ct_loads), sl_loads⟩)
    (c_loads : PySem.W.codeIn K cd_loads "_law_loads" = true)
    (k_loads : PySem.W.keepIn K (.ref f_loads) = true)
    (a_exchange : PySem.W.nsIn K mainGlobals "_law_exchange" = some (some (.ref f_exchange)))
    (l_exchange : K.lookup f_exchange = some ⟨oc_exchange, od_exchange, .func (PySem.W.fnOf "_law_exchange" "_law_exchange" (defArgs s_exchange) (defBody s_exchange) (defScope s_exchange) .none kV_exchange dc_exchange pm_exchange an_exchange cd_exchange ct_exchange), sl_exchange⟩)
    (c_exchange : PySem.W.codeIn K cd_exchange "_law_exchange" = true)
    (k_exchange : PySem.W.keepIn K (.ref f_exchange) = true)
    (a_ask : PySem.W.nsIn K mainGlobals "_law_ask" = some (some (.ref f_ask)))
    (l_ask : K.lookup f_ask = some ⟨oc_ask, od_ask, .func (PySem.W.fnOf "_law_ask" "_law_ask" (defArgs s_ask) (defBody s_ask) (defScope s_ask) .none kV_ask dc_ask pm_ask an_ask cd_ask ct_ask), sl_ask⟩)
    (c_ask : PySem.W.codeIn K cd_ask "_law_ask" = true)
    (k_ask : PySem.W.keepIn K (.ref f_ask) = true)
    (a_refused : PySem.W.nsIn K mainGlobals "_law_refused" = some (some (.ref f_refused)))
    (l_refused : K.lookup f_refused = some ⟨oc_refused, od_refused, .func (PySem.W.fnOf "_law_refused" "_law_refused" (defArgs s_refused) (defBody s_refused) (defScope s_refused) .none kV_refused dc_refused pm_refused an_refused cd_refused ct_refused), sl_refused⟩)
    (c_refused : PySem.W.codeIn K cd_refused "_law_refused" = true)
    (k_refused : PySem.W.keepIn K (.ref f_refused) = true)
    (a_law : PySem.W.nsIn K mainGlobals "law" = some (some (.ref f_law)))
    (l_law : K.lookup f_law = some ⟨oc_law, od_law, .func (PySem.W.fnOf "law" "law" (defArgs s_law) (defBody s_law) (defScope s_law) .none kV_law dc_law pm_law an_law cd_law ct_law), sl_law⟩)
    (c_law : PySem.W.codeIn K cd_law "law" = true)
    (k_law : PySem.W.keepIn K (.ref f_law) = true)
    (a_Exchange_init : PySem.W.findIn K (.ref C_Exchange) "__init__" = some (some (.ref f_Exchange_init)))
    (i_Exchange_init : PySem.W.isFn K (.ref f_Exchange_init) = true)
    (l_Exchange_init : K.lookup f_Exchange_init = some ⟨oc_Exchange_init, od_Exchange_init, .func (PySem.W.fnOf "__init__" "Exchange.__init__" (defArgs s_Exchange___init) (defBody s_Exchange___init) (defScope s_Exchange___init) .none kV_Exchange_init dc_Exchange_init pm_Exchange_init an_Exchange_init cd_Exchange_init ct_Exchange_init), sl_Exchange_init⟩)
    (c_Exchange_init : PySem.W.codeIn K cd_Exchange_init "Exchange.__init__" = true)
    (k_Exchange_init : PySem.W.keepIn K (.ref f_Exchange_init) = true)
    (x_pg : PySem.W.plainGet K C_Exchange Str.empty = true)
    (x_hd : PySem.W.hasDictIn K C_Exchange = true)
    (x_po : PySem.W.plainOver K C_Exchange = true)
    (x_sa : PySem.W.findIn K (.ref C_Exchange) "__setattr__" = some (some (.builtin "object.__setattr__")))
    (x_mk : PySem.W.makesIn K C_Exchange = true)
    (x_kc : PySem.W.keepIn K (.ref C_Exchange) = true)
    (x_ca : PySem.W.findIn K (.ref C_Exchange) "__class__" = some (some (.builtin "object.__class__")))
    (x_cm : PySem.W.mroIn K C_Exchange (.type "object") = some true)
    (x_ic : PySem.W.isClsIn K C_Exchange = true)
    (x_ty : PySem.W.typeIn K (.ref C_Exchange) = some (.type "type"))
    (x_sI : PySem.W.subIn K (.type "int") (.ref C_Exchange) = some false)
    (x_fS : PySem.W.notFirst K C_Exchange (.ref C_Exchange) = true)
    (x_xI : PySem.W.subIn K (.ref C_Exchange) (.type "int") = some false)
    (x_n_ins : PySem.W.findIn K (.ref C_Exchange) "ins" = some none)
    (x_n_outs : PySem.W.findIn K (.ref C_Exchange) "outs" = some none)
    (x_n_middles : PySem.W.findIn K (.ref C_Exchange) "middles" = some none)
    (s_pg : PySem.W.plainGet K C_Share Str.empty = true)
    (s_hd : PySem.W.hasDictIn K C_Share = true)
    (s_po : PySem.W.plainOver K C_Share = true)
    (s_sa : PySem.W.findIn K (.ref C_Share) "__setattr__" = some (some (.builtin "object.__setattr__")))
    (s_mk : PySem.W.makesIn K C_Share = true)
    (s_kc : PySem.W.keepIn K (.ref C_Share) = true)
    (s_ca : PySem.W.findIn K (.ref C_Share) "__class__" = some (some (.builtin "object.__class__")))
    (s_cm : PySem.W.mroIn K C_Share (.type "object") = some true)
    (s_ic : PySem.W.isClsIn K C_Share = true)
    (s_ty : PySem.W.typeIn K (.ref C_Share) = some (.type "type"))
    (s_sI : PySem.W.subIn K (.type "int") (.ref C_Share) = some false)
    (s_fS : PySem.W.notFirst K C_Share (.ref C_Share) = true)
    (s_xI : PySem.W.subIn K (.ref C_Share) (.type "int") = some false)
    (s_n_top : PySem.W.findIn K (.ref C_Share) "top" = some none)
    (s_n_bottom : PySem.W.findIn K (.ref C_Share) "bottom" = some none)
    (cn : PySem.W.specialIn K (.builtin "object.__class__") "__get__" = some (some (.builtin "getset_descriptor.__get__")))
    (ct : PySem.W.takesIn K (.builtin "object.__class__") = some true)
    (x_sT : PySem.W.subIn K (.type "tuple") (.ref C_Exchange) = some false)
    (x_fT : PySem.W.notFirst K C_Exchange (.type "tuple") = true)
    (x_fI : PySem.W.notFirst K C_Exchange (.type "int") = true)
    (s_xT : PySem.W.subIn K (.ref C_Share) (.type "tuple") = some false)
    (i_a : PySem.W.findIn K (.ref C_Share) "__init__" = some (some (.ref f_i)))
    (i_f : PySem.W.isFn K (.ref f_i) = true)
    (i_l : K.lookup f_i = some ⟨oc_i, od_i, .func (PySem.W.fnOf "__init__" "Share.__init__" (defArgs Shr.s_Share___init) (defBody Shr.s_Share___init) (defScope Shr.s_Share___init) (.ref T_i) kV_i dc_i pm_i an_i cd_i ct_i), sl_i⟩)
    (i_c : PySem.W.codeIn K cd_i "Share.__init__" = true)
    (i_k : PySem.W.keepIn K (.ref f_i) = true)
    (i_t : K.lookup T_i = some ⟨ocT, odT, .seq #[.int 1 tk] nTt, slT⟩)
    (g_gcd : PySem.W.nsIn K mainGlobals "gcd" = some (some (.builtin "math.gcd")))
    (e_op : PySem.W.nsIn K PySem.cStatics "thirdparty.any" = some none)
    (p_t : (P.main.scope.names.lookup ("super" : Str)).isSome = false)
    (n_PS : PySem.W.subIn K (.ref C_NoPair) (.ref C_NoStanding) = some false)
    (x_xT : PySem.W.subIn K (.ref C_Exchange) (.type "tuple") = some false)
    (eS_cls : K.lookup C_NoStanding = some (excClassObj eS_nm eS_q C_NoStanding eS_N eS_bs [.ref eS_Ca, .type "ValueError", .type "Exception", .type "BaseException", .type "object"] true eS_sn eS_sub eS_ab eS_col eS_dd eS_0 eS_1 eS_2 eS_3 eS_5 "ValueError.__new__"))
    (eS_sup : PySem.W.ks_superIn K C_NoStanding C_NoStanding "__init__" = some (some (.builtin "ValueError.__init__")))
    (eS_sVE : PySem.W.subIn K (.ref C_NoStanding) (.type "ValueError") = some true)
    (eS_own : PySem.W.mroIn K C_NoStanding (.ref C_NoStanding) = some true)
    (eS_sa : PySem.W.findIn K (.ref C_NoStanding) "__setattr__" = some (some (.builtin "object.__setattr__")))
    (eS_ga : PySem.W.findIn K (.ref C_NoStanding) "__getattribute__" = some (some (.builtin "BaseException.__getattribute__")))
    (eS_gg : PySem.W.findIn K (.ref C_NoStanding) "__getattr__" = some none)
    (eS_no : PySem.W.findIn K (.ref C_NoStanding) "thing" = some none)
    (eS_i : PySem.W.findIn K (.ref C_NoStanding) "__init__" = some (some (.ref fS_E)))
    (eS_t : PySem.W.typeIn K (.ref fS_E) = some (.type "function"))
    (eS_k : PySem.W.keepIn K (.ref C_NoStanding) = true)
    (eS_ex : PySem.W.subIn K (.ref C_NoStanding) (.type "BaseException") = some true)
    (eS_ty : PySem.W.typeIn K (.ref C_NoStanding) = some (.type "type"))
    (eS_hd : PySem.W.hasDictIn K C_NoStanding = true)
    (eS_ic : PySem.W.isClsIn K C_NoStanding = true)
    (eS_ss : PySem.W.subIn K (.ref C_NoStanding) (.ref C_NoStanding) = some true)
    (eS_l : K.lookup fS_E = some ⟨ocS_E, odS_E, .func (PySem.W.ksFn "__init__" "NoStanding.__init__" (defArgs s_NoStanding___init) (defBody s_NoStanding___init) (defScope s_NoStanding___init) .none .none dcS_E pmS_E anS_E (.ref cdaS_E) ctS_E ccS_E), slS_E⟩)
    (eS_c : PySem.W.codeIn K (.ref cdaS_E) "NoStanding.__init__" = true)
    (eS_cc : K.lookup ccS_E = some ⟨clS_E, cldS_E, .cell (some (.ref C_NoStanding)), cslS_E⟩)
    (eS_cd : K.lookup cdaS_E = some ⟨cclS_E, cddS_E, .fields vsS_E, ccsS_E⟩)
    (eS_v2 : vsS_E[2]? = some (.str fileS_E tfS_E))
    (pS_f : ((P.main.file : Str) == fileS_E) = true)
    (eP_cls : K.lookup C_NoPair = some (excClassObj eP_nm eP_q C_NoPair eP_N eP_bs [.ref eP_Ca, .type "ValueError", .type "Exception", .type "BaseException", .type "object"] true eP_sn eP_sub eP_ab eP_col eP_dd eP_0 eP_1 eP_2 eP_3 eP_5 "ValueError.__new__"))
    (eP_sup : PySem.W.ks_superIn K C_NoPair C_NoPair "__init__" = some (some (.builtin "ValueError.__init__")))
    (eP_sVE : PySem.W.subIn K (.ref C_NoPair) (.type "ValueError") = some true)
    (eP_own : PySem.W.mroIn K C_NoPair (.ref C_NoPair) = some true)
    (eP_sa : PySem.W.findIn K (.ref C_NoPair) "__setattr__" = some (some (.builtin "object.__setattr__")))
    (eP_ga : PySem.W.findIn K (.ref C_NoPair) "__getattribute__" = some (some (.builtin "BaseException.__getattribute__")))
    (eP_gg : PySem.W.findIn K (.ref C_NoPair) "__getattr__" = some none)
    (eP_no : PySem.W.findIn K (.ref C_NoPair) "thing" = some none)
    (eP_i : PySem.W.findIn K (.ref C_NoPair) "__init__" = some (some (.ref fP_E)))
    (eP_t : PySem.W.typeIn K (.ref fP_E) = some (.type "function"))
    (eP_k : PySem.W.keepIn K (.ref C_NoPair) = true)
    (eP_ex : PySem.W.subIn K (.ref C_NoPair) (.type "BaseException") = some true)
    (eP_ty : PySem.W.typeIn K (.ref C_NoPair) = some (.type "type"))
    (eP_hd : PySem.W.hasDictIn K C_NoPair = true)
    (eP_ic : PySem.W.isClsIn K C_NoPair = true)
    (eP_ss : PySem.W.subIn K (.ref C_NoPair) (.ref C_NoPair) = some true)
    (eP_l : K.lookup fP_E = some ⟨ocP_E, odP_E, .func (PySem.W.ksFn "__init__" "NoPair.__init__" (defArgs s_NoPair___init) (defBody s_NoPair___init) (defScope s_NoPair___init) .none .none dcP_E pmP_E anP_E (.ref cdaP_E) ctP_E ccP_E), slP_E⟩)
    (eP_c : PySem.W.codeIn K (.ref cdaP_E) "NoPair.__init__" = true)
    (eP_cc : K.lookup ccP_E = some ⟨clP_E, cldP_E, .cell (some (.ref C_NoPair)), cslP_E⟩)
    (eP_cd : K.lookup cdaP_E = some ⟨cclP_E, cddP_E, .fields vsP_E, ccsP_E⟩)
    (eP_v2 : vsP_E[2]? = some (.str fileP_E tfP_E))
    (pP_f : ((P.main.file : Str) == fileP_E) = true)
    (z_len : PySem.W.nsIn K mainGlobals "len" = some none)
    (z_abs : PySem.W.nsIn K mainGlobals "abs" = some none)
    (z_int : PySem.W.nsIn K mainGlobals "int" = some none)
    (z_bool : PySem.W.nsIn K mainGlobals "bool" = some none)
    (z_tuple : PySem.W.nsIn K mainGlobals "tuple" = some none)
    (z_list : PySem.W.nsIn K mainGlobals "list" = some none)
    (z_isinstance : PySem.W.nsIn K mainGlobals "isinstance" = some none)
    (z_all : PySem.W.nsIn K mainGlobals "all" = some none)
    (z_range : PySem.W.nsIn K mainGlobals "range" = some none)
    (z_set : PySem.W.nsIn K mainGlobals "set" = some none)
    (z_sorted : PySem.W.nsIn K mainGlobals "sorted" = some none)
    (z_min : PySem.W.nsIn K mainGlobals "min" = some none)
    (z_max : PySem.W.nsIn K mainGlobals "max" = some none)
    (z_enumerate : PySem.W.nsIn K mainGlobals "enumerate" = some none)
    (z_super : PySem.W.nsIn K mainGlobals "super" = some none)
    (y_MOST_SWITCHES : PySem.W.nsIn K mainGlobals "MOST_SWITCHES" = some (some (.int 4 t_MOST_SWITCHES)))
    (y_MOST_DOORS : PySem.W.nsIn K mainGlobals "MOST_DOORS" = some (some (.int 4 t_MOST_DOORS)))
    (y_MOST_MIDDLES : PySem.W.nsIn K mainGlobals "MOST_MIDDLES" = some (some (.int 7 t_MOST_MIDDLES)))
    : ∃ fd : FuncData, (∀ (s : Shared) (v : Value), BindsTo s fd ⟨[v], []⟩ [("_law_script", v)]) ∧ ∀ base : Heap, K.In base → base.Ns mainGlobals mg → FnOk P w K mg base CX0 11 fa fd ["_law_script"] (spLaw K) := by
  have efa := hfa.symm.trans (PySem.W.mg_of X G a_law)
  cases efa
  have D_is_plain_int : DefAt K mg "is_plain_int" s_is_plain_int ["value"] := DefAt.of X G a_is_plain_int l_is_plain_int c_is_plain_int k_is_plain_int fun _ _ _ _ _ _ us hl => match us, hl with | [_], _ => rfl
  have D_is_int_within : DefAt K mg "is_int_within" s_is_int_within ["value", "low", "high"] := DefAt.of X G a_is_int_within l_is_int_within c_is_int_within k_is_int_within fun _ _ _ _ _ _ us hl => match us, hl with | [_, _, _], _ => rfl
  have D_is_pair : DefAt K mg "is_pair" s_is_pair ["exchange", "thing"] := DefAt.of X G a_is_pair l_is_pair c_is_pair k_is_pair fun _ _ _ _ _ _ us hl => match us, hl with | [_, _], _ => rfl
  have D_is_load : DefAt K mg "is_load" s_is_load ["exchange", "thing"] := DefAt.of X G a_is_load l_is_load c_is_load k_is_load fun _ _ _ _ _ _ us hl => match us, hl with | [_, _], _ => rfl
  have D_is_free : DefAt K mg "is_free" s_is_free ["load", "pair"] := DefAt.of X G a_is_free l_is_free c_is_free k_is_free fun _ _ _ _ _ _ us hl => match us, hl with | [_, _], _ => rfl
  have D_doors_left : DefAt K mg "doors_left" s_doors_left ["exchange", "standing"] := DefAt.of X G a_doors_left l_doors_left c_doors_left k_doors_left fun _ _ _ _ _ _ us hl => match us, hl with | [_, _], _ => rfl
  have D_open_pairs : DefAt K mg "open_pairs" s_open_pairs ["exchange", "standing"] := DefAt.of X G a_open_pairs l_open_pairs c_open_pairs k_open_pairs fun _ _ _ _ _ _ us hl => match us, hl with | [_, _], _ => rfl
  have D_free_for : DefAt K mg "free_for" s_free_for ["standing", "pair"] := DefAt.of X G a_free_for l_free_for c_free_for k_free_for fun _ _ _ _ _ _ us hl => match us, hl with | [_, _], _ => rfl
  have D_placed : DefAt K mg "placed" s_placed ["standing", "pair", "k"] := DefAt.of X G a_placed l_placed c_placed k_placed fun _ _ _ _ _ _ us hl => match us, hl with | [_, _, _], _ => rfl
  have D_unplaced : DefAt K mg "unplaced" s_unplaced ["standing", "pair", "k"] := DefAt.of X G a_unplaced l_unplaced c_unplaced k_unplaced fun _ _ _ _ _ _ us hl => match us, hl with | [_, _, _], _ => rfl
  have D_is_standing : DefAt K mg "is_standing" s_is_standing ["exchange", "thing"] := DefAt.of X G a_is_standing l_is_standing c_is_standing k_is_standing fun _ _ _ _ _ _ us hl => match us, hl with | [_, _], _ => rfl
  have D_check_standing : DefAt K mg "check_standing" s_check_standing ["exchange", "standing"] := DefAt.of X G a_check_standing l_check_standing c_check_standing k_check_standing fun _ _ _ _ _ _ us hl => match us, hl with | [_, _], _ => rfl
  have D_check_pair : DefAt K mg "check_pair" s_check_pair ["exchange", "pair"] := DefAt.of X G a_check_pair l_check_pair c_check_pair k_check_pair fun _ _ _ _ _ _ us hl => match us, hl with | [_, _], _ => rfl
  have D_check_doors : DefAt K mg "check_doors" s_check_doors ["exchange", "standing", "pair"] := DefAt.of X G a_check_doors l_check_doors c_check_doors k_check_doors fun _ _ _ _ _ _ us hl => match us, hl with | [_, _, _], _ => rfl
  have D_calls : DefAt K mg "calls" s_calls ["exchange", "standing"] := DefAt.of X G a_calls l_calls c_calls k_calls fun _ _ _ _ _ _ us hl => match us, hl with | [_, _], _ => rfl
  have D_free_doors : DefAt K mg "free_doors" s_free_doors ["exchange", "standing"] := DefAt.of X G a_free_doors l_free_doors c_free_doors k_free_doors fun _ _ _ _ _ _ us hl => match us, hl with | [_, _], _ => rfl
  have D_free_middles : DefAt K mg "free_middles" s_free_middles ["exchange", "standing", "pair"] := DefAt.of X G a_free_middles l_free_middles c_free_middles k_free_middles fun _ _ _ _ _ _ us hl => match us, hl with | [_, _, _], _ => rfl
  have D_barred : DefAt K mg "barred" s_barred ["exchange", "standing", "pair"] := DefAt.of X G a_barred l_barred c_barred k_barred fun _ _ _ _ _ _ us hl => match us, hl with | [_, _, _], _ => rfl
  have D_with_call : DefAt K mg "with_call" s_with_call ["exchange", "standing", "pair", "k"] := DefAt.of X G a_with_call l_with_call c_with_call k_with_call fun _ _ _ _ _ _ us hl => match us, hl with | [_, _, _, _], _ => rfl
  have D_without_call : DefAt K mg "without_call" s_without_call ["exchange", "standing", "pair", "k"] := DefAt.of X G a_without_call l_without_call c_without_call k_without_call fun _ _ _ _ _ _ us hl => match us, hl with | [_, _, _, _], _ => rfl
  have D_shape : DefAt K mg "shape" s_shape ["exchange", "standing"] := DefAt.of X G a_shape l_shape c_shape k_shape fun _ _ _ _ _ _ us hl => match us, hl with | [_, _], _ => rfl
  have D_chain_steps : DefAt K mg "chain_steps" s_chain_steps ["standing", "pair", "p", "q"] := DefAt.of X G a_chain_steps l_chain_steps c_chain_steps k_chain_steps fun _ _ _ _ _ _ us hl => match us, hl with | [_, _, _, _], _ => rfl
  have D_chain : DefAt K mg "chain" s_chain ["exchange", "standing", "pair", "p", "q"] := DefAt.of X G a_chain l_chain c_chain k_chain fun _ _ _ _ _ _ us hl => match us, hl with | [_, _, _, _, _], _ => rfl
  have D_check_without : DefAt K mg "_check_without" s_check_without ["exchange", "standing", "k", "side", "pair"] := DefAt.of X G a_check_without l_check_without c_check_without k_check_without fun _ _ _ _ _ _ us hl => match us, hl with | [_, _, _, _, _], _ => rfl
  have D_is_side : DefAt K mg "_is_side" s_is_side ["value"] := DefAt.of X G a_is_side l_is_side c_is_side k_is_side fun _ _ _ _ _ _ us hl => match us, hl with | [_], _ => rfl
  have D_flow : DefAt K mg "_law_flow" s_flow ["_law_script", "_law_k"] := DefAt.of X G a_flow l_flow c_flow k_flow fun _ _ _ _ _ _ us hl => match us, hl with | [_, _], _ => rfl
  have D_pick : DefAt K mg "_law_pick" s_pick ["_law_flow_here", "_law_size"] := DefAt.of X G a_pick l_pick c_pick k_pick fun _ _ _ _ _ _ us hl => match us, hl with | [_, _], _ => rfl
  have D_doors : DefAt K mg "_law_doors" s_doors ["_law_flow_here", "_law_most", "_law_doors_here"] := DefAt.of X G a_doors l_doors c_doors k_doors fun _ _ _ _ _ _ us hl => match us, hl with | [_, _, _], _ => rfl
  have D_free : DefAt K mg "_law_free" s_free ["_law_load", "_law_pair"] := DefAt.of X G a_free l_free c_free k_free fun _ _ _ _ _ _ us hl => match us, hl with | [_, _], _ => rfl
  have D_loads : DefAt K mg "_law_loads" s_loads ["_law_flow_here", "_law_ins", "_law_outs", "_law_middles", "_law_many"] := DefAt.of X G a_loads l_loads c_loads k_loads fun _ _ _ _ _ _ us hl => match us, hl with | [_, _, _, _, _], _ => rfl
  have D_exchange : DefAt K mg "_law_exchange" s_exchange ["_law_flow_here", "_law_most", "_law_doors_here", "_law_middles"] := DefAt.of X G a_exchange l_exchange c_exchange k_exchange fun _ _ _ _ _ _ us hl => match us, hl with | [_, _, _, _], _ => rfl
  have D_ask : DefAt K mg "_law_ask" s_ask ["_law_way", "_law_exchange_here", "_law_standing", "_law_pair", "_law_k"] := DefAt.of X G a_ask l_ask c_ask k_ask fun _ _ _ _ _ _ us hl => match us, hl with | [_, _, _, _, _], _ => rfl
  have D_refused : DefAt K mg "_law_refused" s_refused ["_law_way", "_law_exchange_here", "_law_standing", "_law_pair", "_law_k"] := DefAt.of X G a_refused l_refused c_refused k_refused fun _ _ _ _ _ _ us hl => match us, hl with | [_, _, _, _, _], _ => rfl
  have D_law : DefAt K mg "law" s_law ["_law_script"] := DefAt.of X G a_law l_law c_law k_law fun _ _ _ _ _ _ us hl => match us, hl with | [_], _ => rfl
  have D_Exchange_init : MethAt K C_Exchange "__init__" "Exchange.__init__" s_Exchange___init ["self", "ins", "outs", "middles"] := MethAt.of a_Exchange_init i_Exchange_init l_Exchange_init c_Exchange_init k_Exchange_init fun _ _ _ _ _ _ us hl => match us, hl with | [_, _, _, _], _ => rfl
  have T : Blt mg := ⟨PySem.W.mg_none_of X G z_len, PySem.W.mg_none_of X G z_abs, PySem.W.mg_none_of X G z_int, PySem.W.mg_none_of X G z_bool, PySem.W.mg_none_of X G z_tuple, PySem.W.mg_none_of X G z_list, PySem.W.mg_none_of X G z_isinstance, PySem.W.mg_none_of X G z_all, PySem.W.mg_none_of X G z_range, PySem.W.mg_none_of X G z_set, PySem.W.mg_none_of X G z_sorted, PySem.W.mg_none_of X G z_min, PySem.W.mg_none_of X G z_max, PySem.W.mg_none_of X G z_enumerate,
    ⟨_, PySem.W.mg_of X G y_MOST_SWITCHES⟩, ⟨_, PySem.W.mg_of X G y_MOST_DOORS⟩, ⟨_, PySem.W.mg_of X G y_MOST_MIDDLES⟩, PySem.W.mg_of X G g_gcd⟩
  have XT : ExT K mg C_Exchange := ⟨⟨x_pg, x_hd, x_po, x_sa⟩, x_n_ins, x_n_outs, x_n_middles, x_ca, cn, ct, x_cm, kit_self, kit_own x_ic x_ty x_sT rfl, kit_own x_ic x_ty x_sI rfl, x_fS, x_fT, x_fI, PySem.W.mg_of X G a_Exchange⟩
  have ST : Shr.ShT K mg C_Share := ⟨⟨s_pg, s_hd, s_po, s_sa⟩, s_n_top, s_n_bottom, s_ca, cn, ct, s_cm, kit_own s_ic s_ty s_sI rfl, s_fS, PySem.W.mg_of X G a_Share⟩
  have Ot : Oth K C_Share := ⟨fun h => Shr.shTy ST h, kit_type (by decide +kernel) s_xT rfl, kit_type (by decide +kernel) s_xI rfl⟩
  have FI : FunD K "__init__" "Share.__init__" (defArgs Shr.s_Share___init) (defBody Shr.s_Share___init) (defScope Shr.s_Share___init) [.int 1] [] f_i _ := ⟨⟨oc_i, od_i, .ref T_i, kV_i, dc_i, pm_i, an_i, cd_i, ct_i, sl_i, rfl, i_l, i_c, .inr ⟨(fun h => nomatch h), T_i, _, [.int 1 tk], nTt, rfl, i_t, rfl, .cons ⟨tk, rfl⟩ .nil⟩, .inl rfl⟩, i_k⟩
  obtain ⟨dsI, rI, bI⟩ := FI.binds1 (ps := ["self", "top", "bottom"]) 2 0 (fun h => nomatch h) rfl fun _ _ _ _ _ _ _ us its hu hi => match us, its, hu, hi with | [_, _], [_], _, _ => ⟨_, rfl, rfl⟩
  obtain ⟨tk2, eI⟩ : ∃ tk2, dsI = [.int 1 tk2] := by
    cases rI with
    | cons a r =>
      cases r
      obtain ⟨t2, e⟩ := a
      exact ⟨t2, by rw [e]⟩
  subst eI
  have TS : PySem.Exo_thing.Txt P K mg "NoStanding" C_NoStanding fS_E :=
    { gC := PySem.W.mg_of X G a_NoStanding, gS := PySem.W.mg_none_of X G z_super, cls := ⟨_, _, _, _, _, _, _, _, _, _, _, _, _, _, _, eS_cls, rfl⟩, sup := eS_sup, sVE := eS_sVE, own := eS_own, op := e_op, sa := eS_sa, ga := eS_ga, gg := eS_gg, noN := eS_no, iC := eS_i, tC := eS_t, kC := eS_k, exC := eS_ex, tyC := eS_ty, hdC := eS_hd,
      te := exm_self eS_ex eS_ic eS_ty eS_ss, top := p_t, fn := ⟨_, _, _, _, _, _, _, _, _, _, _, _, _, _, _, _, _, _, _, _, _, _, _, _, _, _, _, _, _, _, _, _, eS_l, eS_c, eS_cc, eS_cd, eS_v2, pS_f, fun L => ⟨_, rfl⟩⟩ }
  have TP : PySem.Exo_thing.Txt P K mg "NoPair" C_NoPair fP_E :=
    { gC := PySem.W.mg_of X G a_NoPair, gS := PySem.W.mg_none_of X G z_super, cls := ⟨_, _, _, _, _, _, _, _, _, _, _, _, _, _, _, eP_cls, rfl⟩, sup := eP_sup, sVE := eP_sVE, own := eP_own, op := e_op, sa := eP_sa, ga := eP_ga, gg := eP_gg, noN := eP_no, iC := eP_i, tC := eP_t, kC := eP_k, exC := eP_ex, tyC := eP_ty, hdC := eP_hd,
      te := exm_self eP_ex eP_ic eP_ty eP_ss, top := p_t, fn := ⟨_, _, _, _, _, _, _, _, _, _, _, _, _, _, _, _, _, _, _, _, _, _, _, _, _, _, _, _, _, _, _, _, eP_l, eP_c, eP_cc, eP_cd, eP_v2, pP_f, fun L => ⟨_, rfl⟩⟩ }
  refine ⟨PySem.W.fnOf "law" "law" (defArgs s_law) (defBody s_law) (defScope s_law) .none kV_law dc_law pm_law an_law cd_law ct_law, fun s v => .of_eq rfl, fun base _ _ => ?_⟩
  have O1 : DefOk P w K mg base CX0 1 "is_plain_int" (spPlain K) := ok_is_plain_int T D_is_plain_int
  have O2 : DefOk P w K mg base CX0 2 "is_int_within" (spWithin K) := ok_is_int_within T O1 D_is_int_within
  have O3 : DefOk P w K mg base CX0 3 "_is_side" (spSide K) := ok_is_side T O2 D_is_side
  have I1 : MethOk P w K mg base CX0 4 C_Exchange "__init__" (spInit C_Exchange) := ok_init T XT O3 O2 D_Exchange_init
  have N1 : NewOk P w K mg base CX0 4 "Exchange" C_Exchange (spInit C_Exchange) := I1.new x_mk x_kc (PySem.W.mg_of X G a_Exchange)
  have NS : NewOk P w K mg base CX0 2 "Share" C_Share (spSh C_Share) := sh_new (Shr.ok_init T ST O1 FI) bI ⟨s_mk, i_a, i_f, s_kc⟩ (PySem.W.mg_of X G a_Share)
  have FL : DefOk P w K mg base CX0 1 "_law_flow" (spFlow K) := ok_flow T D_flow
  have PI : DefOk P w K mg base CX0 1 "_law_pick" spPick := ok_pick T D_pick
  have DO := ok_doors (P := P) (w := w) (K := K) (base := base) T PI D_doors
  have P3 := ok_is_pair (P := P) (w := w) (base := base) T XT O2 D_is_pair
  have DL := ok_doors_left (P := P) (w := w) (base := base) T XT D_doors_left
  have L4 := ok_is_load T XT P3 D_is_load
  have S5 := ok_is_standing T XT L4 DL D_is_standing
  have C6 := ok_check_standing TS S5 D_check_standing
  have C4 := ok_check_pair TP P3 D_check_pair
  have F1 := ok_is_free (P := P) (w := w) (K := K) (base := base) T D_is_free
  have F2 := ok_free_for T F1 D_free_for
  have LF := ok_lfree (P := P) (w := w) (K := K) (base := base) T D_free
  have N1' := no_open_pairs (P := P) (w := w) (K := K) (base := base) D_open_pairs
  have N2 := no_check_doors (P := P) (w := w) (K := K) (base := base) D_check_doors
  have N3 := no_placed (P := P) (w := w) (K := K) (base := base) D_placed
  have N4 := no_unplaced (P := P) (w := w) (K := K) (base := base) D_unplaced
  have N5 := no_check_without (P := P) (w := w) (K := K) (base := base) D_check_without
  have N6 := no_chain_steps (P := P) (w := w) (K := K) (base := base) D_chain_steps
  have AS := ok_ask (ok_calls T C6 D_calls) (ok_free_doors C6 DL D_free_doors) (ok_shape T C6 D_shape) (ok_free_middles C6 C4 F2 D_free_middles) (ok_barred C6 C4 N1' F2 D_barred) (ok_with_call C6 C4 N2 O1 F2 N3 D_with_call) (ok_chain C6 C4 N5 N6 D_chain) (ok_without_call C6 C4 O2 N4 D_without_call) D_ask
  have RF := ok_refused TS TP (exm_no eS_ex eS_ic eS_ty n_PS) AS D_refused
  exact ok_law_fn T XT Ot (kit_type (by decide +kernel) x_xT rfl) FL PI (ok_lexchange PI DO N1 D_exchange) (ok_lloads T PI LF D_loads) NS RF (fun_mk (st := s_law) l_law c_law k_law)
theorem walk {l : PySem.W.OpenLaw} {q : Program} {loose : List Str} {XP : (Str → Option Value) → Heap → Prop} {YP : World → Heap → Prop} {d : DefRec} {K : Params → PySem.W.Frag} (hn : l.most = some 63) (hdf : d.params.defaults = [])
    (hY : ∀ (w : World) (h : Heap), YP w h → (K w.params).In h)
    (F : ∀ (w : World) (mg : Str → Option Value) (fa : Addr) (h : Heap), (K w.params).In h → h.Ns mainGlobals mg → mg d.name = some (.ref fa) →
      ∃ fd : FuncData, (∀ (s : Shared) (u : Value), BindsTo s fd ⟨[u], []⟩ [("_law_script", u)]) ∧ ∀ base : Heap, (K w.params).In base → base.Ns mainGlobals mg → FnOk l.prog w (K w.params) mg base CX0 11 fa fd ["_law_script"] (spLaw (K w.params))) :
    PySem.W.WalkO q loose XP YP l.row.toRowW d [] (fun f vs => PySem.call f vs) :=
  L2.walk_of (n := 63) (k := 11) (x := "_law_script") (CX := fun _ => CX0) (sp := fun w => spLaw (K w.params)) hn (by decide) hdf ⟨rfl, by decide, by decide⟩ hY F (fun _ _ a ns hl _ hS => ⟨a, ns, rfl, hS, hl, fun _ => rfl⟩) fun _ _ _ _ _ z => z
end K06
open PySem PySem.W PyProof.Rows
set_option maxRecDepth 100000 in
set_option maxHeartbeats 0 in
theorem PySem.Challenge.cw_callsthrough_k06_questions_are_refused_holds : PySem.Challenge.rw_callsthrough_k06_questions_are_refused.Holds := by
  w_on; o_law; k_head; (case hw => w_witness2)
  k_fill
  refine K06.walk (l := PySem.Challenge.rw_callsthrough_k06_questions_are_refused) rfl rfl (fun w h Y => PySem.W.kIn_of Y) ?F
  case F =>
    intro w mg fa h KX G hmg
    refine' K06.all_mk KX G hmg ?a_Exchange ?a_Share ?a_NoStanding ?a_NoPair ?a_is_plain_int ?l_is_plain_int ?c_is_plain_int ?k_is_plain_int ?a_is_int_within ?l_is_int_within ?c_is_int_within ?k_is_int_within ?a_is_pair ?l_is_pair ?c_is_pair ?k_is_pair ?a_is_load ?l_is_load ?c_is_load ?k_is_load ?a_is_free ?l_is_free ?c_is_free ?k_is_free ?a_doors_left ?l_doors_left ?c_doors_left ?k_doors_left ?a_open_pairs ?l_open_pairs ?c_open_pairs ?k_open_pairs ?a_free_for ?l_free_for ?c_free_for ?k_free_for ?a_placed ?l_placed ?c_placed ?k_placed ?a_unplaced ?l_unplaced ?c_unplaced ?k_unplaced ?a_is_standing ?l_is_standing ?c_is_standing ?k_is_standing ?a_check_standing ?l_check_standing ?c_check_standing ?k_check_standing ?a_check_pair ?l_check_pair ?c_check_pair ?k_check_pair ?a_check_doors ?l_check_doors ?c_check_doors ?k_check_doors ?a_calls ?l_calls ?c_calls ?k_calls ?a_free_doors ?l_free_doors ?c_free_doors ?k_free_doors ?a_free_middles ?l_free_middles ?c_free_middles ?k_free_middles ?a_barred ?l_barred ?c_barred ?k_barred ?a_with_call ?l_with_call ?c_with_call ?k_with_call ?a_without_call ?l_without_call ?c_without_call ?k_without_call ?a_shape ?l_shape ?c_shape ?k_shape ?a_chain_steps ?l_chain_steps ?c_chain_steps ?k_chain_steps ?a_chain ?l_chain ?c_chain ?k_chain ?a_check_without ?l_check_without ?c_check_without ?k_check_without ?a_is_side ?l_is_side ?c_is_side ?k_is_side ?a_flow ?l_flow ?c_flow ?k_flow ?a_pick ?l_pick ?c_pick ?k_pick ?a_doors ?l_doors ?c_doors ?k_doors ?a_free ?l_free ?c_free ?k_free ?a_loads ?l_loads ?c_loads ?k_loads ?a_exchange ?l_exchange ?c_exchange ?k_exchange ?a_ask ?l_ask ?c_ask ?k_ask ?a_refused ?l_refused ?c_refused ?k_refused ?a_law ?l_law ?c_law ?k_law ?a_Exchange_init ?i_Exchange_init ?l_Exchange_init ?c_Exchange_init ?k_Exchange_init ?x_pg ?x_hd ?x_po ?x_sa ?x_mk ?x_kc ?x_ca ?x_cm ?x_ic ?x_ty ?x_sI ?x_fS ?x_xI ?x_n_ins ?x_n_outs ?x_n_middles ?s_pg ?s_hd ?s_po ?s_sa ?s_mk ?s_kc ?s_ca ?s_cm ?s_ic ?s_ty ?s_sI ?s_fS ?s_xI ?s_n_top ?s_n_bottom ?cn ?ct ?x_sT ?x_fT ?x_fI ?s_xT ?i_a ?i_f ?i_l ?i_c ?i_k ?i_t ?g_gcd ?e_op ?p_t ?n_PS ?x_xT ?eS_cls ?eS_sup ?eS_sVE ?eS_own ?eS_sa ?eS_ga ?eS_gg ?eS_no ?eS_i ?eS_t ?eS_k ?eS_ex ?eS_ty ?eS_hd ?eS_ic ?eS_ss ?eS_l ?eS_c ?eS_cc ?eS_cd ?eS_v2 ?pS_f ?eP_cls ?eP_sup ?eP_sVE ?eP_own ?eP_sa ?eP_ga ?eP_gg ?eP_no ?eP_i ?eP_t ?eP_k ?eP_ex ?eP_ty ?eP_hd ?eP_ic ?eP_ss ?eP_l ?eP_c ?eP_cc ?eP_cd ?eP_v2 ?pP_f ?z_len ?z_abs ?z_int ?z_bool ?z_tuple ?z_list ?z_isinstance ?z_all ?z_range ?z_set ?z_sorted ?z_min ?z_max ?z_enumerate ?z_super ?y_MOST_SWITCHES ?y_MOST_DOORS ?y_MOST_MIDDLES
    (case a_Exchange => k_is)
    (case a_Share => k_is)
    (case a_NoStanding => k_is)
    (case a_NoPair => k_is)
    (case a_is_plain_int => k_is)
    (case l_is_plain_int => k_is)
    (case c_is_plain_int => k_is)
    (case k_is_plain_int => k_is)
    (case a_is_int_within => k_is)
    (case l_is_int_within => k_is)
    (case c_is_int_within => k_is)
    (case k_is_int_within => k_is)
    (case a_is_pair => k_is)
    (case l_is_pair => k_is)
    (case c_is_pair => k_is)
    (case k_is_pair => k_is)
    (case a_is_load => k_is)
    (case l_is_load => k_is)
    (case c_is_load => k_is)
    (case k_is_load => k_is)
    (case a_is_free => k_is)
    (case l_is_free => k_is)
    (case c_is_free => k_is)
    (case k_is_free => k_is)
    (case a_doors_left => k_is)
    (case l_doors_left => k_is)
    (case c_doors_left => k_is)
    (case k_doors_left => k_is)
    (case a_open_pairs => k_is)
    (case l_open_pairs => k_is)
    (case c_open_pairs => k_is)
    (case k_open_pairs => k_is)
    (case a_free_for => k_is)
    (case l_free_for => k_is)
    (case c_free_for => k_is)
    (case k_free_for => k_is)
    (case a_placed => k_is)
    (case l_placed => k_is)
    (case c_placed => k_is)
    (case k_placed => k_is)
    (case a_unplaced => k_is)
    (case l_unplaced => k_is)
    (case c_unplaced => k_is)
    (case k_unplaced => k_is)
    (case a_is_standing => k_is)
    (case l_is_standing => k_is)
    (case c_is_standing => k_is)
    (case k_is_standing => k_is)
    (case a_check_standing => k_is)
    (case l_check_standing => k_is)
    (case c_check_standing => k_is)
    (case k_check_standing => k_is)
    (case a_check_pair => k_is)
    (case l_check_pair => k_is)
    (case c_check_pair => k_is)
    (case k_check_pair => k_is)
    (case a_check_doors => k_is)
    (case l_check_doors => k_is)
    (case c_check_doors => k_is)
    (case k_check_doors => k_is)
    (case a_calls => k_is)
    (case l_calls => k_is)
    (case c_calls => k_is)
    (case k_calls => k_is)
    (case a_free_doors => k_is)
    (case l_free_doors => k_is)
    (case c_free_doors => k_is)
    (case k_free_doors => k_is)
    (case a_free_middles => k_is)
    (case l_free_middles => k_is)
    (case c_free_middles => k_is)
    (case k_free_middles => k_is)
    (case a_barred => k_is)
    (case l_barred => k_is)
    (case c_barred => k_is)
    (case k_barred => k_is)
    (case a_with_call => k_is)
    (case l_with_call => k_is)
    (case c_with_call => k_is)
    (case k_with_call => k_is)
    (case a_without_call => k_is)
    (case l_without_call => k_is)
    (case c_without_call => k_is)
    (case k_without_call => k_is)
    (case a_shape => k_is)
    (case l_shape => k_is)
    (case c_shape => k_is)
    (case k_shape => k_is)
    (case a_chain_steps => k_is)
    (case l_chain_steps => k_is)
    (case c_chain_steps => k_is)
    (case k_chain_steps => k_is)
    (case a_chain => k_is)
    (case l_chain => k_is)
    (case c_chain => k_is)
    (case k_chain => k_is)
    (case a_check_without => k_is)
    (case l_check_without => k_is)
    (case c_check_without => k_is)
    (case k_check_without => k_is)
    (case a_is_side => k_is)
    (case l_is_side => k_is)
    (case c_is_side => k_is)
    (case k_is_side => k_is)
    (case a_flow => k_is)
    (case l_flow => k_is)
    (case c_flow => k_is)
    (case k_flow => k_is)
    (case a_pick => k_is)
    (case l_pick => k_is)
    (case c_pick => k_is)
    (case k_pick => k_is)
    (case a_doors => k_is)
    (case l_doors => k_is)
    (case c_doors => k_is)
    (case k_doors => k_is)
    (case a_free => k_is)
    (case l_free => k_is)
    (case c_free => k_is)
    (case k_free => k_is)
    (case a_loads => k_is)
    (case l_loads => k_is)
    (case c_loads => k_is)
    (case k_loads => k_is)
    (case a_exchange => k_is)
    (case l_exchange => k_is)
    (case c_exchange => k_is)
    (case k_exchange => k_is)
    (case a_ask => k_is)
    (case l_ask => k_is)
    (case c_ask => k_is)
    (case k_ask => k_is)
    (case a_refused => k_is)
    (case l_refused => k_is)
    (case c_refused => k_is)
    (case k_refused => k_is)
    (case a_law => k_is)
    (case l_law => k_is)
    (case c_law => k_is)
    (case k_law => k_is)
    (case a_Exchange_init => k_is)
    (case i_Exchange_init => k_is)
    (case l_Exchange_init => k_is)
    (case c_Exchange_init => k_is)
    (case k_Exchange_init => k_is)
    (case x_pg => k_is)
    (case x_hd => k_is)
    (case x_po => k_is)
    (case x_sa => k_is)
    (case x_mk => k_is)
    (case x_kc => k_is)
    (case x_ca => k_is)
    (case x_cm => k_is)
    (case x_ic => k_is)
    (case x_ty => k_is)
    (case x_sI => k_is)
    (case x_fS => k_is)
    (case x_xI => k_is)
    (case x_n_ins => k_is)
    (case x_n_outs => k_is)
    (case x_n_middles => k_is)
    (case s_pg => k_is)
    (case s_hd => k_is)
    (case s_po => k_is)
    (case s_sa => k_is)
    (case s_mk => k_is)
    (case s_kc => k_is)
    (case s_ca => k_is)
    (case s_cm => k_is)
    (case s_ic => k_is)
    (case s_ty => k_is)
    (case s_sI => k_is)
    (case s_fS => k_is)
    (case s_xI => k_is)
    (case s_n_top => k_is)
    (case s_n_bottom => k_is)
    (case cn => k_is)
    (case ct => k_is)
    (case x_sT => k_is)
    (case x_fT => k_is)
    (case x_fI => k_is)
    (case s_xT => k_is)
    (case i_a => k_is)
    (case i_f => k_is)
    (case i_l => k_is)
    (case i_c => k_is)
    (case i_k => k_is)
    (case i_t => k_is)
    (case g_gcd => k_is)
    (case e_op => k_is)
    (case p_t => first | decide +kernel | rfl)
    (case n_PS => k_is)
    (case x_xT => k_is)
    (case eS_cls => k_is)
    (case eS_sup => ks_is)
    (case eS_sVE => k_is)
    (case eS_own => first | k_is | rfl | decide +kernel)
    (case eS_sa => k_is)
    (case eS_ga => k_is)
    (case eS_gg => k_is)
    (case eS_no => k_is)
    (case eS_i => k_is)
    (case eS_t => k_is)
    (case eS_k => k_is)
    (case eS_ex => k_is)
    (case eS_ty => k_is)
    (case eS_hd => k_is)
    (case eS_ic => k_is)
    (case eS_ss => first | rfl | k_is)
    (case eS_l => k_is)
    (case eS_c => k_is)
    (case eS_cc => k_is)
    (case eS_cd => k_is)
    (case eS_v2 => rfl)
    (case pS_f => first | decide +kernel | rfl)
    (case eP_cls => k_is)
    (case eP_sup => ks_is)
    (case eP_sVE => k_is)
    (case eP_own => first | k_is | rfl | decide +kernel)
    (case eP_sa => k_is)
    (case eP_ga => k_is)
    (case eP_gg => k_is)
    (case eP_no => k_is)
    (case eP_i => k_is)
    (case eP_t => k_is)
    (case eP_k => k_is)
    (case eP_ex => k_is)
    (case eP_ty => k_is)
    (case eP_hd => k_is)
    (case eP_ic => k_is)
    (case eP_ss => first | rfl | k_is)
    (case eP_l => k_is)
    (case eP_c => k_is)
    (case eP_cc => k_is)
    (case eP_cd => k_is)
    (case eP_v2 => rfl)
    (case pP_f => first | decide +kernel | rfl)
    (case z_len => k_is)
    (case z_abs => k_is)
    (case z_int => k_is)
    (case z_bool => k_is)
    (case z_tuple => k_is)
    (case z_list => k_is)
    (case z_isinstance => k_is)
    (case z_all => k_is)
    (case z_range => k_is)
    (case z_set => k_is)
    (case z_sorted => k_is)
    (case z_min => k_is)
    (case z_max => k_is)
    (case z_enumerate => k_is)
    (case z_super => k_is)
    (case y_MOST_SWITCHES => k_is)
    (case y_MOST_DOORS => k_is)
    (case y_MOST_MIDDLES => k_is)
