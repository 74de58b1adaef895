import PyProof.Rows.All
import Wide.All
import OpenK.AllK
import Wide.FinOn
import HandS.ForMost
import HandS.IsInst
import HandS.Wide
import HandS.More
import HandS.SlotsOwn
import HandS.ClsMeth
import HandS.TupMul
import HandS.TupAny
import HandS.Gcd
import HandS.MakeKw
import HandS.Defaults
import KE.KExcSuper
import KE.KSuper
import HandS.Exc
import HandS.ExcField
import HandS.ExcOwn
import HandS.WordsExc
import KE.RegKSuper
import PySem.Challenge.RW_callsthrough_k00_share_lowest_terms
set_option Elab.async false
set_option linter.all false
set_option maxRecDepth 100000
set_option maxHeartbeats 4000000
/-! Words of our own over the hand layer: a def by its name, its promise, its call; an own == . -/
namespace Com
open PySem PySem.Spec PyProof.Rows L2
/-! ### a def of the module, a method, a class, by their names -/
/-- the module has the name x of the def st -/
structure DefAt (K : PySem.W.Frag) (mg : Str → Option Value) (x : Str) (st : Stmt) (ps : List Str) : Prop where
  ex : ∃ (f : Addr) (fd : FuncData), Fun K x x st f fd ∧ mg x = some (.ref f) ∧ Binds K fd ps []
/-- the class at C has the method m, the def st -/
structure MethAt (K : PySem.W.Frag) (C : Addr) (m qual : Str) (st : Stmt) (ps : List Str) : Prop where
  ex : ∃ (f : Addr) (fd : FuncData), Fun K m qual st f fd ∧ Meth K C m f ∧ Binds K fd ps []
/-- the promises -/
structure DefOk (P : Program) (w : World) (K : PySem.W.Frag) (mg : Str → Option Value) (base : Heap) (CX : CXT) (k : Nat) (x : Str) (sp : Sp) : Prop where
  ex : ∃ f : Addr, FnR P w K mg base CX k f sp ∧ mg x = some (.ref f) ∧ PySem.W.keepIn K (.ref f) = true
structure MethOk (P : Program) (w : World) (K : PySem.W.Frag) (mg : Str → Option Value) (base : Heap) (CX : CXT) (k : Nat) (C : Addr) (m : Str) (sp : Sp) : Prop where
  ex : ∃ f : Addr, FnR P w K mg base CX k f sp ∧ Meth K C m f
structure NewOk (P : Program) (w : World) (K : PySem.W.Frag) (mg : Str → Option Value) (base : Heap) (CX : CXT) (k : Nat) (x : Str) (C : Addr) (sp : Sp) : Prop where
  ex : ∃ f : Addr, FnR P w K mg base CX k f sp ∧ Mk K C f
  mg : mg x = some (.ref C)
theorem DefAt.of {K : PySem.W.Frag} {mg : Str → Option Value} {h : Heap} {x : Str} {st : Stmt} {ps : List Str} {f : Addr} {oc : Value} {od an : Option Addr} {osl : Array (Option Value)} {kV doc pm cdv ct : Value}
    (X : K.In h) (G : h.Ns mainGlobals mg) (a : PySem.W.nsIn K mainGlobals x = some (some (.ref f)))
    (l : K.lookup f = some ⟨oc, od, .func (PySem.W.fnOf x x (defArgs st) (defBody st) (defScope st) .none kV doc pm an cdv ct), osl⟩) (c : PySem.W.codeIn K cdv x = true) (k : PySem.W.keepIn K (.ref f) = true)
    (b : ∀ (kV doc pm : Value) (an : Option Addr) (cdv ct : Value) (us : List Value), us.length = ps.length → bindArgs (PySem.W.fnOf x x (defArgs st) (defBody st) (defScope st) .none kV doc pm an cdv ct) ⟨us, []⟩ = pure (ps.zip us)) :
    DefAt K mg x st ps := ⟨f, _, fun_mk l c k, PySem.W.mg_of X G a, (fun_mk l c k).binds b⟩
theorem MethAt.of {K : PySem.W.Frag} {C : Addr} {m qual : Str} {st : Stmt} {ps : List Str} {f : Addr} {oc : Value} {od an : Option Addr} {osl : Array (Option Value)} {kV doc pm cdv ct : Value}
    (a : PySem.W.findIn K (.ref C) m = some (some (.ref f))) (i : PySem.W.isFn K (.ref f) = true)
    (l : K.lookup f = some ⟨oc, od, .func (PySem.W.fnOf m qual (defArgs st) (defBody st) (defScope st) .none kV doc pm an cdv ct), osl⟩) (c : PySem.W.codeIn K cdv qual = true) (k : PySem.W.keepIn K (.ref f) = true)
    (b : ∀ (kV doc pm : Value) (an : Option Addr) (cdv ct : Value) (us : List Value), us.length = ps.length → bindArgs (PySem.W.fnOf m qual (defArgs st) (defBody st) (defScope st) .none kV doc pm an cdv ct) ⟨us, []⟩ = pure (ps.zip us)) :
    MethAt K C m qual st ps := ⟨f, _, fun_mk l c k, ⟨a, i, k⟩, (fun_mk l c k).binds b⟩
theorem raw0 {P : Program} {w : World} {K : PySem.W.Frag} {mg : Str → Option Value} {base : Heap} {CX : CXT} {k : Nat} {f : Addr} {fd : FuncData} {ps : List Str} {sp : Sp} (F : FnOk P w K mg base CX k f fd ps sp) (b : Binds K fd ps []) : FnR P w K mg base CX k f sp :=
  (F.raw (ds := []) (dvs := []) b .nil).imp fun vs H Q E h => by rw [List.append_nil]; exact h
section
variable {P : Program} {w : World} {K : PySem.W.Frag} {mg : Str → Option Value} {base : Heap} {x qual : Str} {C : Addr} {st : Stmt} {ps N : List Str} {k : Nat} {sp : Sp}
theorem DefAt.ok (D : DefAt K mg x st ps) (S : FnScope N ps (defScope st)) (len : ∀ vs H Q E, sp vs H Q E → vs.length = ps.length)
    (hbody : ∀ (f : Addr) (cdv : Value) (A : Around) (outer : List Env) (s : Shared) (H : Hp) (vs : List V) (Q : VK) (E : XK), Room k (A.deeper (envOfC x (defScope st) s.heap.objs.size f cdv)) → sp vs H Q E →
      ∃ t, PSs (cxOf CX0 P w K mg base N x (defScope st) f cdv A outer s H E).nox (defBody st) t ∧ t { nx := fun _ H' => Q .non H', rt := Q } (start N vs) H) : DefOk P w K mg base CX0 (k + 1) x sp := by
  obtain ⟨f, fd, F, m, b⟩ := D.ex
  exact ⟨f, raw0 (F.ok S len (fun cdv A outer s H vs Q E hr h => hbody f cdv A outer s H vs Q E hr h)) b, m, F.kp⟩
theorem MethAt.fn (D : MethAt K C x qual st ps) (S : FnScope N ps (defScope st)) (len : ∀ vs H Q E, sp vs H Q E → vs.length = ps.length)
    (hbody : ∀ (f : Addr) (cdv : Value) (A : Around) (outer : List Env) (s : Shared) (H : Hp) (vs : List V) (Q : VK) (E : XK), Room k (A.deeper (envOfC qual (defScope st) s.heap.objs.size f cdv)) → sp vs H Q E →
      ∃ t, PSs (cxOf CX0 P w K mg base N qual (defScope st) f cdv A outer s H E).nox (defBody st) t ∧ t { nx := fun _ H' => Q .non H', rt := Q } (start N vs) H) : MethOk P w K mg base CX0 (k + 1) C x sp := by
  obtain ⟨f, fd, F, m, b⟩ := D.ex
  exact ⟨f, raw0 (F.ok S len (fun cdv A outer s H vs Q E hr h => hbody f cdv A outer s H vs Q E hr h)) b, m⟩
theorem DefOk.mono {CX : CXT} {j : Nat} (D : DefOk P w K mg base CX j x sp) (h : j ≤ k) : DefOk P w K mg base CX k x sp := let ⟨f, F, m, kp⟩ := D.ex; ⟨f, F.mono h, m, kp⟩
theorem MethOk.mono {CX : CXT} {j : Nat} (D : MethOk P w K mg base CX j C x sp) (h : j ≤ k) : MethOk P w K mg base CX k C x sp := let ⟨f, F, m⟩ := D.ex; ⟨f, F.mono h, m⟩
/-- an __init__ makes its class makeable -/
theorem MethOk.new {CX : CXT} (D : MethOk P w K mg base CX k C "__init__" sp) (mk : PySem.W.makesIn K C = true) (kc : PySem.W.keepIn K (.ref C) = true) (hm : mg x = some (.ref C)) : NewOk P w K mg base CX k x C sp :=
  let ⟨f, F, m⟩ := D.ex; ⟨⟨f, F, ⟨mk, m.at_, m.fn, kc⟩⟩, hm⟩
end
/-! ### calls -/
def tDef (sp : Sp) (E : XK) (t : TA) : TE := fun σ H Q => t σ H fun vs H1 => sp vs H1 Q E
def tNew (C : Addr) (sp : Sp) (E : XK) (t : TA) : TE := fun σ H Q => t σ H fun vs H1 => ∀ x dx, H1 x = none → H1 dx = none → dx ≠ x →
  sp (.ref x :: vs) (upd (upd H1 dx (.own x)) x (.ins C dx [])) (fun v H2 => v = .non ∧ Q (.ref x) H2) E
def tMth (C : Addr) (m : Str) (sp : Sp) (E : XK) (ta : TE) (t : TA) : TE := fun σ H Q => ta σ H fun x H1 => ∃ a dx fs, x = .ref a ∧ H1 a = some (.ins C dx fs) ∧ fs.lookup m = none ∧ t σ H1 fun vs H2 => sp (x :: vs) H2 Q E
section
variable {X : Cx} {CX : CXT} {k j : Nat} {C f : Addr} {sp : Sp} {E : XK} {x m : Str} {p pos apos : Pos} {o e : Expr} {es : List Expr} {ta : TE} {t : TA} {i : Nat}
theorem runR {pins : List (Addr × Obj)} {σ : L2.St} {H : Hp} {s : Shared} {Q : VK} {us : List Value} {vs : List V} (F : FnR X.prog X.w X.K X.mg X.base CX j f sp) (hr : Room k X.A) (hjk : j ≤ k) (hx : Passes CX X E) (I : Inv X pins σ H s) (r : Vals vs us) (h : sp vs H Q E) :
    wpAny (model X.prog X.w) X.A (call (.ref f) us) (EP X pins σ Q) X.xe s := wpAny_call (run_fnR F (hr.mono hjk) hx I r h)
theorem pe_def (D : DefOk X.prog X.w X.K X.mg X.base CX j x sp) (hr : Room k X.A) (hjk : j ≤ k) (hx : Passes CX X E) (ha : PA X (e :: es) t) (hg : Gl X x := by rfl) (hdb : (x == ("__debug__" : Str)) = false := by decide)
    (he : starEach (e :: es) X.env = (false, eval e X.env) :: starEach es X.env := by rfl) (hpl : (backTo pos (starEach es X.env)).any (·.1) = false := by rfl) :
    PE X (.Call (.Name x p) (e :: es) [] pos) (tDef sp E t) := by
  obtain ⟨f, F, m, kp⟩ := D.ex
  refine ⟨fun pins s σ H Q I h => ?_⟩
  refine wpAny_Call_Name_kw (ld_glob I hg m ?_ hdb)
  refine PySem.W.callWith_K (h₀ := X.base) I.ok.mod.kin kp (thn (ha.run pos pins s σ H _ I h) fun us s1 ⟨vs, H1, I1, r, q⟩ => ⟨I1.kIn, ?_⟩) he hpl
  exact runR F hr hjk hx I1 r q
theorem runNew {pins : List (Addr × Obj)} {σ : L2.St} {H : Hp} {s : Shared} {Q : VK} {us : List Value} {vs : List V} (M : Mk X.K C f) (F : FnR X.prog X.w X.K X.mg X.base CX j f sp) (hr : Room (k + 1) X.A) (hjk : j ≤ k)
    (hx : Passes CX X E) (I : Inv X pins σ H s) (r : Vals vs us)
    (h : ∀ x dx, H x = none → H dx = none → dx ≠ x → sp (.ref x :: vs) (upd (upd H dx (.own x)) x (.ins C dx [])) (fun v H2 => v = .non ∧ Q (.ref x) H2) E) :
    wpAny (model X.prog X.w) X.A (call (.ref C) us) (EP X pins σ Q) X.xe s := by
  have hq := h (s.heap.objs.size + 1) s.heap.objs.size (I.hok.fresh (Nat.le_succ _)) (I.hok.fresh (Nat.le_refl _)) (Nat.ne_of_lt (Nat.lt_succ_self _))
  have I2 := Inv.made (C := C) I
  have r2 : Vals (V.ref (s.heap.objs.size + 1) :: vs) (Value.ref (s.heap.objs.size + 1) :: us) := .cons rfl r
  refine wpAny_call (make_map (f := f) I.kIn M.makes M.init (beq_iff_eq.mp M.fn) (codeAny_mono (F _ X.stack _ _ (Value.ref (s.heap.objs.size + 1) :: us) _ _ E ((hr.make C us []).mono hjk)
    (I2.env0.make C us []) r2 hq) fun r s' hq' => ?_))
  cases r with
  | error e => exact hx pins σ _ _ e s' I2 hq'
  | ok fl =>
    cases fl with
    | ret u =>
      obtain ⟨v, H', I3, rv, ev, q3⟩ := I2.after hq'
      subst ev
      exact ⟨rv, ⟨V.ref (s.heap.objs.size + 1), H', I3, rfl, q3⟩⟩
    | next => exact False.elim hq'
    | brk => exact False.elim hq'
    | cont => exact False.elim hq'
theorem pe_new (M : NewOk X.prog X.w X.K X.mg X.base CX j x C sp) (hr : Room (k + 1) X.A) (hjk : j ≤ k) (hx : Passes CX X E) (ha : PA X (e :: es) t) (hg : Gl X x := by rfl) (hdb : (x == ("__debug__" : Str)) = false := by decide)
    (he : starEach (e :: es) X.env = (false, eval e X.env) :: starEach es X.env := by rfl) (hpl : (backTo pos (starEach es X.env)).any (·.1) = false := by rfl) :
    PE X (.Call (.Name x p) (e :: es) [] pos) (tNew C sp E t) := by
  obtain ⟨f, F, M1⟩ := M.ex
  refine ⟨fun pins s σ H Q I h => ?_⟩
  refine wpAny_Call_Name_kw (ld_glob I hg M.mg ?_ hdb)
  refine PySem.W.callWith_K (h₀ := X.base) I.ok.mod.kin M1.kp (thn (ha.run pos pins s σ H _ I h) fun us s1 ⟨vs, H1, I1, r, q⟩ => ⟨I1.kIn, ?_⟩) he hpl
  exact runNew M1 F hr hjk hx I1 r q
/-- the class stands in the i-th slot (cls of a classmethod) -/
def tNewL (i : Nat) (C : Addr) (sp : Sp) (E : XK) (t : TA) : TE := fun σ H Q => σ[i]? = some (some (.ref C)) ∧ tNew C sp E t σ H Q
theorem pe_newL {y : Str} (M : NewOk X.prog X.w X.K X.mg X.base CX j y C sp) (hr : Room (k + 1) X.A) (hjk : j ≤ k) (hx : Passes CX X E) (ha : PA X (e :: es) t) (hN : X.N[i]? = some x := by rfl) (hv : Vis X.env.scope x := by first | exact Or.inl rfl | exact Or.inr (Or.inl rfl) | exact Or.inr (Or.inr rfl))
    (hdb : (x == ("__debug__" : Str)) = false := by decide) (hcd : (x == ("__classdict__" : Str)) = false := by decide)
    (he : starEach (e :: es) X.env = (false, eval e X.env) :: starEach es X.env := by rfl) (hpl : (backTo pos (starEach es X.env)).any (·.1) = false := by rfl) :
    PE X (.Call (.Name x p) (e :: es) [] pos) (tNewL i C sp E t) := by
  obtain ⟨f, F, M1⟩ := M.ex
  refine ⟨fun pins s σ H Q I h => ?_⟩
  obtain ⟨hs, ht⟩ := h
  refine wpAny_Call_Name_kw (thn ((pe_var (pos := p) hN hv hdb hcd).run pins s σ H (fun v H1 => v = .ref C ∧ H1 = H) I ⟨.ref C, hs, rfl, rfl⟩) fun u s1 ⟨v, H1, I1, r1, q1⟩ => ?_)
  obtain ⟨rfl, rfl⟩ := q1
  cases r1
  refine PySem.W.callWith_K (h₀ := X.base) I.ok.mod.kin M1.kp (thn (ha.run pos pins s1 σ _ _ I1 ht) fun us s2 ⟨vs, H2, I2, r, q⟩ => ⟨I2.kIn, ?_⟩) he hpl
  exact runNew M1 F hr hjk hx I2 r q
theorem pe_mth {pl : Sem Bool} (he : PE X o ta) (c : Cls X.K C) (M : MethOk X.prog X.w X.K X.mg X.base CX j C m sp) (hr : Room k X.A) (hjk : j ≤ k) (hx : Passes CX X E) (ha : PA X (e :: es) t)
    (hst : starEach (e :: es) X.env = (false, eval e X.env) :: starEach es X.env := by rfl) (hpl : (backTo pos (starEach es X.env)).any (·.1) = false := by rfl)
    (ht : eval (.Call (.Attribute o m apos) (e :: es) [] pos) X.env = (do
      let ov ← eval o X.env
      standAt apos.atName
      let (f, first) ← holding [ov] (getMethod ov m pl)
      callWith pos f first (backTo pos (starEach (e :: es) X.env)) (backToKw pos (keywordEach [] X.env))) := by rfl) :
    PE X (.Call (.Attribute o m apos) (e :: es) [] pos) (tMth C m sp E ta t) := by
  obtain ⟨g, F, hm⟩ := M.ex
  refine ⟨fun pins s σ H Q I h => ?_⟩
  refine PySem.W.methodCall_KW (pl := pl) (thn (he.run pins s σ H _ I h) fun u s1 ⟨x, H1, I1, rx, a, dx, fs, ex, ea, l, q⟩ => ?_) ht
  subst ex
  obtain rfl : u = Value.ref a := rx
  refine getmeth_ok I1 ea c hm l ?_
  refine PySem.W.callWith_K (first := [.ref a]) (h₀ := X.base) I.ok.mod.kin hm.kp (thn (ha.run pos pins s1 σ H1 _ I1 q) fun us s2 ⟨vs, H2, I2, r, q2⟩ => ⟨I2.kIn, ?_⟩) hst hpl
  exact runR (us := .ref a :: us) (vs := .ref a :: vs) F hr hjk hx I2 (.cons rfl r) q2
theorem pe_mth0 {pl : Sem Bool} (he : PE X o ta) (c : Cls X.K C) (M : MethOk X.prog X.w X.K X.mg X.base CX j C m sp) (hr : Room k X.A) (hjk : j ≤ k) (hx : Passes CX X E)
    (ht : eval (.Call (.Attribute o m apos) [] [] pos) X.env = (do
      let ov ← eval o X.env
      standAt apos.atName
      let (f, first) ← holding [ov] (getMethod ov m pl)
      callWith pos f first (backTo pos (starEach [] X.env)) (backToKw pos (keywordEach [] X.env))) := by rfl) :
    PE X (.Call (.Attribute o m apos) [] [] pos) (tMth C m sp E ta tNil) := by
  obtain ⟨g, F, hm⟩ := M.ex
  refine ⟨fun pins s σ H Q I h => ?_⟩
  refine PySem.W.methodCall_KW (pl := pl) (thn (he.run pins s σ H _ I h) fun u s1 ⟨x, H1, I1, rx, a, dx, fs, ex, ea, l, q⟩ => ?_) ht
  subst ex
  obtain rfl : u = Value.ref a := rx
  refine getmeth_ok I1 ea c hm l ?_
  exact PySem.W.callWith_K0 (first := [.ref a]) I1.kIn hm.kp (runR (us := [.ref a]) (vs := [.ref a]) F hr hjk hx I1 (.cons rfl .nil) q)
/-- a classmethod, called on the class -/
structure CMethOk (P : Program) (w : World) (K : PySem.W.Frag) (mg : Str → Option Value) (base : Heap) (CX : CXT) (k : Nat) (C : Addr) (m : Str) (sp : Sp) : Prop where
  ex : ∃ (mc : Value) (p g : Addr), ClX.CRead K C mc ∧ ClX.CMet K C mc m p g ∧ FnR P w K mg base CX k g sp
theorem pe_cls {pl : Sem Bool} (he : PE X o ta) (M : CMethOk X.prog X.w X.K X.mg X.base CX j C m sp) (hr : Room k X.A) (hjk : j ≤ k) (hx : Passes CX X E) (ha : PA X (e :: es) t)
    (hst : starEach (e :: es) X.env = (false, eval e X.env) :: starEach es X.env := by rfl) (hpl : (backTo pos (starEach es X.env)).any (·.1) = false := by rfl)
    (ht : eval (.Call (.Attribute o m apos) (e :: es) [] pos) X.env = (do
      let ov ← eval o X.env
      standAt apos.atName
      let (f, first) ← holding [ov] (getMethod ov m pl)
      callWith pos f first (backTo pos (starEach (e :: es) X.env)) (backToKw pos (keywordEach [] X.env))) := by rfl) :
    PE X (.Call (.Attribute o m apos) (e :: es) [] pos) (ClX.tCMeth C sp E ta t) := by
  obtain ⟨mc, p, g, r, c, F⟩ := M.ex
  exact ClX.pe_cmeth he r c F (hr.mono hjk) hx ha hst hpl ht
end
/-- not e, by its truth as a test -/
def tNotP (t : TT) : TE := fun σ H Q => t σ H fun b H1 => Q (.bl (!b)) H1
/-! ### the places of a list, as op= reads them -/
theorem get_list {X : Cx} : PGet X (rIxL X.K) := by
  intro pins s σ H o i ov iv Q I ro ri h
  obtain ⟨p, xs, i, z, rfl, rfl, hq, he, q⟩ := h
  cases ro
  obtain ⟨t, rfl⟩ := ri
  obtain ⟨its, r, pl, hz⟩ := I.list hq
  obtain ⟨j, h1, h2, h3, h4, h5⟩ := atI_get he
  obtain ⟨w, ew, rw'⟩ := r.get h2
  have hl := r.length
  have hn := line63
  have fin : EP X pins σ Q w s := ⟨z, H, I, rw', q⟩
  by_cases h0 : 0 ≤ i
  · have hj : i.toNat = j := by
      rw [seqIndex_of h0 h5] at h1
      exact Option.some.inj h1
    exact wpAny_getItem_list pl.isList h0 (by omega) (by rw [hj]; simpa using ew) fin
  · have hj : (i + (its.toArray.size : Int)).toNat = j := by
      rw [seqIndex_neg (by omega) h4] at h1
      rw [List.size_toArray, ← hl]
      exact Option.some.inj h1
    exact wpAny_getItem_list_neg pl.isList (by omega) (by rw [List.size_toArray] <;> omega) (by omega) (by rw [hj]; simpa using ew) fin
/-! ### an own == -/
/-- x == y, x an instance of the class at C, whose __eq__ promises sp; y of any kind that is not ahead of C -/
def rEqO (K : PySem.W.Frag) (C : Addr) (sp : Sp) (E : XK) : R2 := fun x y H Q => ∃ a dx fs t, x = .ref a ∧ H a = some (.ins C dx fs) ∧ TyX K H y t ∧ PySem.W.notFirst K C t = true ∧ sp [x, y] H Q E
section
variable {X : Cx} {CX : CXT} {k j : Nat} {C : Addr} {sp : Sp} {E : XK}
theorem op_eqO (M : MethOk X.prog X.w X.K X.mg X.base CX j C "__eq__" sp) (hr : Room k X.A) (hjk : j ≤ k) (hx : Passes CX X E) : OpR X (compareOp .Eq) (rEqO X.K C sp E) := by
  obtain ⟨g, F, hm⟩ := M.ex
  intro pins s σ H x y v u Q I rx ry h
  obtain ⟨a, dx, fs, t, rfl, ha, ty, hn, q⟩ := h
  cases (show v = Value.ref a from rx)
  obtain ⟨mA, O, _⟩ := ins_get I.hok ha
  obtain ⟨od, J, _⟩ := O.look
  obtain ⟨P, Z, p, _⟩ := kit_of I ry ty
  obtain ⟨m, hF⟩ := I.fr
  show wpAny (model X.prog X.w) X.A (richCompare .Eq (.ref a) u) (EP X pins σ Q) X.xe s
  refine PySem.W.cmp_K (op := .Eq) (tb := t) hr.units0 hF I.ok.mod.kin J (Z.ty _ _ I.kIn p) hn hm.at_ hm.fn ?_
  refine wpAny_mono (runR (us := [.ref a, u]) (vs := [.ref a, y]) F hr hjk hx I (.cons rfl (.cons ry .nil)) q) (fun w s' z => ?_) fun _ _ x => x
  obtain ⟨z', H', I', rz, qz⟩ := z
  exact SlX.cmpback rz ⟨z', H', I', rz, qz⟩
end
/-! ### types stay -/
theorem TyOf.same {K : PySem.W.Frag} {H H' : Hp} (s : Same H H') {x : V} {t : Value} (h : TyOf K H x t) : TyOf K H' x t := by
  cases h with
  | non => exact .non
  | bl x => exact .bl x
  | int i => exact .int i
  | str x => exact .str x
  | flt x => exact .flt x
  | lst e => exact .lst (s _ _ e)
  | frz e => exact .frz (s _ _ e)
  | tup e => exact .tup (s _ _ e)
  | dK e => exact .dK (s _ _ e)
  | dT e => exact .dT (s _ _ e)
  | ins e cl ha hn htk hm => exact .ins (s _ _ e) cl ha hn htk hm
theorem TyX.same {K : PySem.W.Frag} {H H' : Hp} (s : Same H H') {x : V} {t : Value} (h : TyX K H x t) : TyX K H' x t := by
  cases h with
  | base h => exact .base (TyOf.same s h)
  | byt b => exact .byt b
  | set e => exact .set (s _ _ e)
  | kList e c => exact .kList e c
  | kTuple e c => exact .kTuple e c
  | kDict e c => exact .kDict e c
  | fTuple e => exact .fTuple (s _ _ e)
  | fDict e => exact .fDict (s _ _ e)
end Com
namespace Com
open PySem PySem.Spec PyProof.Rows L2
/-! ### tuples of ints, lists of pairs of ints: as data -/
def tI (ds : List Int) : PyData := .tuple (ds.map .int)
theorem eqvAll_ints : ∀ ds es : List Int, PyData.eqvAll (ds.map .int) (es.map .int) = decide (ds = es)
  | [], [] => rfl
  | [], e :: es => by simp [PyData.eqvAll]
  | d :: ds, [] => by simp [PyData.eqvAll]
  | d :: ds, e :: es => by
    rw [List.map_cons, List.map_cons, PyData.eqvAll, eqvAll_ints ds es, PyData.eqv]
    by_cases h : d = e
    · subst h
      by_cases h2 : ds = es
      · subst h2; simp
      · simp [h2]
    · simp [h]
theorem eqv_tI (ds es : List Int) : PyData.eqv (tI ds) (tI es) = decide (ds = es) := by
  show PyData.eqv (.tuple _) (.tuple _) = _
  rw [PyData.eqv]
  exact eqvAll_ints ds es
theorem lay_ints : ∀ ds : List Int, PyData.canLayAll0 (ds.map .int) = true
  | [] => rfl
  | d :: ds => by rw [List.map_cons, PyData.canLayAll0, PyData.canLay0, lay_ints ds]; rfl
theorem depth_ints : ∀ ds : List Int, PyData.depthAll (ds.map .int) = 0
  | [] => rfl
  | d :: ds => by rw [List.map_cons, PyData.depthAll, PyData.depth, depth_ints ds]; rfl
theorem shaped_tI (ds : List Int) : SeqAt.shaped (tI ds) = true := by
  show (PyData.canLay0 (.tuple _) && decide (PyData.depth (.tuple _) ≤ 64)) = true
  rw [PyData.canLay0, lay_ints, PyData.depth, depth_ints]
  rfl
theorem dpAll_ints {K : PySem.W.Frag} {H : Hp} : ∀ ds : List Int, DpAll K H (ds.map V.int) (ds.map .int)
  | [] => .nil
  | d :: ds => .cons (.int d) (dpAll_ints ds)
theorem dp_tI {K : PySem.W.Frag} {H : Hp} {a : Addr} {ds : List Int} (h : H a = some (.tup (ds.map V.int))) : Dp K H (.ref a) (tI ds) := .tup (SqT.of h) (dpAll_ints ds)
def pD (p : Int × Int) : PyData := tI [p.1, p.2]
def lP (ps : List (Int × Int)) : PyData := .list (ps.map pD)
theorem eqv_pD (p q : Int × Int) : PyData.eqv (pD p) (pD q) = decide (p = q) := by
  unfold pD
  rw [eqv_tI]
  obtain ⟨a, b⟩ := p
  obtain ⟨c, d⟩ := q
  simp
theorem eqvAll_pairs : ∀ ps qs : List (Int × Int), PyData.eqvAll (ps.map pD) (qs.map pD) = decide (ps = qs)
  | [], [] => rfl
  | [], e :: es => by simp [PyData.eqvAll]
  | d :: ds, [] => by simp [PyData.eqvAll]
  | d :: ds, e :: es => by
    rw [List.map_cons, List.map_cons, PyData.eqvAll, eqvAll_pairs ds es, eqv_pD]
    by_cases h : d = e
    · subst h
      by_cases h2 : ds = es
      · subst h2; simp
      · simp [h2]
    · simp [h]
theorem eqv_lP (ps qs : List (Int × Int)) : PyData.eqv (lP ps) (lP qs) = decide (ps = qs) := by
  show PyData.eqv (.list _) (.list _) = _
  rw [PyData.eqv]
  exact eqvAll_pairs ps qs
theorem lay_pairs : ∀ ps : List (Int × Int), PyData.canLayAll0 (ps.map pD) = true
  | [] => rfl
  | d :: ds => by
    rw [List.map_cons, PyData.canLayAll0, lay_pairs ds]
    show (PyData.canLay0 (.tuple _) && true) = true
    rw [PyData.canLay0, lay_ints]
    rfl
theorem depth_pairs : ∀ ps : List (Int × Int), PyData.depthAll (ps.map pD) ≤ 1
  | [] => by rw [List.map_nil, PyData.depthAll]; omega
  | d :: ds => by
    have := depth_pairs ds
    rw [List.map_cons, PyData.depthAll]
    have e : PyData.depth (pD d) = 1 := by
      show PyData.depth (.tuple _) = 1
      rw [PyData.depth, depth_ints]
    omega
theorem shaped_lP (ps : List (Int × Int)) : SeqAt.shaped (lP ps) = true := by
  have h := depth_pairs ps
  show (PyData.canLay0 (.list _) && decide (PyData.depth (.list _) ≤ 64)) = true
  rw [PyData.canLay0, lay_pairs, PyData.depth, Bool.true_and]
  exact decide_eq_true (by omega)
/-- at a list's places tuples of two ints: the pairs ps -/
def PairsV (H : Hp) : List V → List (Int × Int) → Prop := Paired fun v p => ∃ a, v = .ref a ∧ H a = some (.tup [.int p.1, .int p.2])
theorem PairsV.dp {K : PySem.W.Frag} {H : Hp} : ∀ {vs : List V} {ps : List (Int × Int)}, PairsV H vs ps → DpAll K H vs (ps.map pD)
  | _, _, .nil => .nil
  | _, _, .cons ⟨a, e, h⟩ t => by
    subst e
    exact .cons (dp_tI (ds := [_, _]) h) (PairsV.dp t)
theorem PairsV.same {H H' : Hp} (s : Same H H') : ∀ {vs : List V} {ps : List (Int × Int)}, PairsV H vs ps → PairsV H' vs ps
  | _, _, .nil => .nil
  | _, _, .cons ⟨a, e, h⟩ t => .cons ⟨a, e, s _ _ h⟩ (PairsV.same s t)
theorem PairsV.mono {H H' : Hp} (s : ∀ b xs, H b = some (.tup xs) → H' b = some (.tup xs)) : ∀ {vs : List V} {ps : List (Int × Int)}, PairsV H vs ps → PairsV H' vs ps
  | _, _, .nil => .nil
  | _, _, .cons ⟨a, e, h⟩ t => .cons ⟨a, e, s _ _ h⟩ (PairsV.mono s t)
theorem dp_lP {K : PySem.W.Frag} {H : Hp} {a : Addr} {vs : List V} {ps : List (Int × Int)} (h : H a = some (.lst vs)) (p : PairsV H vs ps) : Dp K H (.ref a) (lP ps) := .lst (SqL.of h) p.dp
/-! ### fields -/
theorem putF_nil {f : Str} {v : V} : putF f v [] = [(f, v)] := rfl
theorem putF_ne {f g : Str} {v w : V} {fs : List (Str × V)} (h : ¬ g = f) : putF f v ((g, w) :: fs) = (g, w) :: putF f v fs := by
  show (if g = f then _ else _) = _
  rw [if_neg h]
theorem putF_eq {f : Str} {v w : V} {fs : List (Str × V)} : putF f v ((f, w) :: fs) = (f, v) :: fs := by
  show (if f = f then _ else _) = _
  rw [if_pos rfl]
theorem lk_eq {f : Str} {v : V} {fs : List (Str × V)} : List.lookup f ((f, v) :: fs) = some v := by simp [List.lookup]
theorem lk_ne {f g : Str} {v : V} {fs : List (Str × V)} (h : (f == g) = false) : List.lookup f ((g, v) :: fs) = List.lookup f fs := by simp [List.lookup, h]
theorem ifB {b : Bool} {A B : Prop} (h1 : b = true → A) (h2 : b = false → B) : if b = true then A else B := by
  cases b with
  | true => exact iteT (h1 rfl)
  | false => exact iteF (h2 rfl)
theorem mulm {x m y : Int} (h0 : 0 < m) (h : m < 2 ^ 64) : CMul (x % m) y :=
  .inl ⟨by have := Int.emod_nonneg x (show m ≠ 0 by omega); omega, by have := Int.emod_lt_of_pos x h0; omega⟩
theorem len1 {n : Nat} (h : n ≤ 1000) : n ≤ sizeLine := Nat.le_of_lt (small1000 h)
theorem divW {n size : Int} (h1 : 1 ≤ size) (h2 : size < 2 ^ 200) : CDivW n size := wide_div (b := 200) (by omega) (by
  have : ((2 : Int) ^ 200) = (((2 : Nat) ^ 200 : Nat) : Int) := by decide
  omega) (by decide) (by decide)
/-- all that stood but what stood at a stands; nothing new but .. -/
def But (a : Addr) (H H' : Hp) : Prop := ∀ b, b ≠ a → H' b = H b
theorem But.upd {H : Hp} {p : Addr} {o : HO} : But p H (upd H p o) := fun b hb => upd_ne hb
theorem But.same {H H' : Hp} {p : Addr} (h : But p H H') (n : H p = none) : Same H H' := fun b o e => by rw [h b (ne_of_none e n)]; exact e
theorem Same.upd {H : Hp} {p : Addr} {o : HO} (n : H p = none) : Same H (upd H p o) := fun b u e => by rw [upd_ne (ne_of_none e n)]; exact e
/-- at a the three numbers of a flow of draws -/
def FlowAt (H : Hp) (a : Addr) : Prop := ∃ n c r : Int, H a = some (.lst [.int n, .int c, .int r])
theorem FlowAt.new {H : Hp} {p : Addr} {n c r : Int} : FlowAt (upd H p (.lst [.int n, .int c, .int r])) p := ⟨n, c, r, upd_same⟩
end Com
namespace Com
open PySem PySem.Spec PyProof.Rows L2
/-! ### walks of a comprehension, by an invariant of the heap -/
theorem lp_range {lo : Int} {n : Nat} {H0 : Hp} {Qd : Hp → Prop} {B : V → Hp → (Hp → Prop) → Prop} (Pv : Nat → Hp → Prop) (h0 : Pv 0 H0) (hs : ∀ i H, i < n → Pv i H → B (.int (lo + i)) H (Pv (i + 1))) (hd : ∀ H, Pv n H → Qd H) :
    ∃ W : Nat → Nat → Hp → Prop, (∃ m, W 0 m H0) ∧ ∀ i m H, W i m H → ((Itr lo n).stop i H ∧ Qd H) ∨ ((Itr lo n).go i H ∧ ∃ Nx : Hp → Prop, (∀ H', Nx H' → ∃ m', m' < m ∧ W (i + 1) m' H') ∧ ∀ x H', (Itr lo n).yld i H x H' → B x H' Nx) := by
  refine ⟨fun i m H => m = n - i ∧ i ≤ n ∧ Pv i H, ⟨n, by simp, Nat.zero_le _, h0⟩, ?_⟩
  rintro i m H ⟨rfl, hi, p⟩
  by_cases hlt : i < n
  · refine .inr ⟨hlt, Pv (i + 1), fun H' p' => ⟨n - (i + 1), by omega, rfl, hlt, p'⟩, fun x H' y => ?_⟩
    obtain ⟨e, y⟩ := y
    subst e y
    exact hs i _ hlt p
  · have e : i = n := by omega
    subst e
    exact .inl ⟨Nat.le_refl _, hd H p⟩
theorem lp_tup {K : PySem.W.Frag} {a : Addr} {xs : List V} {H0 : Hp} {Qd : Hp → Prop} {B : V → Hp → (Hp → Prop) → Prop} (Pv : Nat → Hp → Prop) (h0 : Pv 0 H0) (hl : ∀ i H, i ≤ xs.length → Pv i H → SqT K H a xs) (hs : ∀ i x H, xs[i]? = some x → Pv i H → B x H (Pv (i + 1))) (hd : ∀ H, Pv xs.length H → Qd H) :
    ∃ W : Nat → Nat → Hp → Prop, (∃ m, W 0 m H0) ∧ ∀ i m H, W i m H → ((Itt K a).stop i H ∧ Qd H) ∨ ((Itt K a).go i H ∧ ∃ Nx : Hp → Prop, (∀ H', Nx H' → ∃ m', m' < m ∧ W (i + 1) m' H') ∧ ∀ x H', (Itt K a).yld i H x H' → B x H' Nx) := by
  refine ⟨fun i m H => m = xs.length - i ∧ i ≤ xs.length ∧ Pv i H, ⟨xs.length, by simp, Nat.zero_le _, h0⟩, ?_⟩
  rintro i m H ⟨rfl, hi, p⟩
  have q := hl i H hi p
  by_cases hlt : i < xs.length
  · refine .inr ⟨⟨xs, xs[i], q, by simp [hlt]⟩, Pv (i + 1), fun H' p' => ⟨xs.length - (i + 1), by omega, rfl, hlt, p'⟩, fun x H' y => ?_⟩
    obtain ⟨e, y⟩ := y
    subst e
    exact hs i x _ (y xs q) p
  · have e : i = xs.length := by omega
    subst e
    exact .inl ⟨⟨xs, q, Nat.le_refl _⟩, hd H p⟩
theorem lp_list {K : PySem.W.Frag} {a : Addr} {xs : List V} {H0 : Hp} {Qd : Hp → Prop} {B : V → Hp → (Hp → Prop) → Prop} (Pv : Nat → Hp → Prop) (h0 : Pv 0 H0) (hl : ∀ i H, i ≤ xs.length → Pv i H → SqL K H a xs) (hs : ∀ i x H, xs[i]? = some x → Pv i H → B x H (Pv (i + 1))) (hd : ∀ H, Pv xs.length H → Qd H) :
    ∃ W : Nat → Nat → Hp → Prop, (∃ m, W 0 m H0) ∧ ∀ i m H, W i m H → ((Itl K a).stop i H ∧ Qd H) ∨ ((Itl K a).go i H ∧ ∃ Nx : Hp → Prop, (∀ H', Nx H' → ∃ m', m' < m ∧ W (i + 1) m' H') ∧ ∀ x H', (Itl K a).yld i H x H' → B x H' Nx) := by
  refine ⟨fun i m H => m = xs.length - i ∧ i ≤ xs.length ∧ Pv i H, ⟨xs.length, by simp, Nat.zero_le _, h0⟩, ?_⟩
  rintro i m H ⟨rfl, hi, p⟩
  have q := hl i H hi p
  by_cases hlt : i < xs.length
  · refine .inr ⟨⟨xs, xs[i], q, by simp [hlt]⟩, Pv (i + 1), fun H' p' => ⟨xs.length - (i + 1), by omega, rfl, hlt, p'⟩, fun x H' y => ?_⟩
    obtain ⟨e, y⟩ := y
    subst e
    exact hs i x _ (y xs q) p
  · have e : i = xs.length := by omega
    subst e
    exact .inl ⟨⟨xs, q, Nat.le_refl _⟩, hd H p⟩
/-! ### kinds -/
/-- isinstance(x, int) and not isinstance(x, bool): its answer -/
def PlainI (K : PySem.W.Frag) (H : Hp) (x : V) (b : Bool) : Prop := ∃ t b1, TyX K H x t ∧ PySem.W.kitOne K t (.type "int") = some b1 ∧ (b1 = false → b = false) ∧ (b1 = true → ∃ b2, PySem.W.kitOne K t (.type "bool") = some b2 ∧ b = !b2)
theorem PlainI.int {K : PySem.W.Frag} {H : Hp} (i : Int) : PlainI K H (.int i) true := ⟨.type "int", true, .base (.int i), kit_ty (by decide +kernel), (fun h => nomatch h), fun _ => ⟨false, kit_ty (by decide +kernel), rfl⟩⟩
theorem PlainI.same {K : PySem.W.Frag} {H H' : Hp} (s : Same H H') {x : V} {b : Bool} (h : PlainI K H x b) : PlainI K H' x b := let ⟨t, b1, ty, r⟩ := h; ⟨t, b1, TyX.same s ty, r⟩
/-- is x an integer from lo to hi: the answer -/
def InR (K : PySem.W.Frag) (H : Hp) (x : V) (lo hi : Int) (b : Bool) : Prop := (∃ i, x = .int i ∧ b = (decide (lo ≤ i) && decide (i ≤ hi))) ∨ (PlainI K H x false ∧ b = false)
theorem InR.same {K : PySem.W.Frag} {H H' : Hp} (s : Same H H') {x : V} {lo hi : Int} {b : Bool} (h : InR K H x lo hi b) : InR K H' x lo hi b := h.elim .inl fun ⟨p, e⟩ => .inr ⟨p.same s, e⟩
theorem InR.good {K : PySem.W.Frag} {H : Hp} {i lo hi : Int} (h1 : lo ≤ i) (h2 : i ≤ hi) : InR K H (.int i) lo hi true := .inl ⟨i, rfl, by rw [decide_eq_true h1, decide_eq_true h2]; rfl⟩
end Com
namespace Com
open PySem PySem.Spec PyProof.Rows L2
theorem pe_gint {X : Cx} {x : Str} {i : Int} {t : Tok} {pos : Pos} (hg : Gl X x) (hm : X.mg x = some (.int i t)) (hd : (x == ("__debug__" : Str)) = false := by decide) : PE X (.Name x pos) (tC (.int i)) := pe_glob (v := .int i) hg hm ⟨t, rfl⟩ hd
end Com
namespace Com
open PySem PySem.Spec PyProof.Rows L2
theorem pe_gcls {X : Cx} {x : Str} {C : Addr} {pos : Pos} (hg : Gl X x) (hm : X.mg x = some (.ref C)) (hd : (x == ("__debug__" : Str)) = false := by decide) : PE X (.Name x pos) (tC (.ref C)) := pe_glob (v := .ref C) hg hm rfl hd
end Com
namespace Com
open PySem PySem.Spec PyProof.Rows L2
/-- all pairs, ascending -/
def rowL (i m : Nat) : List (Int × Int) := (List.range m).map fun (j : Nat) => ((i : Int), (j : Int))
def pairsL (n m : Nat) : List (Int × Int) := (List.range n).flatMap fun i => rowL i m
theorem rowL_succ (i m : Nat) : rowL i (m + 1) = rowL i m ++ [((i : Int), (m : Int))] := by
  unfold rowL
  rw [List.range_succ, List.map_append]
  rfl
theorem pairsL_succ (n m : Nat) : pairsL (n + 1) m = pairsL n m ++ rowL n m := by
  unfold pairsL
  rw [List.range_succ, List.flatMap_append]
  simp
theorem rowL_len (i m : Nat) : (rowL i m).length = m := by simp [rowL]
theorem pairsL_len (n m : Nat) : (pairsL n m).length = n * m := by
  induction n with
  | zero => simp [pairsL]
  | succ n ih => rw [pairsL_succ, List.length_append, ih, rowL_len, Nat.succ_mul]
end Com
namespace Com
open PySem PySem.Spec PyProof.Rows L2
/-! ### the rules whose readings name the written part, with that part a letter of ours -/
def rLen (K : PySem.W.Frag) : List V → Hp → VK → Prop := fun xs H Q => ∃ p ys, xs = [.ref p] ∧ (SqL K H p ys ∨ SqT K H p ys) ∧ Q (.int (ys.length : Nat)) H
def rListOf (K : PySem.W.Frag) : List V → Hp → VK → Prop := fun xs H Q => ∃ p ys, xs = [.ref p] ∧ (SqL K H p ys ∨ SqT K H p ys) ∧ ∀ l, H l = none → Q (.ref l) (upd H l (.lst ys))
def rTupleOf (K : PySem.W.Frag) : List V → Hp → VK → Prop := fun xs H Q => ∃ p ys, xs = [.ref p] ∧ ((SqL K H p ys ∧ ∀ l, H l = none → Q (.ref l) (upd H l (.tup ys))) ∨ (SqT K H p ys ∧ Q (.ref p) H))
section
variable {X : Cx} {K : PySem.W.Frag} {e o value : Expr} {f : Str} {pos pos' : Pos} {ta tv tl : TE} {tg : Expr}
theorem pe_fldK (K : PySem.W.Frag) (he : PE X e ta) (hb : attributeBase e f X.env (eval e X.env) = eval e X.env := by rfl) (hK : X.K = K := by rfl) : PE X (.Attribute e f pos) (tFld K ta f) := by subst hK; exact pe_fld he hb
theorem ps_fldK (K : PySem.W.Frag) (ha : PE X o ta) (hv : PE X value tv) (hs : swapsWith value (some (.Attribute o f pos')) pos.line X.env = pure false := by rfl) (hK : X.K = K := by rfl) : PS X (.Assign [.Attribute o f pos'] value pos) (sFld K ta tv f) := by subst hK; exact ps_fld ha hv hs
theorem cl_len (K : PySem.W.Frag) (hK : X.K = K := by rfl) : CallR X (.builtin "len") (rLen K) := by subst hK; exact call_len_seq
theorem cl_isi (K : PySem.W.Frag) (hK : X.K = K := by rfl) : CallR X (.builtin "isinstance") (rIsi K) := by subst hK; exact call_isi
theorem cl_list (K : PySem.W.Frag) (hK : X.K = K := by rfl) : CallR X (.type "list") (rListOf K) := by subst hK; exact call_list_of
theorem cl_tuple (K : PySem.W.Frag) (hK : X.K = K := by rfl) : CallR X (.type "tuple") (rTupleOf K) := by subst hK; exact call_tuple_of
theorem cl_all (K : PySem.W.Frag) (hc : X.calm = true := by rfl) (hK : X.K = K := by rfl) : CallR X (.builtin "all") (rAll K) := by subst hK; exact cr_all hc
theorem cl_any (K : PySem.W.Frag) (hc : X.calm = true := by rfl) (hK : X.K = K := by rfl) : CallR X (.builtin "any") (rAny K) := by subst hK; exact cr_any hc
theorem cl_sum (K : PySem.W.Frag) (hc : X.calm = true := by rfl) (hK : X.K = K := by rfl) : CallR X (.builtin "sum") (rSum K) := by subst hK; exact cr_sum hc
theorem ixL (K : PySem.W.Frag) (hK : X.K = K := by rfl) : IxR X (rIxL K) := by subst hK; exact ix_list
theorem ixT (K : PySem.W.Frag) (hK : X.K = K := by rfl) : IxR X (rIxT K) := by subst hK; exact ix_tup
theorem getL (K : PySem.W.Frag) (hK : X.K = K := by rfl) : PGet X (rIxL K) := by subst hK; exact get_list
theorem eqD (K : PySem.W.Frag) (hu : X.A.units + 64 < cLine) (hK : X.K = K := by rfl) : OpR X (compareOp .Eq) (rEqD K) := by subst hK; exact op_eqD hu
theorem neD (K : PySem.W.Frag) (hu : X.A.units + 64 < cLine) (hK : X.K = K := by rfl) : OpR X (compareOp .NotEq) (rNeD K) := by subst hK; exact op_neD hu
theorem inS (K : PySem.W.Frag) (hK : X.K = K := by rfl) : OpR X (compareOp .In) (rIn K false) := by subst hK; exact op_in_seq
theorem notInS (K : PySem.W.Frag) (hK : X.K = K := by rfl) : OpR X (compareOp .NotIn) (rIn K true) := by subst hK; exact op_notIn_seq
theorem piL (K : PySem.W.Frag) {l : Expr} (hl : PE X l tl) (hK : X.K = K := by rfl) : PI X tg l (iList K tl) := by subst hK; exact pi_list hl
theorem piT (K : PySem.W.Frag) {l : Expr} (hl : PE X l tl) (hK : X.K = K := by rfl) : PI X tg l (iTup K tl) := by subst hK; exact pi_tup hl
theorem slA (K : PySem.W.Frag) (hK : X.K = K := by rfl) : SlR X (rSlA K) := by subst hK; exact sl_tupA
theorem slL (K : PySem.W.Frag) (hK : X.K = K := by rfl) : SlR X (rSlL K) := by subst hK; exact sl_list
theorem catA (K : PySem.W.Frag) (hK : X.K = K := by rfl) : OpR X (binaryOp .Add) (rCatA K) := by subst hK; exact op_catA
theorem repT (K : PySem.W.Frag) (hK : X.K = K := by rfl) : OpR X (binaryOp .Mult) (rRepT K) := by subst hK; exact op_repT
theorem eqO (K : PySem.W.Frag) {CX : CXT} {k j : Nat} {C : Addr} {sp : Sp} {E : XK} (M : MethOk X.prog X.w X.K X.mg X.base CX j C "__eq__" sp) (hr : Room k X.A) (hjk : j ≤ k) (hx : Passes CX X E) (hK : X.K = K := by rfl) : OpR X (compareOp .Eq) (rEqO K C sp E) := by subst hK; exact op_eqO M hr hjk hx
end
end Com
namespace Com
open PySem PySem.Spec PyProof.Rows L2
/-! ### tuple * int, any count from 1 on -/
theorem tuple_mul1 (l : Addr) (items : Array Value) (n : Nat) (dd : Option Addr) (sl : Array (Option Value)) (u : Tok) :
    Meets (Builtin.«tuple.__mul__» ⟨[.ref l, .int 1 u], []⟩) (fun _ R s => s.heap.get? l = some { cls := .type "tuple", dict := dd, data := .seq items n, slots := sl } ∧ R (.ok (.ret (.ref l))) s) :=
  .of_wp fun prog w A R s h => by
    obtain ⟨hp, g, d, tk, os⟩ := s
    obtain ⟨hl, h⟩ := h
    have f1 := AutoSeq1.idx_int
    have c1 : (items.isEmpty || (1 : Int) == 1) = true := by simp
    wp_walk using wpAny_loadPart' hl
    repeat (first
      | (refine wpAny_ite_true (decide_eq_true c1) ?_; wp_walk using wpAny_loadPart' hl)
      | (refine wpAny_ite_false (decide_eq_false (by decide)) ?_; wp_walk using wpAny_loadPart' hl))
    exact ⟨_, rfl, h⟩
def rRep1 (K : PySem.W.Frag) : R2 := fun x y H Q => ∃ l xs, x = .ref l ∧ y = .int 1 ∧ SqT K H l xs ∧ Q (.ref l) H
theorem op_rep1 {X : Cx} : OpR X (binaryOp .Mult) (rRep1 X.K) := by
  intro pins s σ H x y v u Q I rx ry h
  obtain ⟨l, xs, rfl, rfl, hT, q⟩ := h
  cases rx
  obtain ⟨t, rfl⟩ := ry
  obtain ⟨its, r, ⟨⟨cls, dd, data, sl⟩, ho, hc, n, hd⟩, hs⟩ := I.tuple hT
  simp only at hc hd
  subst hc hd
  refine wpAny_binaryOp_repeat_ref (T := "tuple") (U := "int") (by decide) ⟨_, ho, rfl⟩ (fun s' => typeIs_int s' 1 t) noFill_tuple_mul F.fills_int_mul F.slot_int_rmul repeat_tuple F.slot_int_index.lookup
    (call_meets F.slot_int_rmul (typeIs_int s 1 t) F.entry_int_rmul (F.args_int_rmul_2 _ _) (int_rmul_tuple 1 t l its.toArray n dd sl)
      ⟨ho, rfl, ⟨_, ho, rfl⟩, call_meets F.slot_tuple_mul ⟨_, ho, rfl⟩ F.entry_tuple_mul (F.args_tuple_mul_2 _ _) (tuple_mul1 l its.toArray n dd sl t) ⟨ho, ?_⟩⟩)
  exact ⟨.ref l, H, I, rfl, q⟩
/-- the repeated tuple stands at p -/
def rRepA (K : PySem.W.Frag) : R2 := fun x y H Q => ∃ l k xs, x = .ref l ∧ y = .int k ∧ H l = some (.tup xs) ∧ xs ≠ [] ∧ 1 ≤ k ∧ k ≤ 1000 ∧ xs.length ≤ 1000 ∧ ∀ p H', (H' p = some (.tup (List.replicate k.toNat xs).flatten)) → Same H H' → Q (.ref p) H'
theorem repA {X : Cx} (K : PySem.W.Frag) (hK : X.K = K := by rfl) : OpR X (binaryOp .Mult) (rRepA K) := by
  subst hK
  intro pins s σ H x y v u Q I rx ry h
  obtain ⟨l, k, xs, e1, e2, hT, hne, h1, h2, hz, q⟩ := h
  by_cases hk : k = 1
  · subst hk
    exact op_rep1 pins s σ H x y v u Q I rx ry ⟨l, xs, e1, e2, SqT.of hT, q l H (by rw [hT]; simp) (Same.refl H)⟩
  · exact op_repT pins s σ H x y v u Q I rx ry ⟨l, k, xs, e1, e2, SqT.of hT, hne, by omega, h2, hz, fun p hp => q p _ upd_same (Com.Same.upd hp)⟩
end Com
namespace Com
open PySem PySem.Spec PyProof.Rows L2
/-! ### tuples: slices, sums, whichever object comes -/
def rCutT : V → Option Int → Option Int → Hp → VK → Prop := fun x lo hi H Q => ∃ a xs, x = .ref a ∧ H a = some (.tup xs) ∧ ∀ p H', H' p = some (.tup (cutV xs lo hi)) → Same H H' → Q (.ref p) H'
theorem slT {X : Cx} : SlR X rCutT := by
  intro x v vl vu lo hi sl Q I rx hs pl pu h
  revert x v vl vu lo hi sl Q I rx hs pl pu h
  intro pins s σ H x v vl vu lo hi sl Q I rx hs pl pu h
  obtain ⟨a, xs, rfl, hx, q⟩ := h
  refine sl_tupA pins s σ H (.ref a) v vl vu lo hi sl Q I rx hs pl pu ⟨a, xs, rfl, SqT.of hx, fun w => q a H ?_ (Same.refl H), fun _ p hp => q p _ upd_same (Com.Same.upd hp)⟩
  have e : cutV xs lo hi = xs := by
    unfold cutV
    rw [w.1, w.2, List.drop_zero, Nat.sub_zero, List.take_length]
  rw [e]
  exact hx
def rCatB : R2 := fun x y H Q => ∃ a b xs ys, x = .ref a ∧ y = .ref b ∧ H a = some (.tup xs) ∧ H b = some (.tup ys) ∧ xs.length + ys.length ≤ 1000 ∧ ∀ p H', H' p = some (.tup (xs ++ ys)) → Same H H' → Q (.ref p) H'
theorem catB {X : Cx} : OpR X (binaryOp .Add) rCatB := by
  intro pins s σ H x y v u Q I rx ry h
  obtain ⟨a, b, xs, ys, e1, e2, ha, hb, hz, q⟩ := h
  refine op_catA pins s σ H x y v u Q I rx ry ⟨a, b, xs, ys, e1, e2, SqT.of ha, SqT.of hb, len1 hz, fun e => q b H ?_ (Same.refl H), fun _ e => q a H ?_ (Same.refl H), fun _ _ p hp => q p _ upd_same (Com.Same.upd hp)⟩
  · rw [e, List.nil_append]; exact hb
  · rw [e, List.append_nil]; exact ha
theorem cut_init (xs : List V) (v : V) : cutV (xs ++ [v]) none (some (-1)) = xs := by
  unfold cutV
  have e : HT.sIx (xs ++ [v]).length (xs ++ [v]).length (some (-1)) = xs.length := by
    show (if (-1 : Int) < 0 then (-1 + ((xs ++ [v]).length : Int)).toNat else min (-1 : Int).toNat (xs ++ [v]).length) = xs.length
    rw [if_pos (by decide), List.length_append, List.length_singleton]
    omega
  rw [e, HT.sIx_none (xs ++ [v]).length 0, List.drop_zero, Nat.sub_zero]
  simp
end Com
namespace Com
open PySem PySem.Spec PyProof.Rows L2
theorem kit_self {K : PySem.W.Frag} {t : Value} : PySem.W.kitOne K t t = some true := by
  unfold PySem.W.kitOne
  rw [if_pos (by simp)]
theorem kit_own {K : PySem.W.Frag} {t : Value} {C : Addr} {b : Bool} (ic : PySem.W.isClsIn K C = true) (ty : PySem.W.typeIn K (.ref C) = some (.type "type")) (s : PySem.W.subIn K t (.ref C) = some b) (ne : (t == Value.ref C) = false) : PySem.W.kitOne K t (.ref C) = some b := by
  unfold PySem.W.kitOne
  rw [ne, if_neg Bool.false_ne_true]
  show (if ((PySem.W.clsIn K C).isSome && PySem.W.typeIn K (.ref C) == some (.type "type")) = true then PySem.W.subIn K t (.ref C) else none) = some b
  have h1 : (PySem.W.clsIn K C).isSome = true := ic
  rw [h1, ty, if_pos (by rfl)]
  exact s
theorem kit_type {K : PySem.W.Frag} {t : Value} {n : String} {b : Bool} (hm : PySem.W.kitMeta n = true) (s : PySem.W.subIn K t (.type n) = some b) (ne : (t == Value.type n) = false) : PySem.W.kitOne K t (.type n) = some b := by
  unfold PySem.W.kitOne
  rw [ne, if_neg Bool.false_ne_true]
  show (if PySem.W.kitMeta n = true then PySem.W.subIn K t (.type n) else none) = some b
  rw [if_pos hm]
  exact s
end Com
set_option Elab.async false
set_option linter.all false
set_option maxRecDepth 100000
set_option maxHeartbeats 4000000
/-! The fraction in lowest terms, as numbers. -/
namespace Num
theorem mul4 (a b c d : Int) : (a * b) * (c * d) = (a * c) * (b * d) := by grind
def gc (t b : Int) : Int := ((Nat.gcd t.natAbs b.natAbs : Nat) : Int)
def cm (t b : Int) : Int := if b < 0 then -gc t b else gc t b
def nt (t b : Int) : Int := t.fdiv (cm t b)
def nb (t b : Int) : Int := b.fdiv (cm t b)
theorem gc_pos {t b : Int} (h : b ≠ 0) : 0 < gc t b := by
  have : 0 < Nat.gcd t.natAbs b.natAbs := Nat.gcd_pos_of_pos_right _ (by omega)
  unfold gc
  omega
theorem cm_ne {t b : Int} (h : b ≠ 0) : cm t b ≠ 0 := by
  have := gc_pos (t := t) h
  unfold cm
  split <;> omega
theorem gc_dvd_t (t b : Int) : gc t b ∣ t := by
  have := Nat.gcd_dvd_left t.natAbs b.natAbs
  exact Int.ofNat_dvd_left.mpr this
theorem gc_dvd_b (t b : Int) : gc t b ∣ b := by
  have := Nat.gcd_dvd_right t.natAbs b.natAbs
  exact Int.ofNat_dvd_left.mpr this
theorem cm_dvd_t (t b : Int) : cm t b ∣ t := by
  unfold cm
  split
  · exact Int.neg_dvd.mpr (gc_dvd_t t b)
  · exact gc_dvd_t t b
theorem cm_dvd_b (t b : Int) : cm t b ∣ b := by
  unfold cm
  split
  · exact Int.neg_dvd.mpr (gc_dvd_b t b)
  · exact gc_dvd_b t b
theorem nt_mul (t b : Int) : nt t b * cm t b = t := Int.fdiv_mul_cancel (cm_dvd_t t b)
theorem nb_mul (t b : Int) : nb t b * cm t b = b := Int.fdiv_mul_cancel (cm_dvd_b t b)
theorem nb_pos {t b : Int} (h : b ≠ 0) : 0 < nb t b := by
  have e := nb_mul t b
  have g := gc_pos (t := t) h
  by_cases hb : b < 0
  · have hc : cm t b < 0 := by
      unfold cm
      rw [if_pos hb]
      omega
    by_cases z : 0 < nb t b
    · exact z
    · have : 0 ≤ nb t b * cm t b := Int.mul_nonneg_of_nonpos_of_nonpos (by omega) (by omega)
      omega
  · have hc : 0 < cm t b := by
      unfold cm
      rw [if_neg hb]
      exact g
    by_cases z : 0 < nb t b
    · exact z
    · have : nb t b * cm t b ≤ 0 := Int.mul_nonpos_of_nonpos_of_nonneg (by omega) (by omega)
      omega
theorem cross (t b : Int) : nt t b * b = nb t b * t := by
  have e1 := nt_mul t b
  have e2 := nb_mul t b
  calc nt t b * b = nt t b * (nb t b * cm t b) := by rw [e2]
    _ = nb t b * (nt t b * cm t b) := by rw [Int.mul_left_comm]
    _ = nb t b * t := by rw [e1]
theorem cm_abs (t b : Int) : (cm t b).natAbs = Nat.gcd t.natAbs b.natAbs := by
  unfold cm gc
  split
  · rw [Int.natAbs_neg, Int.natAbs_natCast]
  · rw [Int.natAbs_natCast]
theorem coprime {t b : Int} (h : b ≠ 0) : Nat.gcd (nt t b).natAbs (nb t b).natAbs = 1 := by
  have e1 := congrArg Int.natAbs (nt_mul t b)
  have e2 := congrArg Int.natAbs (nb_mul t b)
  rw [Int.natAbs_mul, cm_abs] at e1 e2
  have hg : 0 < Nat.gcd t.natAbs b.natAbs := Nat.gcd_pos_of_pos_right _ (by omega)
  have : Nat.gcd ((nt t b).natAbs * Nat.gcd t.natAbs b.natAbs) ((nb t b).natAbs * Nat.gcd t.natAbs b.natAbs) = Nat.gcd t.natAbs b.natAbs := by rw [e1, e2]
  rw [Nat.gcd_mul_right] at this
  exact Nat.eq_of_mul_eq_mul_right hg (by rw [this, Nat.one_mul])
theorem same_nat {p q r s : Nat} (h1 : Nat.gcd p q = 1) (h2 : Nat.gcd r s = 1) (e : p * s = r * q) : q = s := by
  have d1 : q ∣ s := by
    have : q ∣ p * s := by rw [e]; exact Nat.dvd_mul_left q r
    exact Nat.Coprime.dvd_of_dvd_mul_left (show Nat.Coprime q p by rw [Nat.coprime_comm]; exact h1) this
  have d2 : s ∣ q := by
    have : s ∣ r * q := by rw [← e]; exact Nat.dvd_mul_left s p
    exact Nat.Coprime.dvd_of_dvd_mul_left (show Nat.Coprime s r by rw [Nat.coprime_comm]; exact h2) this
  exact Nat.dvd_antisymm d1 d2
theorem same_int {p q r s : Int} (h1 : Nat.gcd p.natAbs q.natAbs = 1) (h2 : Nat.gcd r.natAbs s.natAbs = 1) (hq : 0 < q) (hs : 0 < s) (e : p * s = r * q) : p = r ∧ q = s := by
  have e' := congrArg Int.natAbs e
  rw [Int.natAbs_mul, Int.natAbs_mul] at e'
  have z := same_nat h1 h2 e'
  have hqs : q = s := by omega
  subst hqs
  exact ⟨Int.eq_of_mul_eq_mul_right (by omega) e, rfl⟩
/-- the same fraction: the same numbers -/
theorem unique {t b t2 b2 : Int} (h : b ≠ 0) (h2 : b2 ≠ 0) (e : t * b2 = t2 * b) : nt t b = nt t2 b2 ∧ nb t b = nb t2 b2 := by
  refine same_int (coprime h) (coprime h2) (nb_pos h) (nb_pos h2) ?_
  have c1 := nt_mul t b
  have c2 := nb_mul t b
  have c3 := nt_mul t2 b2
  have c4 := nb_mul t2 b2
  have k : (nt t b * nb t2 b2) * (cm t b * cm t2 b2) = (nt t2 b2 * nb t b) * (cm t b * cm t2 b2) := by
    calc (nt t b * nb t2 b2) * (cm t b * cm t2 b2) = (nt t b * cm t b) * (nb t2 b2 * cm t2 b2) := mul4 ..
      _ = t * b2 := by rw [c1, c4]
      _ = t2 * b := e
      _ = (nt t2 b2 * cm t2 b2) * (nb t b * cm t b) := by rw [c3, c2]
      _ = (nt t2 b2 * nb t b) * (cm t2 b2 * cm t b) := mul4 ..
      _ = (nt t2 b2 * nb t b) * (cm t b * cm t2 b2) := by rw [Int.mul_comm (cm t2 b2)]
  exact Int.eq_of_mul_eq_mul_right (Int.mul_ne_zero (cm_ne h) (cm_ne h2)) k
/-- different fractions: different numbers -/
theorem differ {t b t2 b2 : Int} (h : b ≠ 0) (h2 : b2 ≠ 0) (e1 : nt t b = nt t2 b2) (e2 : nb t b = nb t2 b2) : t * b2 = t2 * b := by
  have c1 := nt_mul t b
  have c2 := nb_mul t b
  have c3 := nt_mul t2 b2
  have c4 := nb_mul t2 b2
  calc t * b2 = (nt t b * cm t b) * (nb t2 b2 * cm t2 b2) := by rw [c1, c4]
    _ = (nt t2 b2 * cm t b) * (nb t b * cm t2 b2) := by rw [e1, e2]
    _ = (nt t2 b2 * cm t2 b2) * (nb t b * cm t b) := by grind
    _ = t2 * b := by rw [c3, c2]
theorem nt_le (t b : Int) (h : b ≠ 0) : (nt t b).natAbs ≤ t.natAbs := by
  have e1 := congrArg Int.natAbs (nt_mul t b)
  rw [Int.natAbs_mul] at e1
  have : 0 < (cm t b).natAbs := by have := cm_ne (t := t) h; omega
  rw [← e1]
  exact Nat.le_mul_of_pos_right _ this
theorem nb_le (t b : Int) (h : b ≠ 0) : (nb t b).natAbs ≤ b.natAbs := by
  have e1 := congrArg Int.natAbs (nb_mul t b)
  rw [Int.natAbs_mul] at e1
  have : 0 < (cm t b).natAbs := by have := cm_ne (t := t) h; omega
  rw [← e1]
  exact Nat.le_mul_of_pos_right _ this
theorem cm_le (t b : Int) (h : b ≠ 0) : (cm t b).natAbs ≤ b.natAbs := by
  rw [cm_abs]
  exact Nat.gcd_le_right _ (by omega)
/-! ### operations on fractions in lowest terms -/
theorem pos_ne {b : Int} (h : 0 < b) : b ≠ 0 := by omega
theorem mul_pos_ne {b d : Int} (h : 0 < b) (h2 : 0 < d) : b * d ≠ 0 := pos_ne (Int.mul_pos h h2)
/-- from cross equations to the sum -/
theorem add_of {a b c d n1 d1 n2 d2 : Int} (hb : 0 < b) (hd : 0 < d) (h1 : 0 < d1) (h2 : 0 < d2) (e1 : n1 * b = d1 * a) (e2 : n2 * d = d2 * c) :
    nt (n1 * d2 + n2 * d1) (d1 * d2) = nt (a * d + c * b) (b * d) ∧ nb (n1 * d2 + n2 * d1) (d1 * d2) = nb (a * d + c * b) (b * d) := by
  refine unique (mul_pos_ne h1 h2) (mul_pos_ne hb hd) ?_
  have k1 : n1 * b * (d2 * d) = d1 * a * (d2 * d) := by rw [e1]
  have k2 : n2 * d * (d1 * b) = d2 * c * (d1 * b) := by rw [e2]
  grind
theorem mul_of {a b c d n1 d1 n2 d2 : Int} (hb : 0 < b) (hd : 0 < d) (h1 : 0 < d1) (h2 : 0 < d2) (e1 : n1 * b = d1 * a) (e2 : n2 * d = d2 * c) :
    nt (n1 * n2) (d1 * d2) = nt (a * c) (b * d) ∧ nb (n1 * n2) (d1 * d2) = nb (a * c) (b * d) := by
  refine unique (mul_pos_ne h1 h2) (mul_pos_ne hb hd) ?_
  have k1 : (n1 * b) * (n2 * d) = (d1 * a) * (d2 * c) := by rw [e1, e2]
  grind
theorem neg_of {a b n1 d1 : Int} (hb : 0 < b) (h1 : 0 < d1) (e1 : n1 * b = d1 * a) : nt (-n1) d1 = nt (-a) b ∧ nb (-n1) d1 = nb (-a) b := by
  refine unique (pos_ne h1) (pos_ne hb) ?_
  rw [Int.neg_mul, Int.neg_mul, e1, Int.mul_comm]
theorem abs_of {a b n1 d1 : Int} (hb : 0 < b) (h1 : 0 < d1) (e1 : n1 * b = d1 * a) :
    nt (if n1 < 0 then -n1 else n1) d1 = nt (if a < 0 then -a else a) b ∧ nb (if n1 < 0 then -n1 else n1) d1 = nb (if a < 0 then -a else a) b := by
  have iff : n1 < 0 ↔ a < 0 := by
    constructor
    · intro h
      by_cases z : a < 0
      · exact z
      · have p1 : n1 * b < 0 := Int.mul_neg_of_neg_of_pos h hb
        have p2 : 0 ≤ d1 * a := Int.mul_nonneg (by omega) (by omega)
        omega
    · intro h
      by_cases z : n1 < 0
      · exact z
      · have p1 : d1 * a < 0 := Int.mul_neg_of_pos_of_neg h1 h
        have p2 : 0 ≤ n1 * b := Int.mul_nonneg (by omega) (by omega)
        omega
  by_cases h : n1 < 0
  · rw [if_pos h, if_pos (iff.mp h)]
    exact neg_of hb h1 e1
  · rw [if_neg h, if_neg (fun z => h (iff.mpr z))]
    refine unique (pos_ne h1) (pos_ne hb) ?_
    rw [e1, Int.mul_comm]
theorem lt_of {a b c d n1 d1 n2 d2 : Int} (hb : 0 < b) (hd : 0 < d) (h1 : 0 < d1) (h2 : 0 < d2) (e1 : n1 * b = d1 * a) (e2 : n2 * d = d2 * c) : n1 * d2 < n2 * d1 ↔ a * d < c * b := by
  have hbd : 0 < b * d := Int.mul_pos hb hd
  have h12 : 0 < d1 * d2 := Int.mul_pos h1 h2
  have k1 : n1 * d2 * (b * d) = a * d * (d1 * d2) := by
    have : n1 * b * (d2 * d) = d1 * a * (d2 * d) := by rw [e1]
    grind
  have k2 : n2 * d1 * (b * d) = c * b * (d1 * d2) := by
    have : n2 * d * (d1 * b) = d2 * c * (d1 * b) := by rw [e2]
    grind
  rw [← Int.mul_lt_mul_right hbd, k1, k2, Int.mul_lt_mul_right h12]
end Num
set_option Elab.async false
set_option linter.all false
set_option maxRecDepth 100000
set_option maxHeartbeats 4000000
namespace Com
open PySem PySem.Spec PyProof.Rows L2 PySem.W
/-! ### int op instance: the int declines -/
theorem int_add_ins (a : Int) (t : Tok) (x dx C : Addr) :
    Meets (Builtin.«int.__add__» ⟨[.int a t, .ref x], []⟩) (fun _ R s => s.heap.get? x = some (instObj C dx) ∧ R (.ok (.ret Value.notImplemented)) s) :=
  .of_wp fun prog w A R s h => by
    obtain ⟨hp, g, d, tk, os⟩ := s; obtain ⟨hl, h⟩ := h
    unfold instObj at hl
    wp_walk using wpAny_loadPart' hl
    exact ⟨_, rfl, h⟩
theorem int_mul_ins (a : Int) (t : Tok) (x dx C : Addr) :
    Meets (Builtin.«int.__mul__» ⟨[.int a t, .ref x], []⟩) (fun _ R s => s.heap.get? x = some (instObj C dx) ∧ R (.ok (.ret Value.notImplemented)) s) :=
  .of_wp fun prog w A R s h => by
    obtain ⟨hp, g, d, tk, os⟩ := s; obtain ⟨hl, h⟩ := h
    unfold instObj at hl
    wp_walk using wpAny_loadPart' hl
    exact ⟨_, rfl, h⟩
end Com
namespace Com
open PySem PySem.Spec PyProof.Rows L2 PySem.W
section
variable {prog : Program} {w : World} {A : Around} {E : Value → Shared → Prop} {s : Shared} {K : Frag} {x C L f f1 : Addr} {h₀ : Heap} {m : Str → Option Value} {ox : Obj} {od : Option Obj}
theorem rbin_int {op : Operator} {i : Int} {t : Tok} {idl : String} {Q : Value → Shared → Prop} (F : Fr h₀ L s.heap m) (X₀ : K.In h₀) (I : InstAt s.heap x ox C od) (hc : selfFirst K C = true)
    (hd : findIn K (.ref C) (PySem.dunder op.info.2) = some (some (.ref f1))) (hs : findIn K (.ref C) (dunderR op.info.2) = some (some (.ref f))) (hf : isFn K (.ref f) = true)
    (hfI : fillsNumberSlot (.type "int") op.info.2 = pure true) (hsub : subIn K (.ref C) (.type "int") = some false) (hl : Slot "int" (PySem.dunder op.info.2) idl)
    (hdec : wpAny (model prog w) A (call (.builtin idl) [.int i t, .ref x]) (fun v s' => v = .notImplemented ∧ s' = s) E s)
    (h : wpAny (model prog w) A (call (.ref f) [.ref x, .int i t]) (PySem.W.CmpBack Q) E s) : wpAny (model prog w) A (binaryOp op (.int i t) (.ref x)) Q E s := by
  have X := X₀.keeps F.keep
  obtain ⟨cd, rest, hcd, hm⟩ := ksp_first hc
  rcases hi : op.info with ⟨sym, nm'⟩
  rw [hi] at hd hs hfI hl
  dsimp only at hd hs hfI hl
  have two := ksp_try X I hs hf h
  have one : wpAny (model prog w) A (tryMethod (.int i t) (PySem.dunder nm') (.ref x)) (fun r s' => r = none ∧ s' = s) E s := wpAny_tryMethod_declines (typeIs_int s i t) hl (wpAny_mono hdec (fun v s' z => ⟨z.1, rfl, z.2⟩) fun _ _ z => z)
  obtain ⟨hh, g, d, tt, os⟩ := s
  have L1 : Looks (model prog w) hh (typeOf (.ref x)) (.ref C) := I.type
  have L2 : Looks (model prog w) hh (typeOf (.int i t)) (.type "int") := Looks.of_pure rfl
  have L3 : Looks (model prog w) hh (fillsNumberSlot (.ref C) nm') true := fills_K X hcd hm hd
  have L4 : Looks (model prog w) hh (fillsNumberSlot (.type "int") nm') true := Looks.of_pure hfI
  have L5 : Looks (model prog w) hh (isSubtype (.ref C) (.type "int")) false := looks_subIn X hsub
  have L7 : Looks (model prog w) hh (numberSlotInPython (.type "int") nm') false := Looks.of_pure rfl
  have hne : (Value.type "int" == Value.ref C) = false := Bool.eq_false_iff.mpr fun q => by cases beq_iff_eq.mp q
  simp only [binaryOp, hi]
  refine wpAny_holding (wpAny_bind ?_)
  unfold binaryOp1
  refine wpAny_bind (L2.at (wpAny_bind (L1.at (wpAny_bind (L4.at ?_)))))
  simp only [hne, Bool.false_eq_true, if_false]
  ksp_lk
  refine wpAny_mono one (fun r s' hr' => ?_) fun _ _ e => e
  obtain ⟨rfl, rfl⟩ := hr'
  ksp_lk
  refine wpAny_mono two (fun r s' hr' => ?_) fun _ _ e => e
  obtain ⟨v, rfl, hq⟩ := hr'
  ksp_lk
  exact hq
end
end Com
namespace Com
open PySem PySem.Spec PyProof.Rows L2
/-! ### the rules over the layer -/
/-- what of the text an own binary operator must have: its def at f (f', the reflected one), the int's own slots -/
structure OpFacts (K : PySem.W.Frag) (C : Addr) (nm : String) : Prop where
  sf : PySem.W.selfFirst K C = true
  rc : ∃ g : Addr, PySem.W.findIn K (.ref C) (dunderR nm) = some (some (.ref g)) ∨ PySem.W.findIn K (.ref C) (dunderR nm) = some none
  i1 : ∃ fo, PySem.W.findIn K (.type "int") (PySem.dunder nm) = some fo
  i2 : ∃ ro, PySem.W.findIn K (.type "int") (dunderR nm) = some ro
  sub : PySem.W.subIn K (.type "int") (.ref C) = some false
/-- x op y, x an instance of the class at C; y an int, or another instance -/
def rBinO (C : Addr) (sp : Sp) (E : XK) : R2 := fun x y H Q => ∃ a dx fs, x = .ref a ∧ H a = some (.ins C dx fs) ∧ ((∃ i, y = .int i) ∨ (∃ b dy gs, y = .ref b ∧ H b = some (.ins C dy gs))) ∧ sp [x, y] H Q E
section
variable {X : Cx} {CX : CXT} {k j : Nat} {C : Addr} {sp : Sp} {E : XK} {nm : String} {m : Str}
theorem binO {op : Operator} (T : OpFacts X.K C nm) (M : MethOk X.prog X.w X.K X.mg X.base CX j C m sp) (hr : Room k X.A) (hjk : j ≤ k) (hx : Passes CX X E) (e1 : op.info.2 = nm := by rfl) (e2 : m = PySem.dunder nm := by rfl) : OpR X (binaryOp op) (rBinO C sp E) := by
  obtain ⟨g, F, hm⟩ := M.ex
  intro pins s σ H x y v u Q I rx ry h
  obtain ⟨a, dx, fs, rfl, ha, hy, q⟩ := h
  cases (show v = Value.ref a from rx)
  obtain ⟨mA, O, _⟩ := ins_get I.hok ha
  obtain ⟨od, J, _⟩ := O.look
  obtain ⟨mm, hF⟩ := I.fr
  subst e1
  subst e2
  have run : wpAny (model X.prog X.w) X.A (call (.ref g) [.ref a, u]) (PySem.W.CmpBack (EP X pins σ Q)) X.xe s := by
    refine wpAny_mono (runR (us := [.ref a, u]) (vs := [.ref a, y]) F hr hjk hx I (.cons rfl (.cons ry .nil)) q) (fun w s' z => ?_) fun _ _ x => x
    obtain ⟨z', H', I', rz, qz⟩ := z
    exact SlX.cmpback rz ⟨z', H', I', rz, qz⟩
  rcases hy with ⟨i, rfl⟩ | ⟨b, dy, gs, rfl, hb⟩
  · obtain ⟨t, rfl⟩ := (show ∃ t, u = Value.int i t from ry)
    obtain ⟨fo, h1⟩ := T.i1
    obtain ⟨ro, h2⟩ := T.i2
    obtain ⟨rr, hrr⟩ := T.rc
    rcases hrr with hrr | hrr
    · exact PySem.W.ksp_binT (T := "int") hF I.ok.mod.kin J rfl T.sf hm.at_ hm.fn hrr (.inr ⟨rr, rfl⟩) h1 h2 T.sub run
    · exact PySem.W.ksp_binT (T := "int") hF I.ok.mod.kin J rfl T.sf hm.at_ hm.fn hrr (.inl rfl) h1 h2 T.sub run
  · cases (show u = Value.ref b from ry)
    obtain ⟨mB, O', _⟩ := ins_get I.hok hb
    obtain ⟨od', J', _⟩ := O'.look
    exact PySem.W.binop_K hF I.ok.mod.kin J J'.type T.sf hm.at_ hm.fn run
/-- i op y, i an int -/
def rBinI (C : Addr) (sp : Sp) (E : XK) : R2 := fun x y H Q => ∃ i a dx fs, x = .int i ∧ y = .ref a ∧ H a = some (.ins C dx fs) ∧ sp [y, x] H Q E
theorem binI {op : Operator} {idl : String} {Bi : Builtin} {m' : Str} {f1 : Addr} (sf : PySem.W.selfFirst X.K C = true) (hd : PySem.W.findIn X.K (.ref C) (PySem.dunder op.info.2) = some (some (.ref f1))) (hsub : PySem.W.subIn X.K (.ref C) (.type "int") = some false)
    (M : MethOk X.prog X.w X.K X.mg X.base CX j C m' sp) (hr : Room k X.A) (hjk : j ≤ k) (hx : Passes CX X E) (hfI : fillsNumberSlot (.type "int") op.info.2 = pure true) (hl : Slot "int" (PySem.dunder op.info.2) idl)
    (he : entryFor table idl = some Bi) (ha : ∀ a b : Value, argsOk idl ⟨[a, b], []⟩)
    (hmt : ∀ (i : Int) (t : Tok) (x dx C : Addr), Meets (Bi ⟨[.int i t, .ref x], []⟩) (fun _ R s => s.heap.get? x = some (PySem.W.instObj C dx) ∧ R (.ok (.ret Value.notImplemented)) s)) (e2 : m' = dunderR op.info.2 := by rfl) : OpR X (binaryOp op) (rBinI C sp E) := by
  obtain ⟨g, F, hm⟩ := M.ex
  intro pins s σ H x y v u Q I rx ry h
  obtain ⟨i, a, dx, fs, rfl, rfl, ha', q⟩ := h
  cases (show u = Value.ref a from ry)
  obtain ⟨t, rfl⟩ := (show ∃ t, v = Value.int i t from rx)
  obtain ⟨mA, O, _⟩ := ins_get I.hok ha'
  have hobj := O.obj
  obtain ⟨od, J, _⟩ := O.look
  obtain ⟨mm, hF⟩ := I.fr
  subst e2
  refine rbin_int hF I.ok.mod.kin J sf hd hm.at_ hm.fn hfI hsub hl (call_meets hl (typeIs_int s i t) he (ha _ _) (hmt i t a dx C) ⟨hobj, rfl, rfl⟩) ?_
  refine wpAny_mono (runR (us := [.ref a, .int i t]) (vs := [.ref a, .int i]) F hr hjk hx I (.cons rfl (.cons rx .nil)) q) (fun w s' z => ?_) fun _ _ x => x
  obtain ⟨z', H', I', rz, qz⟩ := z
  exact SlX.cmpback rz ⟨z', H', I', rz, qz⟩
/-- op x, abs(x) -/
def rUnO (C : Addr) (sp : Sp) (E : XK) : V → Hp → VK → Prop := fun x H Q => ∃ a dx fs, x = .ref a ∧ H a = some (.ins C dx fs) ∧ sp [x] H Q E
theorem negO (M : MethOk X.prog X.w X.K X.mg X.base CX j C "__neg__" sp) (hr : Room k X.A) (hjk : j ≤ k) (hx : Passes CX X E) : UnR X (unaryOp .USub) (rUnO C sp E) := by
  obtain ⟨g, F, hm⟩ := M.ex
  intro pins s σ H x v Q I rx h
  obtain ⟨a, dx, fs, rfl, ha, q⟩ := h
  cases (show v = Value.ref a from rx)
  obtain ⟨mA, O, _⟩ := ins_get I.hok ha
  obtain ⟨od, J, _⟩ := O.look
  obtain ⟨mm, hF⟩ := I.fr
  exact PySem.W.ksp_neg hF I.ok.mod.kin J hm.at_ hm.fn (runR (us := [.ref a]) (vs := [.ref a]) F hr hjk hx I (.cons rfl .nil) q)
def rAbsO (C : Addr) (sp : Sp) (E : XK) : List V → Hp → VK → Prop := fun xs H Q => ∃ a dx fs, xs = [.ref a] ∧ H a = some (.ins C dx fs) ∧ sp [.ref a] H Q E
theorem run_at {A : Around} {n : Nat} {f : Addr} {pins : List (Addr × Obj)} {σ : L2.St} {H : Hp} {s : Shared} {Q : VK} {us : List Value} {ws : List V} (F : FnR X.prog X.w X.K X.mg X.base CX n f sp) (hr : Room n A) (e0 : Env0 X.prog X.w X.K X.mg X.base A X.stack s H) (hx : Passes CX X E) (I : Inv X pins σ H s) (r : Vals ws us) (h : sp ws H Q E) :
    codeAny (model X.prog X.w) A (.call (.ref f) ⟨us, []⟩) (fun r s' => match r with | .ok (.ret v) => EP X pins σ Q v s' | .ok _ => False | .error e => X.xe e s') s := SlX.run_at F hr e0 hx I r h
theorem cl_abs (M : MethOk X.prog X.w X.K X.mg X.base CX j C "__abs__" sp) (hr : Room k X.A) (hjk : j + 1 ≤ k) (hx : Passes CX X E) : CallR X (.builtin "abs") (rAbsO C sp E) := by
  obtain ⟨g, F, hm⟩ := M.ex
  intro pins s σ H xs us Q I r h
  obtain ⟨a, dx, fs, rfl, ha, q⟩ := h
  have e := Vals.ref1 r
  subst e
  obtain ⟨mA, O, _⟩ := ins_get I.hok ha
  obtain ⟨od, J, _⟩ := O.look
  have hr1 : Room j X.A.in1 := (hr.mono hjk).in1
  refine Calls.call_function_entry kind_abs plain_abs entry_abs (args_abs _) ?_
  unfold Builtin.«abs»
  refine wpAny_bind (m := oneArg "abs" _) (wpAny_pure ?_)
  refine wpAny_bind (m := callSpecial? (.ref a) (Str.ofString "__abs__")) (PySem.W.special_fn I.kIn J hm.at_ (beq_iff_eq.mp hm.fn) ?_)
  refine wpAny_mono (wpAny_call (run_at (us := [.ref a]) (ws := [.ref a]) F hr1 I.env0.in1 hx I (.cons rfl .nil) q)) (fun w s' z => ?_) fun _ _ x => x
  exact wpAny_pure ⟨_, rfl, z⟩
end
end Com
namespace Com
open PySem PySem.Spec PyProof.Rows L2
theorem UnR.or {X : Cx} {f : Value → Sem Value} {r r' : V → Hp → VK → Prop} (h : UnR X f r) (h' : UnR X f r') : UnR X f (fun x H Q => r x H Q ∨ r' x H Q) := by
  intro pins s σ H x v Q I rx q
  rcases q with q | q
  · exact h pins s σ H x v Q I rx q
  · exact h' pins s σ H x v Q I rx q
/-- // by any divisor but 0 below 2 ^ 9000 -/
def CDivX (_ j : Int) : Prop := j ≠ 0 ∧ j.natAbs < 2 ^ 9000
theorem fdivX {X : Cx} : OpR X (binaryOp .FloorDiv) (rI CDivX fun i j => .int (i.fdiv j)) := opI fun i j _ _ _ _ _ hc q =>
  floordiv_int hc.1 q (.inl (PyProof.noPylong_of_log2 (PySem.Flt.log2_lt_of (by decide) hc.2)))
theorem pgT {X : Cx} (K : PySem.W.Frag) {es : List Expr} {k : Nat} {t : TGs} {n : Nat} {pos : Pos} (h : PGs X es t) (hc : X.calm = true := by rfl)
    (hn : (assignEach es X.env).length = n := by rfl) (hst : (assignEach es X.env).findIdx? (·.1) = none := by rfl) (hK : X.K = K := by rfl) : PG X (.Tuple es k pos) (gTup K n t) := by subst hK; exact pg_tup hc h hn hst
theorem pe_gbfn {X : Cx} {x : Str} {p pos : Pos} {e : Expr} {es : List Expr} {t : TA} {id : String} {r : List V → Hp → VK → Prop} (hc : CallR X (.builtin id) r) (hm : X.mg x = some (.builtin id)) (ha : PA X (e :: es) t) (hg : Gl X x := by rfl) (hdb : (x == ("__debug__" : Str)) = false := by decide)
    (he : starEach (e :: es) X.env = (false, eval e X.env) :: starEach es X.env := by rfl) (hpl : (backTo pos (starEach es X.env)).any (·.1) = false := by rfl) : PE X (.Call (.Name x p) (e :: es) [] pos) (tCB r t) := pe_callBfun hc hg hm ha hdb he hpl
theorem small_n {x : Int} {n : Nat} (h : x.natAbs ≤ n) {b : Nat} (hb : n < 2 ^ b) : x.natAbs < 2 ^ b := Nat.lt_of_le_of_lt h hb
end Com
namespace Com
open PySem PySem.Spec PyProof.Rows L2
/-! ### sizes -/
def B (x : Int) (n : Nat) : Prop := x.natAbs < 2 ^ n
theorem B.mono {x : Int} {m n : Nat} (h : B x m) (hm : m ≤ n) : B x n := Nat.lt_of_lt_of_le h (Nat.pow_le_pow_right (by decide) hm)
theorem B.mul {x y : Int} {m n : Nat} (hx : B x m) (hy : B y n) : B (x * y) (m + n) := wide_lt hx hy
theorem B.add {x y : Int} {n : Nat} (hx : B x n) (hy : B y n) : B (x + y) (n + 1) := by
  unfold B at *
  have : (x + y).natAbs ≤ x.natAbs + y.natAbs := Int.natAbs_add_le x y
  rw [Nat.pow_succ]
  omega
theorem B.neg {x : Int} {n : Nat} (h : B x n) : B (-x) n := by
  unfold B at *
  rwa [Int.natAbs_neg]
theorem B.sub {x y : Int} {n : Nat} (hx : B x n) (hy : B y n) : B (x - y) (n + 1) := by
  have := hx.add hy.neg
  rwa [← Int.sub_eq_add_neg] at this
theorem B.abs {x : Int} {n : Nat} (h : B x n) : B (if x < 0 then -x else x) n := by
  split
  · exact h.neg
  · exact h
theorem B.le {x : Int} {y : Int} {n : Nat} (h : B y n) (hl : x.natAbs ≤ y.natAbs) : B x n := Nat.lt_of_le_of_lt hl h
theorem B.of {x : Int} {n : Nat} {k : Nat} (h : x.natAbs ≤ k) (hk : k < 2 ^ n) : B x n := Nat.lt_of_le_of_lt h hk
theorem mulB {x y : Int} {m n : Nat} (hx : B x m) (hy : B y n) (h0 : 0 < m := by decide) (h1 : 0 < n := by decide) (h : m + n ≤ 1000000 := by decide) : CMulW x y := wide_mul hx hy h0 h1 h
end Com
set_option Elab.async false
set_option linter.all false
set_option maxRecDepth 100000
set_option maxHeartbeats 4000000
/-! x == y, y of an own class, x of a built-in kind: the left side declines, the own __eq__ answers. -/
namespace Com
open PySem PySem.Spec PyProof.Rows L2 PySem.W
theorem int_eq_ins (a : Int) (t : Tok) (x dx C : Addr) :
    Meets (Builtin.«int.__eq__» ⟨[.int a t, .ref x], []⟩) (fun _ R s => s.heap.get? x = some (instObj C dx) ∧ R (.ok (.ret Value.notImplemented)) s) :=
  .of_wp fun prog w A R s h => by
    obtain ⟨hp, g, d, tk, os⟩ := s; obtain ⟨hl, h⟩ := h
    unfold instObj at hl
    wp_walk using wpAny_loadPart' hl
    exact ⟨_, rfl, h⟩
theorem bool_eq_ins (a : Bool) (x dx C : Addr) :
    Meets (Builtin.«int.__eq__» ⟨[.bool a, .ref x], []⟩) (fun _ R s => s.heap.get? x = some (instObj C dx) ∧ R (.ok (.ret Value.notImplemented)) s) :=
  .of_wp fun prog w A R s h => by
    obtain ⟨hp, g, d, tk, os⟩ := s; obtain ⟨hl, h⟩ := h
    unfold instObj at hl
    wp_walk using wpAny_loadPart' hl
    exact ⟨_, rfl, h⟩
theorem str_eq_ins (a : Str) (t : Tok) (x dx C : Addr) :
    Meets (Builtin.«str.__eq__» ⟨[.str a t, .ref x], []⟩) (fun _ R s => s.heap.get? x = some (instObj C dx) ∧ R (.ok (.ret Value.notImplemented)) s) :=
  .of_wp fun prog w A R s h => by
    obtain ⟨hp, g, d, tk, os⟩ := s; obtain ⟨hl, h⟩ := h
    unfold instObj at hl
    wp_walk using wpAny_loadPart' hl
    exact ⟨_, rfl, h⟩
theorem none_eq_ins (x dx C : Addr) :
    Meets (Builtin.«NoneType.__eq__» ⟨[.none, .ref x], []⟩) (fun _ R s => s.heap.get? x = some (instObj C dx) ∧ R (.ok (.ret Value.notImplemented)) s) :=
  .of_wp fun prog w A R s h => by
    obtain ⟨hp, g, d, tk, os⟩ := s; obtain ⟨hl, h⟩ := h
    unfold instObj at hl
    wp_walk using wpAny_loadPart' hl
    exact ⟨_, rfl, h⟩
theorem list_eq_ins (a x dx C : Addr) (o : Obj) (its : Array Value) (n : Nat) :
    Meets (Builtin.«list.__eq__» ⟨[.ref a, .ref x], []⟩) (fun _ R s => s.heap.get? x = some (instObj C dx) ∧ s.heap.get? a = some o ∧ o.cls = .type "list" ∧ (∀ M, PySem.W.Looks M s.heap (isSubtype (.ref C) (.type "list")) false) ∧ o.data = .seq its n ∧ R (.ok (.ret Value.notImplemented)) s) :=
  .of_wp fun prog w A R s h => by
    obtain ⟨hp, g, d, tk, os⟩ := s; obtain ⟨hl, ha, hc, hs, hd, h⟩ := h
    unfold instObj at hl
    wp_walk using wpAny_loadPart' hl, wpAny_loadPart' ha
    refine (hs _).here ?_
    wp_walk using wpAny_loadPart' hl, wpAny_loadPart' ha
    exact ⟨_, rfl, h⟩
theorem tuple_eq_ins (a x dx C : Addr) (o : Obj) (its : Array Value) (n : Nat) :
    Meets (Builtin.«tuple.__eq__» ⟨[.ref a, .ref x], []⟩) (fun _ R s => s.heap.get? x = some (instObj C dx) ∧ s.heap.get? a = some o ∧ o.cls = .type "tuple" ∧ (∀ M, PySem.W.Looks M s.heap (isSubtype (.ref C) (.type "tuple")) false) ∧ o.data = .seq its n ∧ R (.ok (.ret Value.notImplemented)) s) :=
  .of_wp fun prog w A R s h => by
    obtain ⟨hp, g, d, tk, os⟩ := s; obtain ⟨hl, ha, hc, hs, hd, h⟩ := h
    unfold instObj at hl
    wp_walk using wpAny_loadPart' hl, wpAny_loadPart' ha
    refine (hs _).here ?_
    wp_walk using wpAny_loadPart' hl, wpAny_loadPart' ha
    exact ⟨_, rfl, h⟩
theorem dict_eq_ins (a x dx C : Addr) (o : Obj) (es : Array DictEntry) (n : Nat) :
    Meets (Builtin.«dict.__eq__» ⟨[.ref a, .ref x], []⟩) (fun _ R s => s.heap.get? x = some (instObj C dx) ∧ s.heap.get? a = some o ∧ o.cls = .type "dict" ∧ (∀ M, PySem.W.Looks M s.heap (isSubtype (.ref C) (.type "dict")) false) ∧ o.data = .dict es n ∧ R (.ok (.ret Value.notImplemented)) s) :=
  .of_wp fun prog w A R s h => by
    obtain ⟨hp, g, d, tk, os⟩ := s; obtain ⟨hl, ha, hc, hs, hd, h⟩ := h
    unfold instObj at hl
    wp_walk using wpAny_loadPart' hl, wpAny_loadPart' ha
    refine (hs _).here ?_
    wp_walk using wpAny_loadPart' hl, wpAny_loadPart' ha
    exact ⟨_, rfl, h⟩
end Com
namespace Com
open PySem PySem.Spec PyProof.Rows L2 PySem.W
section
variable {prog : Program} {w : World} {A : Around} {E : Value → Shared → Prop} {s : Shared} {K : Frag} {x C L f : Addr} {h₀ : Heap} {m : Str → Option Value} {ox : Obj} {od : Option Obj}
theorem rcmp_K {a : Value} {T : String} {Q : Value → Shared → Prop} (hu : A.units < cLine) (F : Fr h₀ L s.heap m) (X₀ : K.In h₀) (I : InstAt s.heap x ox C od) (ha : Looks (model prog w) s.heap (typeOf a) (.type T)) (hone : oneThing? .Eq a (.ref x) = none)
    (hsub : subIn K (.ref C) (.type T) = some false) (hdec : wpAny (model prog w) A (tryCompare a "__eq__" (.ref x)) (fun r s' => r = none ∧ s' = s) E s) (hs : findIn K (.ref C) "__eq__" = some (some (.ref f))) (hf : isFn K (.ref f) = true)
    (h : wpAny (model prog w) A (call (.ref f) [.ref x, a]) (PySem.W.CmpBack Q) E s) : wpAny (model prog w) A (richCompare .Eq a (.ref x)) Q E s := by
  have X := X₀.keeps F.keep
  have one : wpAny (model prog w) A (tryCompare (.ref x) "__eq__" a) (fun r s' => ∃ v, r = some v ∧ Q v s') E s := by
    unfold tryCompare
    refine wpAny_bind (ifBound_K X I hs hf (wpAny_mono h (fun v s' hv => ?_) fun _ _ e => e))
    cases v <;> first | exact hv.elim | exact wpAny_pure ⟨_, rfl, hv⟩
  have hne : (Value.type T != Value.ref C) = true := by simp
  unfold richCompare
  simp only [hone]
  refine wpAny_holding (wpAny_bind (wpAny_cRoomFor hu ?_))
  refine wpAny_bind (ha.here (wpAny_bind (I.type.here ?_)))
  rw [if_pos hne]
  refine wpAny_bind ((looks_subIn X hsub).here ?_)
  simp only [Bool.false_eq_true, if_false]
  refine wpAny_bind (wpAny_mono hdec (fun r s' z => ?_) fun _ _ e => e)
  obtain ⟨rfl, rfl⟩ := z
  simp only [Bool.not_false, if_true]
  refine wpAny_bind (wpAny_mono one (fun r s' z => ?_) fun _ _ e => e)
  obtain ⟨v, rfl, hq⟩ := z
  exact wpAny_pure hq
end
end Com
namespace Com
open PySem PySem.Spec PyProof.Rows L2
/-- a left side that declines -/
inductive Left (H : Hp) : V → String → Prop where
  | non : Left H .non "NoneType"
  | bl (b : Bool) : Left H (.bl b) "bool"
  | int (i : Int) : Left H (.int i) "int"
  | str (x : Str) : Left H (.str x) "str"
  | lst {a : Addr} {xs : List V} (e : H a = some (.lst xs)) : Left H (.ref a) "list"
  | tup {a : Addr} {xs : List V} (e : H a = some (.tup xs)) : Left H (.ref a) "tuple"
  | dK {a : Addr} {kvs : List (Key × V)} (e : H a = some (.dK kvs)) : Left H (.ref a) "dict"
def rEqR (K : PySem.W.Frag) (C : Addr) (sp : Sp) (E : XK) : R2 := fun x y H Q => ∃ (T : String) (b dy : Addr) (gs : List (Str × V)), Left H x T ∧ y = .ref b ∧ H b = some (.ins C dy gs) ∧ PySem.W.subIn K (.ref C) (.type T) = some false ∧ sp [y, x] H Q E
theorem eqR (K : PySem.W.Frag) {X : Cx} {CX : CXT} {k j : Nat} {C : Addr} {sp : Sp} {E : XK} (M : MethOk X.prog X.w X.K X.mg X.base CX j C "__eq__" sp) (hr : Room k X.A) (hjk : j ≤ k) (hx : Passes CX X E) (hK : X.K = K := by rfl) : OpR X (compareOp .Eq) (rEqR K C sp E) := by
  subst hK
  obtain ⟨g, FR, hm⟩ := M.ex
  intro pins s σ H x y v u Q I rx ry h
  obtain ⟨T, b, dy, gs, lf, rfl, hb, hsub, q⟩ := h
  cases (show u = Value.ref b from ry)
  obtain ⟨mB, O, _⟩ := ins_get I.hok hb
  have hobj := O.obj
  obtain ⟨od, J, _⟩ := O.look
  obtain ⟨mm, hF⟩ := I.fr
  have run : wpAny (model X.prog X.w) X.A (call (.ref g) [.ref b, v]) (PySem.W.CmpBack (EP X pins σ Q)) X.xe s := by
    refine wpAny_mono (runR (us := [.ref b, v]) (vs := [.ref b, x]) FR hr hjk hx I (.cons rfl (.cons rx .nil)) q) (fun w s' z => ?_) fun _ _ x => x
    obtain ⟨z', H', I', rz, qz⟩ := z
    exact SlX.cmpback rz ⟨z', H', I', rz, qz⟩
  have hsb : ∀ M, PySem.W.Looks M s.heap (isSubtype (.ref C) (.type T)) false := fun M => PySem.W.looks_subIn I.kIn hsub
  show wpAny (model X.prog X.w) X.A (richCompare .Eq v (.ref b)) (EP X pins σ Q) X.xe s
  cases lf with
  | non =>
    obtain rfl : v = Value.none := rx
    have hT : s.TypeIs .none "NoneType" := rfl
    exact rcmp_K (T := "NoneType") hr.units0 hF I.ok.mod.kin J (PySem.W.Looks.of_pure rfl) rfl hsub (wpAny_tryCompare_declines hT F.slot_NoneType_eq (call_meets F.slot_NoneType_eq hT F.entry_NoneType_eq (F.args_NoneType_eq_2 _ _) (none_eq_ins b dy C) ⟨hobj, rfl, rfl, rfl⟩)) hm.at_ hm.fn run
  | bl i =>
    obtain rfl : v = Value.bool i := rx
    have hT : s.TypeIs (.bool i) "bool" := rfl
    exact rcmp_K (T := "bool") hr.units0 hF I.ok.mod.kin J (PySem.W.Looks.of_pure rfl) rfl hsub (wpAny_tryCompare_declines hT F.slot_bool_eq (call_meets F.slot_bool_eq hT F.entry_int_eq (F.args_int_eq_2 _ _) (bool_eq_ins i b dy C) ⟨hobj, rfl, rfl, rfl⟩)) hm.at_ hm.fn run
  | int i =>
    obtain ⟨t, rfl⟩ := (show ∃ t, v = Value.int i t from rx)
    have hT : s.TypeIs (.int i t) "int" := rfl
    exact rcmp_K (T := "int") hr.units0 hF I.ok.mod.kin J (PySem.W.Looks.of_pure rfl) rfl hsub (wpAny_tryCompare_declines hT F.slot_int_eq (call_meets F.slot_int_eq hT F.entry_int_eq (F.args_int_eq_2 _ _) (int_eq_ins i t b dy C) ⟨hobj, rfl, rfl, rfl⟩)) hm.at_ hm.fn run
  | str i =>
    obtain ⟨t, rfl⟩ := (show ∃ t, v = Value.str i t from rx)
    have hT : s.TypeIs (.str i t) "str" := rfl
    exact rcmp_K (T := "str") hr.units0 hF I.ok.mod.kin J (PySem.W.Looks.of_pure rfl) rfl hsub (wpAny_tryCompare_declines hT F.slot_str_eq (call_meets F.slot_str_eq hT F.entry_str_eq (F.args_str_eq_2 _ _) (str_eq_ins i t b dy C) ⟨hobj, rfl, rfl, rfl⟩)) hm.at_ hm.fn run
  | @lst a xs e =>
    obtain rfl : v = Value.ref a := rx
    obtain ⟨_, its, n, r, ho⟩ := I.hok _ _ e
    have hT : s.TypeIs (.ref a) "list" := ⟨_, ho, rfl⟩
    exact rcmp_K (T := "list") hr.units0 hF I.ok.mod.kin J (fun A Q E s k q => wpAny_typeOf_ref (k _ _ ho) q) rfl hsub (wpAny_tryCompare_declines hT F.slot_list_eq (call_meets F.slot_list_eq hT F.entry_list_eq (F.args_list_eq_2 _ _) (list_eq_ins a b dy C _ _ n) ⟨hobj, ho, rfl, hsb, rfl, rfl, rfl, rfl⟩)) hm.at_ hm.fn run
  | @tup a xs e =>
    obtain rfl : v = Value.ref a := rx
    obtain ⟨_, its, r, o, ho, hc, n, hd⟩ := I.hok _ _ e
    have hT : s.TypeIs (.ref a) "tuple" := ⟨_, ho, hc⟩
    exact rcmp_K (T := "tuple") hr.units0 hF I.ok.mod.kin J (fun A Q E s k q => wpAny_typeOf_ref (k _ _ ho) (by rw [hc]; exact q)) rfl hsub (wpAny_tryCompare_declines hT F.slot_tuple_eq (call_meets F.slot_tuple_eq hT F.entry_tuple_eq (F.args_tuple_eq_2 _ _) (tuple_eq_ins a b dy C o _ n) ⟨hobj, ho, hc, hsb, hd, rfl, rfl, rfl⟩)) hm.at_ hm.fn run
  | @dK a kvs e =>
    obtain rfl : v = Value.ref a := rx
    obtain ⟨_, _, vs, _, o, es, ep, ho, hc, hd, _⟩ := I.hok _ _ e
    have hT : s.TypeIs (.ref a) "dict" := ⟨_, ho, hc.1⟩
    exact rcmp_K (T := "dict") hr.units0 hF I.ok.mod.kin J (fun A Q E s k q => wpAny_typeOf_ref (k _ _ ho) (by rw [hc.1]; exact q)) rfl hsub (wpAny_tryCompare_declines hT F.slot_dict_eq (call_meets F.slot_dict_eq hT F.entry_dict_eq (F.args_dict_eq_2 _ _) (dict_eq_ins a b dy C o es ep) ⟨hobj, ho, hc.1, hsb, hd, rfl, rfl, rfl⟩)) hm.at_ hm.fn run
end Com
set_option Elab.async false
set_option linter.all false
set_option maxRecDepth 100000
set_option maxHeartbeats 4000000
/-! An own exception over ValueError, its __init__: super().__init__(text); self.field = field. -/
namespace PySem
namespace Exo
open PySem.W PySem.Calls PyProof.Rows PySem.HandSPX
def iA (p1 p2 : Pos) : Arguments := { posonlyargs := [], args := [{ arg := "self", annotation := none, pos := p1 }, { arg := "field", annotation := none, pos := p2 }], vararg := none, kwonlyargs := [], kw_defaults := [], kwarg := none, defaults := [] }
abbrev sCall (msg : Str) (q1 q2 q3 q4 q5 : Pos) : Expr := .Call (.Attribute (.Call (.Name "super" q1) [] [] q2) "__init__" q3) [.Constant (.str msg) 0 q4] [] q5
def iB (msg : Str) (q1 q2 q3 q4 q5 q6 q7 q8 q9 q10 : Pos) : List Stmt :=
  [.Expr (sCall msg q1 q2 q3 q4 q5) q6, .Assign [.Attribute (.Name "self" q7) "field" q8] (.Name "field" q9) q10]
def iS : Scope := { kind := .function, names := [(PySem.Str.ofString "self", .local), (PySem.Str.ofString "field", .local), (PySem.Str.ofString "__class__", .free), (PySem.Str.ofString "super", .globalImplicit)], isGenerator := false, isCoroutine := false, more := [] }
/-- how the call of the bound __init__ is read -/
def Reads (msg : Str) (q1 q2 q3 q4 q5 : Pos) (env : Env) : Prop := ∃ pl : Sem Bool, eval (sCall msg q1 q2 q3 q4 q5) env = (do
  let ov ← attributeBase (.Call (.Name "super" q1) [] [] q2) "__init__" env (eval (.Call (.Name "super" q1) [] [] q2) env)
  standAt q3.atName
  let (f, first) ← holding [ov] (getMethod ov "__init__" pl)
  callWith q5 f first (backTo q5 (starEach [.Constant (.str msg) 0 q4] env)) [])
/-- what the written part says of the class x, at C, and of its __init__, at fI -/
structure Txt (prog : Program) (K : Frag) (mg : Str → Option Value) (x : Str) (C fI : Addr) : Prop where
  gC : mg x = some (.ref C)
  gS : mg "super" = none
  cls : ∃ nm q N bs bm sn sub ab col dd k0 k1 k2 k3 k5, K.lookup C = some (excClassObj nm q C N bs bm true sn sub ab col dd k0 k1 k2 k3 k5 "ValueError.__new__") ∧ refsVE bm = true
  sup : ks_superIn K C C "__init__" = some (some (.builtin "ValueError.__init__"))
  sVE : subIn K (.ref C) (.type "ValueError") = some true
  own : mroIn K C (.ref C) = some true
  op : nsIn K cStatics "thirdparty.any" = some none
  sa : findIn K (.ref C) "__setattr__" = some (some (.builtin "object.__setattr__"))
  ga : findIn K (.ref C) "__getattribute__" = some (some (.builtin "BaseException.__getattribute__"))
  gg : findIn K (.ref C) "__getattr__" = some none
  noN : findIn K (.ref C) "field" = some none
  iC : findIn K (.ref C) "__init__" = some (some (.ref fI))
  tC : typeIn K (.ref fI) = some (.type "function")
  kC : keepIn K (.ref C) = true
  exC : subIn K (.ref C) (.type "BaseException") = some true
  tyC : typeIn K (.ref C) = some (.type "type")
  hdC : hasDictIn K C = true
  te : exmOne K (.ref C) (.ref C) = some true
  top : (prog.main.scope.names.lookup ("super" : Str)).isSome = false
  fn : ∃ (oc : Value) (od : Option Addr) (doc pm : Value) (an : Option Addr) (ct : Value) (osl : Array (Option Value)) (cda cc : Addr) (qual : Str) (p1 p2 : Pos) (msg : Str) (q1 q2 q3 q4 q5 q6 q7 q8 q9 q10 : Pos)
      (cl : Value) (cld : Option Addr) (csl : Array (Option Value)) (ccl : Value) (cdd : Option Addr) (vs : Array Value) (ccs : Array (Option Value)) (file : Str) (tf : Tok),
    K.lookup fI = some ⟨oc, od, .func (ksFn "__init__" qual (iA p1 p2) (iB msg q1 q2 q3 q4 q5 q6 q7 q8 q9 q10) iS .none .none doc pm an (.ref cda) ct cc), osl⟩ ∧ codeIn K (.ref cda) qual = true ∧
    K.lookup cc = some ⟨cl, cld, .cell (some (.ref C)), csl⟩ ∧ K.lookup cda = some ⟨ccl, cdd, .fields vs, ccs⟩ ∧ vs[2]? = some (.str file tf) ∧ ((prog.main.file : Str) == file) = true ∧ (∀ L : Addr, Reads msg q1 q2 q3 q4 q5 (ksEnv qual iS L fI (.ref cda) cc))
theorem kept_but {K : Frag} {h h' : Heap} {x : Addr} (X : K.In h) (hx : K.lookup x = none) (k : ∀ b o, b ≠ x → h.get? b = some o → h'.get? b = some o) : K.In h' := fun a o e =>
  k a o (fun z => by rw [z, hx] at e; cases e) (X a o e)
theorem one_size (v : Value) : [v].length ≤ sizeLine := by
  rw [sizeLine_eq]
  exact (by decide : 1 ≤ 16777216)
/-- what __init__ leaves of a fresh exception at x -/
structure InitEnd (h h' : Heap) (x C dx t1 : Addr) (v : Value) : Prop where
  keep : ∀ b o, b ≠ x → h.get? b = some o → h'.get? b = some o
  obj : h'.get? x = some { cls := .ref C, dict := some dx, data := .fields #[.ref t1, .none, .none, .none, .bool false, .none] }
  dbig : h.objs.size ≤ dx
  dne : dx ≠ x
  ns : h'.Ns1 dx (fun y => if y = "field" then some v else none)
/-- a made one -/
structure OwnMade (h h' : Heap) (e C d : Addr) (v : Value) : Prop where
  keep : ∀ b o, h.get? b = some o → h'.get? b = some o
  new : h.objs.size ≤ e
  obj : ∃ oe vs, h'.get? e = some oe ∧ oe.cls = .ref C ∧ oe.dict = some d ∧ oe.data = .fields vs ∧ vs[1]? = some .none
  dbig : h.objs.size ≤ d
  dne : d ≠ e
  ns : h'.Ns1 d (fun y => if y = "field" then some v else none)
section
variable {M : Model} {prog : Program} {w : World} {A : Around} {E : Value → Shared → Prop} {h : Heap} {g : Array GenState} {d : Drawn} {t : Nat} {os : OsState}
variable {nm q : Str} {C N : Addr} {bs bm : List Value} {hdct : Bool} {sn : List Str} {sub : List Value} {ab : Bool} {col : Option Bool} {dd : Option Addr} {k0 k1 k2 k3 k5 : Option Value}
/-- the bound ValueError.__init__ is called -/
theorem call_mw {u e t0 : Addr} {rest : List Value} {Q : Value → Shared → Prop}
    (hC : h.get? C = some (excClassObj nm q C N bs bm hdct sn sub ab col dd k0 k1 k2 k3 k5 "ValueError.__new__")) (he : h.get? e = some (excO C t0)) (hu : h.get? u = some (kxs_mw "ValueError.__init__" e)) (hrest : rest.length ≤ sizeLine)
    (hq : ∀ h' t1, (∀ b o, b ≠ e → h.get? b = some o → h'.get? b = some o) → h'.get? e = some (excO C t1) → h.objs.size ≤ h'.objs.size → Q .none ⟨h', g, d, t, os⟩) :
    wpAny (model prog w) A (call (.ref u) rest) Q E ⟨h, g, d, t, os⟩ := by
  refine wpAny_call (codeAny_of_tree ?_)
  show wpAny _ A.in1 (callAny (.ref u) ⟨rest, []⟩) _ _ _
  simp only [callAny]
  refine wpAny_bind (wpAny_load hu ?_)
  simp only [kxs_mw, show (Value.type "method-wrapper" == Value.type "method" || Value.type "method-wrapper" == Value.type "builtin_function_or_method" || Value.type "method-wrapper" == Value.type "method-wrapper") = true by decide, if_true]
  refine KFB.if_so (by decide) ?_
  refine wpAny_bind (check_bound_init F.excBase_ValueError.toExcCallFacts hC he rfl ?_)
  refine wpAny_bind (wpAny_pure (wpAny_pure ?_))
  refine ⟨plainId_quiet F.excBase_ValueError.init.plain _, codeAny_builtin F.excBase_ValueError.initEntry ?_⟩
  refine exc_init_tree (cls := .ref C) (t0 := t0) (dv := none) (c2 := .none) (c3 := .none) (b4 := .bool false) he hrest fun h' k hx ht => hq h' h.objs.size k hx (Nat.le_of_lt (Heap.lt_size ht))
end
section
variable {prog : Program} {w : World} {A : Around} {E : Value → Shared → Prop} {R : Result → Shared → Prop} {s : Shared} {K : Frag} {mg : Str → Option Value} {C fI : Addr} {nm : Str}
theorem ldC {M : Model} {s : Shared} {env : Env} {m : Str → Option Value} {x : Str} {pos : Pos} {v : Value} {Q : Value → Shared → Prop} {A : Around} {E : Value → Shared → Prop} (hn : s.heap.Ns env.locals m) (hv : m x = some v) (h : Q v s)
    (hk : env.scope.kind = .function := by rfl) (hl : env.kindOf x = some .local := by rfl) (hd : (x == ("__debug__" : Str)) = false := by decide) : wpAny M A (eval (.Name x pos) env) Q E s := wpAny_Name (wpAny_loadName_local hk hl hn hv h) hd
theorem init (T : Txt prog K mg nm C fI) {x t0 : Addr} {v : Value} {mb : Str → Option Value} (X : K.In s.heap) (hg : s.heap.Ns mainGlobals mg) (hb : s.heap.Ns builtinsNs mb) (hbv : ∀ y : Str, y ≠ "__name__" → mb y = bootBuiltins y)
    (hlim : s.heap.NoLimit) (hx : s.heap.get? x = some (excO C t0)) (hnx : K.lookup x = none) (hroom : A.depth < recursionLimit)
    (hq : ∀ h' tk dx t1, InitEnd s.heap h' x C dx t1 v → R (.ok (.ret .none)) { s with heap := h', toks := tk }) :
    codeAny (model prog w) A (.call (.ref fI) ⟨[.ref x, v], []⟩) R s := by
  obtain ⟨oc, od, doc, pm, an, ct, osl, cda, cc, qual, p1, p2, msg, q1, q2, q3, q4, q5, q6, q7, q8, q9, q10, cl, cld, csl, ccl, cdd, vs, ccs, file, tf, lk, hcd, hcell, hcode, hvs, hfile, hrd⟩ := T.fn
  obtain ⟨pl, hpl⟩ := hrd s.heap.objs.size
  obtain ⟨cn, q, N, bs, bm, sn, sub, ab, col, dd, k0, k1, k2, k3, k5, hC, hbm⟩ := T.cls
  have hcl : clsIn K C = some { name := cn, bases := bs, mro := .ref C :: bm, ns := N, qualname := q, hasDict := true, slotNames := sn, subclasses := sub, abstract := ab, collection := col, hasDel := false } := by unfold clsIn; rw [hC] <;> rfl
  refine ks_codeAny_call_defAt (fd := ksFn "__init__" qual (iA p1 p2) (iB msg q1 q2 q3 q4 q5 q6 q7 q8 q9 q10) iS .none .none doc pm an (.ref cda) ct cc) (body := iB msg q1 q2 q3 q4 q5 q6 q7 q8 q9 q10) (binds := [("self", .ref x), ("field", v)]) hroom (X _ _ lk) rfl hlim (codeRec_of X hcd) rfl
    (BindsTo.of_eq (by first | rfl | with_unfolding_all rfl)) (show ∀ y ∈ iS.names, y.2 ≠ .cell by decide) (by intro y hy; rcases List.mem_cons.mp hy with rfl | hy <;> first | rfl | (rcases List.mem_cons.mp hy with rfl | hy <;> first | rfl | cases hy)) (fun h₁ hns k => ?_) rfl rfl rfl
  have X₁ : K.In h₁ := X.keeps k
  have hx₁ := k _ _ hx
  have hxL : s.heap.objs.size ≠ x := Nat.ne_of_gt (Heap.lt_size hx)
  have hxC : x ≠ C := fun z => by
    have y := X _ _ hC
    rw [← z, hx] at y
    cases y
  show PySem.wpAt (model prog w) _ _ (execs (iB msg q1 q2 q3 q4 q5 q6 q7 q8 q9 q10) (ksEnv qual iS s.heap.objs.size fI (.ref cda) cc)) _ _ _
  refine ks_wpAt_execs_cons (ks_wpAt_Expr_any (ks_wpAt_MethodCall (pl := pl) ?_ hpl))
  refine ks_wpAt_super_base (env := ksEnv qual iS s.heap.objs.size fI (.ref cda) cc) rfl rfl rfl rfl (X₁ _ _ lk) rfl rfl rfl (X₁ _ _ hcode) rfl hvs hfile T.top ?_
  refine ks_loadName_global rfl rfl (loadGlobal_builtin (env := ksEnv qual iS s.heap.objs.size fI (.ref cda) cc) (hg.keeps k) T.gS (hb.keeps k) ((hbv _ (by decide)).trans PyProof.Rows.Boot.«super») ⟨rfl, ?_⟩)
  refine wpAny_loadName_free (env := ksEnv qual iS s.heap.objs.size fI (.ref cda) cc) rfl rfl rfl ⟨_, X₁ _ _ hcell, rfl⟩ ?_
  refine wpAny_loadName_local (env := ksEnv qual iS s.heap.objs.size fI (.ref cda) cc) (v := .ref x) rfl rfl hns (by first | rfl | with_unfolding_all rfl | kernel_rfl) ?_
  refine ks_wpAny_isType_cls (X₁ _ _ hC) rfl ⟨rfl, ?_⟩
  refine ks_wpAny_call_super (X₁ _ _ hC) rfl hx₁ rfl (fun c e => nomatch e) (looks_mroIn X₁ T.own) (fun h₂ hso k₂ => ?_)
  have X₂ : K.In h₂ := X₁.keeps k₂
  have hx₂ := k₂ _ _ hx₁
  have I₂ : InstAt h₂ x (excO C t0) C none := ⟨hx₂, rfl, rfl, trivial⟩
  have hm := T.sup
  unfold ks_superIn at hm
  rw [hcl] at hm
  refine kxs_getMethod kxs_ValueError hso (looks_opaque X₂ T.op) (l₀ := .ref C :: bm) ((looks_clsIn X₂ hcl).andThen .now) rfl X₂ hm (I₂.type.andThen (looks_subIn X₂ T.sVE)) hxC rfl ?_
  have k₁₂ : ∀ b o, h₁.get? b = some o → (h₂.push (kxs_mw "ValueError.__init__" x)).get? b = some o := fun b o e => Heap.get?_push_of_some _ (k₂ b o e)
  have hu : (h₂.push (kxs_mw "ValueError.__init__" x)).get? h₂.objs.size = some (kxs_mw "ValueError.__init__" x) := Heap.get?_push_at rfl rfl
  have sz₂ : s.heap.objs.size ≤ (h₂.push (kxs_mw "ValueError.__init__" x)).objs.size := by
    have a : h₂.objs.size < (h₂.push (kxs_mw "ValueError.__init__" x)).objs.size := Heap.lt_size hu
    have b : h₁.objs.size < h₂.objs.size := Heap.lt_size hso
    have c : s.heap.objs.size < h₁.objs.size := hns.lt
    omega
  generalize h₂.push (kxs_mw "ValueError.__init__" x) = h₂' at k₁₂ hu sz₂ ⊢
  have X₂' : K.In h₂' := X₁.keeps k₁₂
  show wpAny _ _ (callWith q5 (.ref h₂.objs.size) [] (backTo q5 (starEach (.Constant (.str msg) 0 q4 :: []) (ksEnv qual iS s.heap.objs.size fI (.ref cda) cc))) []) _ _ _
  rw [show starEach (.Constant (.str msg) 0 q4 :: []) (ksEnv qual iS s.heap.objs.size fI (.ref cda) cc) = (false, eval (.Constant (.str msg) 0 q4) (ksEnv qual iS s.heap.objs.size fI (.ref cda) cc)) :: starEach [] (ksEnv qual iS s.heap.objs.size fI (.ref cda) cc) from rfl]
  refine kxs_callWith (i := "ValueError.__init__") (x := x) rfl (evalArgs_plain (Calls.spliced_cons (wpAny_Constant_str (env := ksEnv qual iS s.heap.objs.size fI (.ref cda) cc) (x := msg) (k := 0) (pos := q4) (Calls.spliced_nil ⟨hu, ?_⟩))))
  refine call_mw (X₂' _ _ hC) (k₁₂ _ _ hx₁) hu (one_size _) fun h₃ t1 k₃ hx₃ sz₃ => ?_
  have X₃ : K.In h₃ := kept_but X₂' hnx k₃
  have hns₃ : h₃.Ns s.heap.objs.size (fun y => List.lookup y [(PySem.Str.ofString "self", Value.ref x), (PySem.Str.ofString "field", v)].reverse) := by
    obtain ⟨oL, es, ep, hL, r⟩ := hns
    exact ⟨oL, es, ep, k₃ _ _ hxL (k₁₂ _ _ hL), r⟩
  -- self.field = field
  show PySem.wpAt _ _ _ (execs [.Assign [.Attribute (.Name "self" q7) "field" q8] (.Name "field" q9) q10] (ksEnv qual iS s.heap.objs.size fI (.ref cda) cc)) _ _ _
  refine ks_wpAt_execs_cons (wpAt_of_wpAny (plainObj_wpAny_Assign_Attribute ?_))
  refine ldC (env := ksEnv qual iS s.heap.objs.size fI (.ref cda) cc) (v := v) hns₃ (by first | rfl | with_unfolding_all rfl | kernel_rfl) (ldC (env := ksEnv qual iS s.heap.objs.size fI (.ref cda) cc) (v := .ref x) hns₃ (by first | rfl | with_unfolding_all rfl | kernel_rfl) ?_)
  refine set_plain X₃ (ox := excO C t1) (od := none) ⟨hx₃, rfl, rfl, trivial⟩ T.sa ?_
  refine exc_osa X₃ hx₃ hcl (show refsVE (.ref C :: bm) = true from hbm) rfl T.noN (fun h₄ tk₄ dx k₄ dn dne hx₄ hn₄ => ?_)
  refine wpAt_of_wpAny (wpAny_execs_nil (hq h₄ tk₄ dx t1 ⟨fun b o hb e => k₄ b o hb (k₃ b o hb (k₁₂ b o (k b o e))), hx₄, Nat.le_trans sz₂ (Nat.le_trans sz₃ dn), dne, hn₄⟩))
theorem made (T : Txt prog K mg nm C fI) {v : Value} {mb : Str → Option Value} (X : K.In s.heap) (hg : s.heap.Ns mainGlobals mg) (hb : s.heap.Ns builtinsNs mb) (hbv : ∀ y : Str, y ≠ "__name__" → mb y = bootBuiltins y) (hlim : s.heap.NoLimit)
    (hroom : A.depth + 1 < recursionLimit) (hq : ∀ h' tk e d, OwnMade s.heap h' e C d v → R (.ok (.ret (.ref e))) { s with heap := h', toks := tk }) :
    codeAny (model prog w) A (.call (.ref C) ⟨[v], []⟩) R s := by
  obtain ⟨cn, q, N, bs, bm, sn, sub, ab, col, dd, k0, k1, k2, k3, k5, hC, hbm⟩ := T.cls
  obtain ⟨hp, g, dr, tk, os⟩ := s
  have k : ∀ b o, hp.get? b = some o → ((hp.push (kdv_tup [v])).push (excO C hp.objs.size)).get? b = some o := fun b o e => Heap.get?_push_of_some _ (Heap.get?_push_of_some _ e)
  have hget : ((hp.push (kdv_tup [v])).push (excO C hp.objs.size)).get? (hp.objs.size + 1) = some (excO C hp.objs.size) := by heap_get
  have hnx : K.lookup (hp.objs.size + 1) = none := by
    cases e : K.lookup (hp.objs.size + 1) with
    | none => rfl
    | some o =>
      have z : hp.get? (hp.objs.size + 1) = some o := X _ _ e
      exact absurd (Nat.lt_of_succ_lt (Heap.lt_size z)) (Nat.lt_irrefl _)
  refine call_own F.excBase_ValueError (fun X => refsVE_contains X bm hbm) (X _ _ hC) (looks_findIn X T.iC) (fun self => bind_fn X self T.tC) (one_size v) ?_
  refine init (s := ⟨(hp.push (kdv_tup [v])).push (excO C hp.objs.size), g, dr, tk, os⟩) T (X.keeps k) (hg.keeps k) (hb.keeps k) hbv (hlim.keeps k) hget hnx ?_ fun h' tk' dx t1 ⟨k', hx, dn, dne, hns⟩ => ?_
  · show A.depth + 1 < recursionLimit
    exact hroom
  · have old : ∀ b o, hp.get? b = some o → h'.get? b = some o := fun b o e => k' b o (Nat.ne_of_lt (Nat.lt_succ_of_lt (Heap.lt_size e))) (k b o e)
    have z : hp.objs.size + 1 + 1 ≤ dx := by
      first
        | (simpa only [Heap.size_push] using dn)
        | exact dn
        | (have q := dn; rw [Heap.size_push, Heap.size_push] at q; exact q)
    exact ⟨rfl, hq h' tk' (hp.objs.size + 1) dx ⟨old, Nat.le_succ _, ⟨_, _, hx, rfl, rfl, rfl, rfl⟩, Nat.le_trans (Nat.le_trans (Nat.le_succ _) (Nat.le_succ _)) z, dne, hns⟩⟩
end
end Exo
end PySem
namespace Com
open PySem PySem.Spec PyProof.Rows L2
theorem relO_fld {v : V} {v' : Value} (r : RelV v v') (f : Str) : RelO (List.lookup f [(("field" : Str), v)]) (if f = "field" then some v' else none) := by
  by_cases hw : f = "field"
  · subst hw
    rw [if_pos rfl]
    have q : List.lookup ("field" : Str) [(("field" : Str), v)] = some v := by simp [List.lookup]
    rw [q]
    exact r
  · rw [if_neg hw]
    have qw : (f == ("field" : Str)) = false := by simpa using hw
    have q2 : List.lookup f [(("field" : Str), v)] = none := by simp [List.lookup, qw]
    rw [q2]
    trivial
section
variable {X : Cx} {C fI : Addr}
/-- x(e), x an own exception class at C: a new dict of one field -/
def tMkE (C : Addr) (ta : TA) : L2.St → Hp → XK → Prop := fun σ H Q => ta σ H fun vs H1 => ∃ v, vs = [v] ∧ ∀ d, H1 d = none → Q (.ref C) (some d) (upd H1 d (.xd [(("field" : Str), v)]))
theorem pmk_e {x : Str} {a : Expr} {ta : TA} {p pos : Pos} {k : Nat} (T : PySem.Exo.Txt X.prog X.K X.mg x C fI) (hr : Room k X.A) (ha : PA X [a] ta) (hg : Gl X x := by rfl) (hdb : (x == ("__debug__" : Str)) = false := by decide)
    (he : starEach (a :: []) X.env = (false, eval a X.env) :: starEach [] X.env := by rfl) (hpl : (backTo pos (starEach [] X.env)).any (·.1) = false := by rfl) :
    PMk X (.Call (.Name x p) [a] [] pos) (tMkE C ta) := by
  intro pins s σ H Q I h
  refine wpAny_Call_Name_kw (ld_glob I hg T.gC ?_ hdb)
  refine PySem.W.callWith_K (h₀ := X.base) I.ok.mod.kin T.kC (thn (ha.run pos pins s σ H _ I h) fun us s1 hh => ?_) he hpl
  obtain ⟨vs, H1, I1, r1, v, ev, q1⟩ := hh
  subst ev
  refine ⟨I1.kIn, ?_⟩
  cases r1 with
  | cons rv rn =>
    rename_i v' us'
    cases rn
    show wpAny _ _ (call (.ref C) [v']) _ _ _
    have hlim := I1.nolimit
    obtain ⟨mb, hb1, hb2⟩ := I1.mod.blt
    have hbk := hb1.keeps I1.bk
    have hgk := I1.mod.glob.keeps I1.bk
    obtain ⟨hp, g, dr, tk, os⟩ := s1
    refine wpAny_call (PySem.Exo.made T I1.kIn hgk hbk hb2 hlim (by have := hr.dp; omega) fun h' tk' e d M => ?_)
    show MkP X pins σ Q (.ref e) ⟨h', g, dr, tk', os⟩
    obtain ⟨oe, fv, hoe, hc, hd, hdat, h1⟩ := M.obj
    have hns := M.ns
    obtain ⟨G', g1, g2⟩ := restrict h' fun b => decide (b ≠ e)
    have gk : ∀ b, b ≠ e → G'.get? b = h'.get? b := fun b hb => g1 b (decide_eq_true hb)
    have ge : G'.get? e = none := g2 e (by simp)
    have old : ∀ b o, hp.get? b = some o → G'.get? b = some o := fun b o q => (gk b (Nat.ne_of_lt (Nat.lt_of_lt_of_le (Heap.lt_size q) M.new))).trans (M.keep b o q)
    have ob : ObjOk X.prog X.w (upd H1 d (.xd [(("field" : Str), v)])) G' d (.xd [(("field" : Str), v)]) :=
      ⟨_, hns.at (fun o q => (gk d M.dne).trans q), fun f => relO_fld rv f⟩
    have J : Inv X pins σ (upd H1 d (.xd [(("field" : Str), v)])) ⟨G', g, dr, tk', os⟩ := I1.laid (t' := tk') old M.dbig ob
    refine ⟨e, oe, fv, ⟨G', g, dr, tk', os⟩, _, .ref C, some d, rfl, J, fun b o q => ?_, ge, hoe, ⟨hc, hd⟩, hdat, h1, ?_, rfl, I1.bare, raises_own T.exC T.tyC, q1 d (I1.hok.fresh M.dbig)⟩
    · by_cases hb : b = e
      · have q' : G'.get? b = some o := q
        rw [hb, ge] at q'; cases q'
      · exact (gk b hb).symm.trans q
    · rw [upd_ne (Ne.symm M.dne)]
      exact I1.hok.fresh M.new
/-- raise x(e) -/
theorem ps_raiseE {x : Str} {a : Expr} {ta : TA} {W : WX} {p pos pos2 : Pos} {k : Nat} (T : PySem.Exo.Txt X.prog X.K X.mg x C fI) (hr : Room k X.A) (tk : Takes X W) (ha : PA X [a] ta) (hc : X.calm = true := by rfl) (hg : Gl X x := by rfl) (hdb : (x == ("__debug__" : Str)) = false := by decide)
    (he : starEach (a :: []) X.env = (false, eval a X.env) :: starEach [] X.env := by rfl) (hpl : (backTo pos (starEach [] X.env)).any (·.1) = false := by rfl) :
    PS X (.Raise (some (.Call (.Name x p) [a] [] pos)) none pos2) (fun _ σ H => tMkE C ta σ H fun cls d H' => W cls d σ H') := ps_raise hc tk (pmk_e T hr ha hg hdb he hpl)
theorem xf_of {prog : Program} {K : PySem.W.Frag} {mg : Str → Option Value} {x : Str} (T : PySem.Exo.Txt prog K mg x C fI) : XfC K C := ⟨T.ga, T.gg, T.exC, T.hdC⟩
end
end Com
set_option Elab.async false
set_option linter.all false
set_option maxRecDepth 100000
set_option maxHeartbeats 4000000
/-! Defs that raise, calls within a try. -/
namespace Com
open PySem PySem.Spec PyProof.Rows L2
/-- within a def that lets out what E allows: a callee of the same wish -/
theorem passE {P : Program} {w : World} {K : PySem.W.Frag} {mg : Str → Option Value} {base : Heap} {N : List Str} {qual : Str} {scope : Scope} {f : Addr} {cd : Value} {A : Around} {outer : List Env} {s : Shared} {H : Hp} {E : XK} :
    Passes (L2.CX P w) (cxOf (L2.CX P w) P w K mg base N qual scope f cd A outer s H E) E :=
  passes_call (X := cxOf (L2.CX P w) P w K mg base N qual scope f cd A outer s H E) (takes_of rfl rfl rfl rfl) fun _ _ _ _ h => h
section
variable {P : Program} {w : World} {K : PySem.W.Frag} {mg : Str → Option Value} {base : Heap} {x qual : Str} {C : Addr} {st : Stmt} {ps N : List Str} {k : Nat} {sp : Sp}
theorem DefAt.okX (D : DefAt K mg x st ps) (S : FnScope N ps (defScope st)) (len : ∀ vs H Q E, sp vs H Q E → vs.length = ps.length)
    (hbody : ∀ (f : Addr) (cdv : Value) (A : Around) (outer : List Env) (s : Shared) (H : Hp) (vs : List V) (Q : VK) (E : XK), Room k (A.deeper (envOfC x (defScope st) s.heap.objs.size f cdv)) → sp vs H Q E →
      ∃ t, PSs (cxOf (L2.CX P w) P w K mg base N x (defScope st) f cdv A outer s H E) (defBody st) t ∧ t { nx := fun _ H' => Q .non H', rt := Q } (start N vs) H) : DefOk P w K mg base (L2.CX P w) (k + 1) x sp := by
  obtain ⟨f, fd, F, m, b⟩ := D.ex
  exact ⟨f, raw0 (F.okX S len (fun cdv A outer s H vs Q E hr h => hbody f cdv A outer s H vs Q E hr h)) b, m, F.kp⟩
theorem MethAt.fnX (D : MethAt K C x qual st ps) (S : FnScope N ps (defScope st)) (len : ∀ vs H Q E, sp vs H Q E → vs.length = ps.length)
    (hbody : ∀ (f : Addr) (cdv : Value) (A : Around) (outer : List Env) (s : Shared) (H : Hp) (vs : List V) (Q : VK) (E : XK), Room k (A.deeper (envOfC qual (defScope st) s.heap.objs.size f cdv)) → sp vs H Q E →
      ∃ t, PSs (cxOf (L2.CX P w) P w K mg base N qual (defScope st) f cdv A outer s H E) (defBody st) t ∧ t { nx := fun _ H' => Q .non H', rt := Q } (start N vs) H) : MethOk P w K mg base (L2.CX P w) (k + 1) C x sp := by
  obtain ⟨f, fd, F, m, b⟩ := D.ex
  exact ⟨f, raw0 (F.okX S len (fun cdv A outer s H vs Q E hr h => hbody f cdv A outer s H vs Q E hr h)) b, m⟩
end
/-! ### calls whose wish about exceptions speaks of the slots -/
section
variable {X : Cx} {CX : CXT} {k j : Nat} {C f : Addr} {sp : Sp} {E : XK} {ES : L2.St → XK} {x m : Str} {p pos apos : Pos} {o e : Expr} {es : List Expr} {ta : TE} {t : TA}
theorem runS {pins : List (Addr × Obj)} {σ : L2.St} {H : Hp} {s : Shared} {Q : VK} {us : List Value} {vs : List V} (F : FnR X.prog X.w X.K X.mg X.base CX j f sp) (hr : Room k X.A) (hjk : j ≤ k) (hx : PassesAt CX X σ E) (I : Inv X pins σ H s) (r : Vals vs us) (h : sp vs H Q E) :
    wpAny (model X.prog X.w) X.A (call (.ref f) us) (EP X pins σ Q) X.xe s := by
  refine wpAny_call (codeAny_mono (F X.A X.stack s H us vs Q E (hr.mono hjk) I.env0 r h) fun r s' hq => ?_)
  cases r with
  | error e => exact hx pins H s e s' I hq
  | ok fl =>
    cases fl with
    | ret u => exact I.after hq
    | next => exact False.elim hq
    | brk => exact False.elim hq
    | cont => exact False.elim hq
theorem runNewS {pins : List (Addr × Obj)} {σ : L2.St} {H : Hp} {s : Shared} {Q : VK} {us : List Value} {vs : List V} (M : Mk X.K C f) (F : FnR X.prog X.w X.K X.mg X.base CX j f sp) (hr : Room (k + 1) X.A) (hjk : j ≤ k)
    (hx : PassesAt CX X σ E) (I : Inv X pins σ H s) (r : Vals vs us)
    (h : ∀ x dx, H x = none → H dx = none → dx ≠ x → sp (.ref x :: vs) (upd (upd H dx (.own x)) x (.ins C dx [])) (fun v H2 => v = .non ∧ Q (.ref x) H2) E) :
    wpAny (model X.prog X.w) X.A (call (.ref C) us) (EP X pins σ Q) X.xe s := by
  have hq := h (s.heap.objs.size + 1) s.heap.objs.size (I.hok.fresh (Nat.le_succ _)) (I.hok.fresh (Nat.le_refl _)) (Nat.ne_of_lt (Nat.lt_succ_self _))
  have I2 := Inv.made (C := C) I
  have r2 : Vals (V.ref (s.heap.objs.size + 1) :: vs) (Value.ref (s.heap.objs.size + 1) :: us) := .cons rfl r
  refine wpAny_call (make_map (f := f) I.kIn M.makes M.init (beq_iff_eq.mp M.fn) (codeAny_mono (F _ X.stack _ _ (Value.ref (s.heap.objs.size + 1) :: us) _ _ E ((hr.make C us []).mono hjk)
    (I2.env0.make C us []) r2 hq) fun r s' hq' => ?_))
  cases r with
  | error e => exact hx pins _ _ e s' I2 hq'
  | ok fl =>
    cases fl with
    | ret u =>
      obtain ⟨v, H', I3, rv, ev, q3⟩ := I2.after hq'
      subst ev
      exact ⟨rv, ⟨V.ref (s.heap.objs.size + 1), H', I3, rfl, q3⟩⟩
    | next => exact False.elim hq'
    | brk => exact False.elim hq'
    | cont => exact False.elim hq'
def tNewS (C : Addr) (sp : Sp) (ES : L2.St → XK) (t : TA) : TE := fun σ H Q => t σ H fun vs H1 => ∀ x dx, H1 x = none → H1 dx = none → dx ≠ x →
  sp (.ref x :: vs) (upd (upd H1 dx (.own x)) x (.ins C dx [])) (fun v H2 => v = .non ∧ Q (.ref x) H2) (ES σ)
def tMthS (C : Addr) (m : Str) (sp : Sp) (ES : L2.St → XK) (ta : TE) (t : TA) : TE := fun σ H Q => ta σ H fun x H1 => ∃ a dx fs, x = .ref a ∧ H1 a = some (.ins C dx fs) ∧ fs.lookup m = none ∧ t σ H1 fun vs H2 => sp (x :: vs) H2 Q (ES σ)
theorem pe_newS (M : NewOk X.prog X.w X.K X.mg X.base CX j x C sp) (hr : Room (k + 1) X.A) (hjk : j ≤ k) (hx : ∀ σ, PassesAt CX X σ (ES σ)) (ha : PA X (e :: es) t) (hg : Gl X x := by rfl) (hdb : (x == ("__debug__" : Str)) = false := by decide)
    (he : starEach (e :: es) X.env = (false, eval e X.env) :: starEach es X.env := by rfl) (hpl : (backTo pos (starEach es X.env)).any (·.1) = false := by rfl) :
    PE X (.Call (.Name x p) (e :: es) [] pos) (tNewS C sp ES t) := by
  obtain ⟨f, F, M1⟩ := M.ex
  refine ⟨fun pins s σ H Q I h => ?_⟩
  refine wpAny_Call_Name_kw (ld_glob I hg M.mg ?_ hdb)
  refine PySem.W.callWith_K (h₀ := X.base) I.ok.mod.kin M1.kp (thn (ha.run pos pins s σ H _ I h) fun us s1 ⟨vs, H1, I1, r, q⟩ => ⟨I1.kIn, ?_⟩) he hpl
  exact runNewS M1 F hr hjk (hx σ) I1 r q
theorem pe_mthS {pl : Sem Bool} (he : PE X o ta) (c : Cls X.K C) (M : MethOk X.prog X.w X.K X.mg X.base CX j C m sp) (hr : Room k X.A) (hjk : j ≤ k) (hx : ∀ σ, PassesAt CX X σ (ES σ)) (ha : PA X (e :: es) t)
    (hst : starEach (e :: es) X.env = (false, eval e X.env) :: starEach es X.env := by rfl) (hpl : (backTo pos (starEach es X.env)).any (·.1) = false := by rfl)
    (ht : eval (.Call (.Attribute o m apos) (e :: es) [] pos) X.env = (do
      let ov ← eval o X.env
      standAt apos.atName
      let (f, first) ← holding [ov] (getMethod ov m pl)
      callWith pos f first (backTo pos (starEach (e :: es) X.env)) (backToKw pos (keywordEach [] X.env))) := by rfl) :
    PE X (.Call (.Attribute o m apos) (e :: es) [] pos) (tMthS C m sp ES ta t) := by
  obtain ⟨g, F, hm⟩ := M.ex
  refine ⟨fun pins s σ H Q I h => ?_⟩
  refine PySem.W.methodCall_KW (pl := pl) (thn (he.run pins s σ H _ I h) fun u s1 ⟨x, H1, I1, rx, a, dx, fs, ex, ea, l, q⟩ => ?_) ht
  subst ex
  obtain rfl : u = Value.ref a := rx
  refine getmeth_ok I1 ea c hm l ?_
  refine PySem.W.callWith_K (first := [.ref a]) (h₀ := X.base) I.ok.mod.kin hm.kp (thn (ha.run pos pins s1 σ H1 _ I1 q) fun us s2 ⟨vs, H2, I2, r, q2⟩ => ⟨I2.kIn, ?_⟩) hst hpl
  exact runS (us := .ref a :: us) (vs := .ref a :: vs) F hr hjk (hx σ) I2 (.cons rfl r) q2
end
section
open ClX
variable {X : Cx} {CX : CXT} {k j : Nat} {C p g q : Addr} {mc : Value} {sp : Sp} {E : XK} {ES : L2.St → XK} {o e : Expr} {es : List Expr} {f m : Str} {pos apos : Pos} {ta : TE} {t : TA} {pl : Sem Bool}
theorem run_cmS {pins : List (Addr × Obj)} {σ : L2.St} {H : Hp} {s : Shared} {Q : VK} {us : List Value} {vs : List V} (F : FnR X.prog X.w X.K X.mg X.base CX j g sp) (hr : Room k X.A) (hjk : j ≤ k) (hx : PassesAt CX X σ E) (I : Inv X ((q, PySem.W.methodObj (.ref g) (.ref C)) :: pins) σ H s)
    (r : Vals vs us) (h : sp (.ref C :: vs) H Q E) : wpAny (model X.prog X.w) X.A (call (.ref q) us) (EP X pins σ Q) X.xe s := by
  refine thn (Q := EP X ((q, PySem.W.methodObj (.ref g) (.ref C)) :: pins) σ Q) (wpAny_call (PySem.W.method_call (pin_at I) (codeAny_mono (F X.A X.stack s H (.ref C :: us) (.ref C :: vs) Q E (hr.mono hjk) I.env0 (.cons rfl r) h) fun r s' hq => ?_))) fun _ _ y => unpinE y
  cases r with
  | error e => exact hx _ H s e s' I hq
  | ok fl =>
    cases fl with
    | ret u => exact I.after hq
    | next => exact False.elim hq
    | brk => exact False.elim hq
    | cont => exact False.elim hq
def tClsS (C : Addr) (sp : Sp) (ES : L2.St → XK) (ta : TE) (t : TA) : TE := fun σ H Q => ta σ H fun x H1 => x = .ref C ∧ t σ H1 fun vs H2 => sp (.ref C :: vs) H2 Q (ES σ)
theorem pe_clsS (he : PE X o ta) (M : CMethOk X.prog X.w X.K X.mg X.base CX j C m sp) (hr : Room k X.A) (hjk : j ≤ k) (hx : ∀ σ, PassesAt CX X σ (ES σ)) (ha : PA X (e :: es) t)
    (hst : starEach (e :: es) X.env = (false, eval e X.env) :: starEach es X.env := by rfl) (hpl : (backTo pos (starEach es X.env)).any (·.1) = false := by rfl)
    (ht : eval (.Call (.Attribute o m apos) (e :: es) [] pos) X.env = (do
      let ov ← eval o X.env
      standAt apos.atName
      let (f, first) ← holding [ov] (getMethod ov m pl)
      callWith pos f first (backTo pos (starEach (e :: es) X.env)) (backToKw pos (keywordEach [] X.env))) := by rfl) :
    PE X (.Call (.Attribute o m apos) (e :: es) [] pos) (tClsS C sp ES ta t) := by
  obtain ⟨mc, p, g, r, c, F⟩ := M.ex
  refine ⟨fun pins s σ H Q I h => ?_⟩
  refine PySem.W.methodCall_KW (pl := pl) (thn (he.run pins s σ H _ I h) fun u s1 ⟨x, H1, I1, rx, ex, q⟩ => ?_) ht
  subst ex
  obtain rfl : u = Value.ref C := rx
  refine getmethcm_ok I1 r c fun s2 I2 => ?_
  refine callwith_cm I2 (base_none I1 (Nat.le_refl _)) c.fi (thn (ha.run pos _ s2 σ H1 _ I2 q) fun us s3 ⟨vs, H2, I3, rv, q2⟩ => ⟨⟨pin_at I3, I3.kIn⟩, ?_⟩) hst hpl
  exact run_cmS F hr hjk (hx σ) I3 rv q2
end
/-! ### try: a call / except C as e: a suite of one statement -/
section
variable {X : Cx} {x n : Str} {i : Nat} {e : Expr} {suite : List Stmt} {b₀ : Stmt} {np pos pos' pos2 : Pos} {C fI : Addr} {te : WX → TE} {ts : Addr → Value → Option Addr → TS}
/-- in a def that lets nothing out -/
theorem ps_tryE (T : PySem.Exo.Txt X.prog X.K X.mg x C fI) (hN : X.N.Nodup) (hi : X.N[i]? = some n) (hln : X.env.kindOf n = some .local)
    (hb : ∀ (W : WX) (pn : List (Addr × Obj)) (xe : Value → Shared → Prop), Takes (X.tr pn xe) W → PE (X.tr pn xe) e (te W))
    (hsu : ∀ (a : Addr) (oe : Obj) (cls : Value) (d : Option Addr) (pn : List (Addr × Obj)), Zc cls d oe → (∃ vs, oe.data = .fields vs) → PSs (X.suite a ((a, oe) :: pn)) (b₀ :: suite) (ts a cls d))
    (hs : X.stack = X.env :: X.outer := by rfl) (hf : X.env.frame = some X.env.locals := by rfl) (hg : Gl X x := by rfl) (hdb : (x == ("__debug__" : Str)) = false := by decide) (hsw : swapsWith e none pos2.line X.env = pure false := by rfl) :
    PS X (.Try [.Expr e pos2] [.ExceptHandler (some (.Name x np)) (some n) (b₀ :: suite) pos'] [] [] pos) (fun D σ H => tDrop (te (wAs X.K (.ref C) i ts (fun _ _ _ _ => False) D)) D σ H) :=
  ps_try_as (tb := fun W => tDrop (te W)) hs hf hN hi hln ⟨hg, hdb, .inl T.gC⟩ takes0 (fun W pn xe tk _ => pss_one (ps_expr (hb W pn xe tk) hsw)) hsu
end
end Com
set_option Elab.async false
set_option linter.all false
set_option maxRecDepth 100000
set_option maxHeartbeats 4000000
namespace K00
open PySem PySem.Spec PyProof.Rows L2 Com
def top (i : Nat) : Stmt := PySem.Challenge.pw_callsthrough_k00_share_lowest_terms.main.body.getD i (.Pass ⟨0, 0, 0, 0⟩)
local macro_rules | `(tactic| walk_at "rd1") => `(tactic| (first
  | refine ⟨_, rfl, ?_⟩
  | refine ⟨_, _, rfl, rfl, ?_⟩
  | refine ⟨.inl ⟨by decide, by decide⟩, ?_⟩
  | refine ⟨.inr ⟨by decide, by decide⟩, ?_⟩
  | refine ⟨(by decide : (0 : Int) < _), ?_⟩
  | refine ⟨⟨by decide, by decide⟩, ?_⟩
  | refine ⟨⟨by decide, by decide, by decide⟩, ?_⟩
  | refine ⟨rfl, ?_⟩
  | refine .inl ⟨_, rfl, ?_⟩
  | refine .inr ⟨_, rfl, ?_⟩
  | refine ⟨_, _, _, _, rfl, rfl, SqL.of upd_same, rfl, ?_⟩
  | refine ⟨_, _, _, _, rfl, rfl, upd_same, rfl, ?_⟩
  | refine ⟨mulm (by decide) (by decide), ?_⟩
  | refine ⟨_, _, _, _, rfl, rfl, SqL.of (by assumption), rfl, ?_⟩
  | refine ⟨_, _, _, _, rfl, rfl, (by assumption), rfl, ?_⟩))
local macro_rules | `(tactic| walk_at "rd") => `(tactic| repeat (walk_at "rd1"))
/-- the module's names that are built-ins -/
structure Blt (mg : Str → Option Value) : Prop where
  z_len : mg "len" = none
  z_abs : mg "abs" = none
  z_int : mg "int" = none
  z_bool : mg "bool" = none
  z_isinstance : mg "isinstance" = none
  z_all : mg "all" = none
  z_range : mg "range" = none
  g_gcd : mg "gcd" = some (.builtin "math.gcd")
/-! ### the draws -/
def spFlow (K : PySem.W.Frag) : Sp := fun vs H Q _ => ∃ (a : Addr) (ns : List Int) (k : Nat), vs = [.ref a, .int (k : Int)] ∧ SqL K H a (ns.map V.int) ∧ ns.length ≤ 63 ∧ k ≤ 1000 ∧
  ∀ p H', H p = none → FlowAt H' p → But p H H' → Q (.ref p) H'
def spPick : Sp := fun vs H Q _ => ∃ (a : Addr) (size : Int), vs = [.ref a, .int size] ∧ FlowAt H a ∧ 1 ≤ size ∧ size < 2 ^ 200 ∧
  ∀ d H', 0 ≤ d → d < size → FlowAt H' a → But a H H' → Q (.int d) H'
section
variable {P : Program} {w : World} {K : PySem.W.Frag} {mg : Str → Option Value} {base : Heap}
abbrev s_flow : Stmt := top 12
abbrev N_flow : List Str := ["_law_script", "_law_k", "_law_cell", "_law_number"]
theorem sc_flow : FnScope N_flow ["_law_script", "_law_k"] (defScope s_flow) := ⟨rfl, rfl, rfl, by decide +kernel, rfl, by decide +kernel, by decide +kernel⟩
theorem ok_flow (T : Blt mg) (D : DefAt K mg "_law_flow" s_flow ["_law_script", "_law_k"]) : DefOk P w K mg base CX0 1 "_law_flow" (spFlow K) := by
  refine D.ok sc_flow (fun vs H Q E h => ?_) (fun f cdv A outer s H vs Q E hr h => ?_)
  · obtain ⟨a, ns, k, rfl, _⟩ := h
    rfl
  obtain ⟨a, ns, k, rfl, hS, hl, hk, q⟩ := h
  refine ⟨_, (pss_cons (ps_set (i := 2) sc_flow.nd rfl (Or.inl rfl) pe_int)
  (pss_cons (ps_if (pt_cmpR op_lt (pv 1) (pe_callB (cl_len K) (by rfl) T.z_len (by decide +kernel) (pa_cons (pv 0) pa_nil)) (nomark _))
    (pss_one (ps_set (i := 2) sc_flow.nd rfl (Or.inl rfl) (pe_ix (ixL K) (pv 0) (pv 1) (fun _ _ => rfl))))
    pss_nil)
  (pss_cons (ps_set (i := 3) sc_flow.nd rfl (Or.inl rfl) (pe_op op_add (pe_op op_mul pe_int (pe_callB call_abs (by rfl) T.z_abs (by decide +kernel) (pa_cons (pv 2) pa_nil))) (pe_callTy call_int1 (by rfl) T.z_int (by decide +kernel) (pa_cons (pe_cmpR op_lt (pv 2) pe_int (nomark _)) pa_nil))))
  (pss_cons (ps_if (pt_cmpR op_ge (pv 3) (pe_op op_pow pe_int pe_int) (nomark _))
    (pss_one (ps_ret (pe_lst (pa_cons (pv 3) (pa_cons pe_int (pa_cons (pe_op op_mod (pe_callTy call_int1 (by rfl) T.z_int (by decide +kernel) (pa_cons (pv 3) pa_nil)) pe_int) pa_nil))))))
    pss_nil)
  (pss_one (ps_ret (pe_lst (pa_cons pe_int (pa_cons pe_int (pa_cons (pe_op op_mod (pe_callTy call_int1 (by rfl) T.z_int (by decide +kernel) (pa_cons (pe_op op_add (pe_op op_add (pv 3) (pe_op op_mul pe_int (pv 1))) pe_int) pa_nil)) pe_int) pa_nil)))))))))), ?_⟩
  refine ⟨_, rfl, _, rfl, a, _, rfl, .inl hS, _, _, rfl, rfl, _, rfl, ?_⟩
  refine ifB (fun c => ?_) (fun c => ?_)
  · have hk' : k < ns.length := by
      have c' := of_decide_eq_true c
      rw [List.length_map] at c'
      omega
    refine ⟨_, rfl, _, rfl, a, _, _, _, rfl, rfl, hS, atI_nat (j := k) (v := V.int ns[k]) (by rw [List.getElem?_map, List.getElem?_eq_getElem hk']; rfl), ?_⟩
    walk_at "rd"
    refine ifB (fun _ => ?_) (fun _ => ?_) <;> walk_at "rd" <;> exact ⟨by show 3 ≤ sizeLine; decide, fun p hp => q p _ hp .new .upd⟩
  · walk_at "rd"
    exact ⟨by show 3 ≤ sizeLine; decide, fun p hp => q p _ hp .new .upd⟩
abbrev s_pick : Stmt := top 13
abbrev N_pick : List Str := ["_law_flow_here", "_law_size", "_law_digit", "_law_number"]
theorem sc_pick : FnScope N_pick ["_law_flow_here", "_law_size"] (defScope s_pick) := ⟨rfl, rfl, rfl, by decide +kernel, rfl, by decide +kernel, by decide +kernel⟩
theorem ok_pick (T : Blt mg) (D : DefAt K mg "_law_pick" s_pick ["_law_flow_here", "_law_size"]) : DefOk P w K mg base CX0 1 "_law_pick" spPick := by
  refine D.ok sc_pick (fun vs H Q E h => ?_) (fun f cdv A outer s H vs Q E hr h => ?_)
  · obtain ⟨a, size, rfl, _⟩ := h
    rfl
  obtain ⟨a, size, rfl, ⟨n, c, r, h0⟩, s1, s2, q⟩ := h
  refine ⟨_, (pss_cons (ps_if (PW.pt (pw_and (pt_cmpR op_ge (pe_ix (ixL K) (pv 0) pe_int (fun _ _ => rfl)) (pv 1) (nomark _)) (pw_and1 (pt_cmpR op_gt (pe_ix (ixL K) (pv 0) pe_int (fun _ _ => rfl)) pe_int (nomark _)))))
    (pss_cons (ps_set (i := 2) sc_pick.nd rfl (Or.inl rfl) (pe_op op_mod (pe_callTy call_int1 (by rfl) T.z_int (by decide +kernel) (pa_cons (pe_ix (ixL K) (pv 0) pe_int (fun _ _ => rfl)) pa_nil)) (pv 1)))
    (pss_cons (ps_asg (pe_op op_fdivW (pe_ix (ixL K) (pv 0) pe_int (fun _ _ => rfl)) (pv 1)) (pg_sub (pv 0) pe_int set_list))
    (pss_one (ps_ret (pv 2)))))
    pss_nil)
  (pss_cons (ps_augS (pv 0) pe_int (getL K) pe_int ip_add set_list)
  (pss_cons (ps_set (i := 3) sc_pick.nd rfl (Or.inl rfl) (pe_op op_mod (pe_callTy call_int1 (by rfl) T.z_int (by decide +kernel) (pa_cons (pe_op op_mul (pe_op op_add (pe_op op_add (pe_ix (ixL K) (pv 0) pe_int (fun _ _ => rfl)) (pe_op op_mul pe_int (pe_ix (ixL K) (pv 0) pe_int (fun _ _ => rfl)))) pe_int) pe_int) pa_nil)) pe_int))
  (pss_cons (ps_set (i := 3) sc_pick.nd rfl (Or.inl rfl) (pe_op op_mod (pe_callTy call_int1 (by rfl) T.z_int (by decide +kernel) (pa_cons (pe_op op_mul (pv 3) (pe_op op_add (pe_op op_fdiv (pv 3) pe_int) pe_int)) pa_nil)) pe_int))
  (pss_cons (ps_set (i := 3) sc_pick.nd rfl (Or.inl rfl) (pe_op op_mod (pe_callTy call_int1 (by rfl) T.z_int (by decide +kernel) (pa_cons (pe_op op_mul (pv 3) (pe_op op_add (pe_op op_fdiv (pv 3) pe_int) pe_int)) pa_nil)) pe_int))
  (pss_one (ps_ret (pe_op op_mod (pe_op op_fdiv (pv 3) pe_int) (pv 1))))))))), ?_⟩
  walk_at "rd"
  refine ifB (fun c1 => ?_) (fun c1 => ?_)
  · walk_at "rd"
    refine ifB (fun c2 => ?_) (fun c2 => ?_)
    · walk_at "rd"
      refine ⟨(by show 0 < size; omega), ?_⟩
      walk_at "rd"
      refine ⟨divW s1 s2, ?_⟩
      walk_at "rd"
      exact q _ _ (Int.emod_nonneg _ (by omega)) (Int.emod_lt_of_pos _ (by omega)) .new .upd
    · walk_at "rd"
      refine ⟨(by show 0 < size; omega), ?_⟩
      exact q _ _ (Int.emod_nonneg _ (by omega)) (Int.emod_lt_of_pos _ (by omega)) .new .upd
  · walk_at "rd"
    refine ⟨(by show 0 < size; omega), ?_⟩
    exact q _ _ (Int.emod_nonneg _ (by omega)) (Int.emod_lt_of_pos _ (by omega)) .new .upd
end
/-! ### kinds -/
def spPlain (K : PySem.W.Frag) : Sp := fun vs H Q _ => ∃ x b, vs = [x] ∧ PlainI K H x b ∧ Q (.bl b) H
section
variable {P : Program} {w : World} {K : PySem.W.Frag} {mg : Str → Option Value} {base : Heap}
abbrev s_is_plain_int : Stmt := top 6
abbrev N_is_plain_int : List Str := ["value"]
theorem sc_is_plain_int : FnScope N_is_plain_int ["value"] (defScope s_is_plain_int) := ⟨rfl, rfl, rfl, by decide +kernel, rfl, by decide +kernel, by decide +kernel⟩
theorem ok_is_plain_int (T : Blt mg) (D : DefAt K mg "is_plain_int" s_is_plain_int ["value"]) : DefOk P w K mg base CX0 1 "is_plain_int" (spPlain K) := by
  refine D.ok sc_is_plain_int (fun vs H Q E h => ?_) (fun f cdv A outer s H vs Q E hr h => ?_)
  · obtain ⟨x, b, rfl, _⟩ := h
    rfl
  obtain ⟨x, b, rfl, ⟨t, b1, ty, k1, kF, kT⟩, q⟩ := h
  refine ⟨_, (pss_one (ps_ret (pe_and (pe_callB (cl_isi K) (by rfl) T.z_isinstance (by decide +kernel) (pa_cons (pv 0) (pa_cons (pe_bltn (v := .ty "int") (by rfl) T.z_int (by decide +kernel) rfl) pa_nil))) (pe_one (pe_not (pe_callB (cl_isi K) (by rfl) T.z_isinstance (by decide +kernel) (pa_cons (pv 0) (pa_cons (pe_bltn (v := .ty "bool") (by rfl) T.z_bool (by decide +kernel) rfl) pa_nil)))))))), ?_⟩
  refine ⟨_, rfl, x, _, t, _, b1, rfl, .ty "int", ty, k1, _, rfl, ?_⟩
  refine ifB (fun c => ?_) (fun c => ?_)
  · obtain ⟨b2, k2, rfl⟩ := kT c
    exact ⟨_, rfl, x, _, t, _, b2, rfl, .ty "bool", ty, k2, _, rfl, q⟩
  · rw [kF c] at q
    exact q
end
/-! ### shares, by good arguments -/
def shF (n d : Int) : List (Str × V) := [("top", .int n), ("bottom", .int d)]
def ShO (C : Addr) (H : Hp) (p : Addr) (n d : Int) : Prop := ∃ dx, H p = some (.ins C dx (shF n d))
theorem ShO.same {C : Addr} {H H' : Hp} {p : Addr} {n d : Int} (s : Same H H') (h : ShO C H p n d) : ShO C H' p n d := let ⟨dx, e⟩ := h; ⟨dx, s _ _ e⟩
theorem tb : ¬ (("top" : Str) = "bottom") := by decide +kernel
theorem shF_put (n d : Int) : putF "bottom" (.int d) (putF "top" (.int n) []) = shF n d := by
  rw [putF_nil, putF_ne tb, putF_nil]
  rfl
theorem shF_top (n d : Int) : (shF n d).lookup ("top" : Str) = some (.int n) := lk_eq
theorem shF_bottom (n d : Int) : (shF n d).lookup ("bottom" : Str) = some (.int d) := by
  unfold shF
  rw [lk_ne (by decide +kernel), lk_eq]
theorem shF_no (n d : Int) {f : Str} (h1 : (f == ("top" : Str)) = false) (h2 : (f == ("bottom" : Str)) = false) : (shF n d).lookup f = none := by
  unfold shF
  rw [lk_ne h1, lk_ne h2]
  rfl
/-- what the top has made of the class -/
structure ShT (K : PySem.W.Frag) (mg : Str → Option Value) (C : Addr) : Prop where
  cl : Cls K C
  nT : NoAttr K C "top"
  nB : NoAttr K C "bottom"
  ca : PySem.W.findIn K (.ref C) "__class__" = some (some (.builtin "object.__class__"))
  cn : PySem.W.specialIn K (.builtin "object.__class__") "__get__" = some (some (.builtin "getset_descriptor.__get__"))
  ct : PySem.W.takesIn K (.builtin "object.__class__") = some true
  cm : PySem.W.mroIn K C (.type "object") = some true
  kI : PySem.W.kitOne K (.type "int") (.ref C) = some false
  fS : PySem.W.notFirst K C (.ref C) = true
  g_Share : mg "Share" = some (.ref C)
theorem shTy {K : PySem.W.Frag} {mg : Str → Option Value} {C : Addr} (T : ShT K mg C) {H : Hp} {p dx : Addr} {fs : List (Str × V)} (h : H p = some (.ins C dx fs)) : TyX K H (.ref p) (.ref C) := .base (.ins h T.cl T.ca T.cn T.ct T.cm)
def Old (p : Addr) (H H' : Hp) : Prop := ∀ b o, H b = some o → b ≠ p → H' b = some o
def spInit (C : Addr) : Sp := fun vs H Q _ => ∃ (p dx : Addr) (t b : Int), vs = [.ref p, .int t, .int b] ∧ H p = some (.ins C dx []) ∧ b ≠ 0 ∧ B b 8000 ∧ ∀ H', ShO C H' p (Num.nt t b) (Num.nb t b) → Old p H H' → Q .non H'
/-- an operand: a share, or an int -/
def Opd (C : Addr) (H : Hp) (x : V) (n d : Int) : Prop := (∃ p, x = .ref p ∧ ShO C H p n d) ∨ (x = .int n ∧ d = 1)
theorem Opd.same {C : Addr} {H H' : Hp} {x : V} {n d : Int} (s : Same H H') (h : Opd C H x n d) : Opd C H' x n d := h.elim (fun ⟨p, e, z⟩ => .inl ⟨p, e, z.same s⟩) .inr
def spOpd (C : Addr) : Sp := fun vs H Q _ => ∃ x n d, vs = [x] ∧ Opd C H x n d ∧ Q (.bl true) H
def spParts (C : Addr) : Sp := fun vs H Q _ => ∃ x n d, vs = [x] ∧ Opd C H x n d ∧ ∀ t H', H' t = some (.tup [.int n, .int d]) → Same H H' → Q (.ref t) H'
/-- p op x: the answer is the share f n1 d1 n2 d2 / g .. -/
def spBin (C : Addr) (f g : Int → Int → Int → Int → Int) : Sp := fun vs H Q _ => ∃ (p : Addr) (x : V) (n d n2 d2 : Int), vs = [.ref p, x] ∧ ShO C H p n d ∧ Opd C H x n2 d2 ∧ 0 < d ∧ 0 < d2 ∧ B n 1000 ∧ B d 1000 ∧ B n2 1000 ∧ B d2 1000 ∧
  ∀ q H', ShO C H' q (Num.nt (f n d n2 d2) (g n d n2 d2)) (Num.nb (f n d n2 d2) (g n d n2 d2)) → Same H H' → Q (.ref q) H'
def fAdd (n d n2 d2 : Int) : Int := n * d2 + n2 * d
def fSub (n d n2 d2 : Int) : Int := n * d2 + -n2 * d
def fMul (n _ n2 _ : Int) : Int := n * n2
def gMul (_ d _ d2 : Int) : Int := d * d2
def spUn (C : Addr) (f : Int → Int) : Sp := fun vs H Q _ => ∃ (p : Addr) (n d : Int), vs = [.ref p] ∧ ShO C H p n d ∧ 0 < d ∧ B n 1000 ∧ B d 1000 ∧ ∀ q H', ShO C H' q (Num.nt (f n) d) (Num.nb (f n) d) → Same H H' → Q (.ref q) H'
def absI (n : Int) : Int := if n < 0 then -n else n
def spBelow (C : Addr) : Sp := fun vs H Q _ => ∃ (p : Addr) (x : V) (n d n2 d2 : Int), vs = [.ref p, x] ∧ ShO C H p n d ∧ Opd C H x n2 d2 ∧ B n 1000 ∧ B d 1000 ∧ B n2 1000 ∧ B d2 1000 ∧ ∀ H', Same H H' → Q (.bl (decide (n * d2 < n2 * d))) H'
def spEq (C : Addr) : Sp := fun vs H Q _ => ∃ (p q : Addr) (n d n2 d2 : Int), vs = [.ref p, .ref q] ∧ ShO C H p n d ∧ ShO C H q n2 d2 ∧ Q (.bl (decide (n = n2) && decide (d = d2))) H
theorem new_sh {C : Addr} {H : Hp} {R : VK} {E : XK} {x dx : Addr} {t b : Int} (hb : b ≠ 0) (hB : B b 8000) (hx : H x = none) (hdx : H dx = none) (q : ∀ H', ShO C H' x (Num.nt t b) (Num.nb t b) → Same H H' → R .non H') :
    spInit C (.ref x :: [.int t, .int b]) (upd (upd H dx (.own x)) x (.ins C dx [])) R E := ⟨x, dx, t, b, rfl, upd_same, hb, hB, fun H' e old => q H' e (Same.made hx hdx old)⟩
theorem dec_int (i j : Int) : decide (V.int i = V.int j) = decide (i = j) := by simp
section
variable {P : Program} {w : World} {K : PySem.W.Frag} {mg : Str → Option Value} {base : Heap} {C : Addr}
abbrev s_is_operand : Stmt := top 8
abbrev N_is_operand : List Str := ["value"]
theorem sc_is_operand : FnScope N_is_operand ["value"] (defScope s_is_operand) := ⟨rfl, rfl, rfl, by decide +kernel, rfl, by decide +kernel, by decide +kernel⟩
theorem ok_is_operand (T : Blt mg) (X : ShT K mg C) (D_is_plain_int : DefOk P w K mg base CX0 1 "is_plain_int" (spPlain K)) (D : DefAt K mg "_is_operand" s_is_operand ["value"]) : DefOk P w K mg base CX0 2 "_is_operand" (spOpd C) := by
  refine D.ok sc_is_operand (fun vs H Q E h => ?_) (fun f cdv A outer s H vs Q E hr h => ?_)
  · obtain ⟨x, n, d, rfl, _⟩ := h
    rfl
  obtain ⟨x, n, d, rfl, hx, q⟩ := h
  have g_Share := X.g_Share
  refine ⟨_, (pss_one (ps_ret (pe_or (pe_callB (cl_isi K) (by rfl) T.z_isinstance (by decide +kernel) (pa_cons (pv 0) (pa_cons (pe_gcls (by rfl) g_Share) pa_nil))) (pe_one (pe_def D_is_plain_int hr (by decide) pass0 (pa_cons (pv 0) pa_nil)))))), ?_⟩
  rcases hx with ⟨p, rfl, dx, hp⟩ | ⟨rfl, rfl⟩
  · exact ⟨_, rfl, _, .ref C, _, .ref C, true, rfl, .own C, shTy X hp, kit_self, _, rfl, q⟩
  · exact ⟨_, rfl, _, .ref C, _, .ref C, false, rfl, .own C, .base (.int _), X.kI, _, rfl, _, rfl, _, true, rfl, PlainI.int _, q⟩
abbrev s_parts : Stmt := top 9
abbrev N_parts : List Str := ["value"]
theorem sc_parts : FnScope N_parts ["value"] (defScope s_parts) := ⟨rfl, rfl, rfl, by decide +kernel, rfl, by decide +kernel, by decide +kernel⟩
theorem ok_parts (T : Blt mg) (X : ShT K mg C) (D : DefAt K mg "_parts" s_parts ["value"]) : DefOk P w K mg base CX0 1 "_parts" (spParts C) := by
  refine D.ok sc_parts (fun vs H Q E h => ?_) (fun f cdv A outer s H vs Q E hr h => ?_)
  · obtain ⟨x, n, d, rfl, _⟩ := h
    rfl
  obtain ⟨x, n, d, rfl, hx, q⟩ := h
  have g_Share := X.g_Share
  refine ⟨_, (pss_cons (ps_if (pt_val (pe_callB (cl_isi K) (by rfl) T.z_isinstance (by decide +kernel) (pa_cons (pv 0) (pa_cons (pe_gcls (by rfl) g_Share) pa_nil))))
    (pss_one (ps_ret (pe_tup (pa_cons (pe_fldK K (pv 0)) (pa_cons (pe_fldK K (pv 0)) pa_nil)))))
    pss_nil)
  (pss_one (ps_ret (pe_tup (pa_cons (pv 0) (pa_cons pe_int pa_nil)))))), ?_⟩
  rcases hx with ⟨p, rfl, dx, hp⟩ | ⟨rfl, rfl⟩
  · refine ⟨_, rfl, _, .ref C, _, .ref C, true, rfl, .own C, shTy X hp, kit_self, _, rfl, ?_⟩
    exact ⟨_, rfl, p, C, dx, _, _, rfl, hp, X.cl, X.nT, shF_top _ _, _, rfl, p, C, dx, _, _, rfl, hp, X.cl, X.nB, shF_bottom _ _, (by show 2 ≤ sizeLine; decide), fun t ht => q t _ upd_same (Com.Same.upd ht)⟩
  · refine ⟨_, rfl, _, .ref C, _, .ref C, false, rfl, .own C, .base (.int _), X.kI, _, rfl, ?_⟩
    exact ⟨_, rfl, (by show 2 ≤ sizeLine; decide), fun t ht => q t _ upd_same (Com.Same.upd ht)⟩
abbrev s_Share___init : Stmt := inClass (top 10) 0
abbrev N_Share___init : List Str := ["self", "top", "bottom", "common"]
theorem sc_Share___init : FnScope N_Share___init ["self", "top", "bottom"] (defScope s_Share___init) := ⟨rfl, rfl, rfl, by decide +kernel, rfl, by decide +kernel, by decide +kernel⟩
theorem ok_init (T : Blt mg) (X : ShT K mg C) (D_is_plain_int : DefOk P w K mg base CX0 1 "is_plain_int" (spPlain K)) {f : Addr} {fd : FuncData} (F : FunD K "__init__" "Share.__init__" (defArgs s_Share___init) (defBody s_Share___init) (defScope s_Share___init) [.int 1] [] f fd) : FnOk P w K mg base CX0 2 f fd ["self", "top", "bottom"] (spInit C) := by
  refine F.ok sc_Share___init (fun vs H Q E h => ?_) (fun cdv A outer s H vs Q E hr h => ?_)
  · obtain ⟨p, dx, t, b, rfl, _⟩ := h
    rfl
  obtain ⟨p, dx, t, b, rfl, hp, hb, hB, q⟩ := h
  refine ⟨_, (pss_cons (ps_if (pt_not (pt_val (pe_def D_is_plain_int hr (by decide) pass0 (pa_cons (pv 1) pa_nil))))
    (pss_one ps_never)
    pss_nil)
  (pss_cons (ps_if (PW.pt (pw_or (pt_not (pt_val (pe_def D_is_plain_int hr (by decide) pass0 (pa_cons (pv 2) pa_nil)))) (pw_or1 (pt_cmpR op_eq (pv 2) pe_int (nomark _)))))
    (pss_one ps_never)
    pss_nil)
  (pss_cons (ps_set (i := 3) sc_Share___init.nd rfl (Or.inl rfl) (pe_gbfn cr_gcd T.g_gcd (pa_cons (pv 1) (pa_cons (pv 2) pa_nil))))
  (pss_cons (ps_if (pt_cmpR op_lt (pv 2) pe_int (nomark _))
    (pss_one (ps_set (i := 3) sc_Share___init.nd rfl (Or.inl rfl) (pe_un un_neg (pv 3))))
    pss_nil)
  (pss_cons (ps_fldK K (pv 0) (pe_op fdivX (pv 1) (pv 3)))
  (pss_one (ps_fldK K (pv 0) (pe_op fdivX (pv 2) (pv 3))))))))), ?_⟩
  refine ⟨_, rfl, _, true, rfl, PlainI.int t, _, rfl, ?_⟩
  refine ⟨_, rfl, _, true, rfl, PlainI.int b, _, rfl, ?_⟩
  refine ⟨_, rfl, rfl, _, rfl, ?_⟩
  have e0 : decide (V.int b = V.int 0) = false := by rw [dec_int]; exact decide_eq_false hb
  rw [e0]
  refine ⟨_, rfl, _, rfl, t, b, rfl, ?_⟩
  refine ⟨_, rfl, _, _, rfl, rfl, _, rfl, ?_⟩
  have hc : CDivX t (Num.cm t b) ∧ CDivX b (Num.cm t b) := ⟨⟨Num.cm_ne hb, (B.le hB (Num.cm_le t b hb)).mono (by decide)⟩, ⟨Num.cm_ne hb, (B.le hB (Num.cm_le t b hb)).mono (by decide)⟩⟩
  have fin : ∀ H', H' = upd (upd H p (.ins C dx (putF "top" (.int (Num.nt t b)) []))) p (.ins C dx (putF "bottom" (.int (Num.nb t b)) (putF "top" (.int (Num.nt t b)) []))) → Q .non H' := fun H' e => by
    subst e
    refine q _ ⟨dx, by rw [upd_same, shF_put]⟩ fun z u hz ne => ?_
    rw [upd_ne ne, upd_ne ne]
    exact hz
  refine ifB (fun c => ?_) (fun c => ?_)
  · have ec : Num.cm t b = -Num.gc t b := by unfold Num.cm; rw [if_pos (of_decide_eq_true c)]
    rw [ec] at hc
    refine ⟨_, rfl, _, rfl, ?_⟩
    refine ⟨_, rfl, _, rfl, _, _, rfl, rfl, hc.1, _, rfl, p, C, dx, [], rfl, hp, X.cl, X.nT, (by show 0 < 1000; decide), ?_⟩
    refine ⟨_, rfl, _, rfl, _, _, rfl, rfl, hc.2, _, rfl, p, C, dx, _, rfl, upd_same, X.cl, X.nB, (by rw [putF_nil]; show 1 < 1000; decide), ?_⟩
    refine fin _ ?_
    unfold Num.nt Num.nb
    rw [ec]
    rfl
  · have ec : Num.cm t b = Num.gc t b := by unfold Num.cm; rw [if_neg (of_decide_eq_false c)]
    rw [ec] at hc
    refine ⟨_, rfl, _, rfl, _, _, rfl, rfl, hc.1, _, rfl, p, C, dx, [], rfl, hp, X.cl, X.nT, (by show 0 < 1000; decide), ?_⟩
    refine ⟨_, rfl, _, rfl, _, _, rfl, rfl, hc.2, _, rfl, p, C, dx, _, rfl, upd_same, X.cl, X.nB, (by rw [putF_nil]; show 1 < 1000; decide), ?_⟩
    refine fin _ ?_
    unfold Num.nt Num.nb
    rw [ec]
    rfl
end
end K00
set_option Elab.async false
set_option linter.all false
set_option maxRecDepth 100000
set_option maxHeartbeats 4000000
namespace K00
open PySem PySem.Spec PyProof.Rows L2 Com
local macro_rules | `(tactic| walk_at "rd1") => `(tactic| (first
  | refine ⟨_, rfl, ?_⟩
  | refine ⟨_, _, rfl, rfl, ?_⟩
  | refine ⟨.inl ⟨by decide, by decide⟩, ?_⟩
  | refine ⟨.inr ⟨by decide, by decide⟩, ?_⟩
  | refine ⟨(by decide : (0 : Int) < _), ?_⟩
  | refine ⟨⟨by decide, by decide⟩, ?_⟩
  | refine ⟨⟨by decide, by decide, by decide⟩, ?_⟩
  | refine ⟨rfl, ?_⟩
  | refine .inl ⟨_, rfl, ?_⟩
  | refine .inr ⟨_, rfl, ?_⟩
  | refine ⟨_, _, _, _, rfl, rfl, SqL.of upd_same, rfl, ?_⟩
  | refine ⟨_, _, _, _, rfl, rfl, upd_same, rfl, ?_⟩
  | refine ⟨mulm (by decide) (by decide), ?_⟩
  | refine ⟨_, _, _, _, rfl, rfl, SqL.of (by assumption), rfl, ?_⟩
  | refine ⟨_, _, _, _, rfl, rfl, (by assumption), rfl, ?_⟩))
local macro_rules | `(tactic| walk_at "rd") => `(tactic| repeat (walk_at "rd1"))
/-! ### shares of any arguments -/
def NumV (K : PySem.W.Frag) (H : Hp) (x : V) (b : Bool) : Prop := (∃ t, x = .int t ∧ b = true) ∨ (PlainI K H x false ∧ b = false)
def BotV (K : PySem.W.Frag) (H : Hp) (y : V) (b : Bool) : Prop := (∃ t : Int, y = .int t ∧ t ≠ 0 ∧ B t 8000 ∧ b = true) ∨ (y = .int 0 ∧ b = false) ∨ (PlainI K H y false ∧ b = false)
def RefX (CE : Addr) (H : Hp) (n : Str) (E : XK) : Prop := ∀ d H', H' d = some (.xd [("field", .str n)]) → Same H H' → E (.ref CE) (some d) H'
def fld2 (b1 : Bool) : Str := if b1 = false then "top" else "bottom"
theorem NumV.same {K : PySem.W.Frag} {H H' : Hp} (s : Same H H') {x : V} {b : Bool} (h : NumV K H x b) : NumV K H' x b := h.elim .inl fun ⟨p, e⟩ => .inr ⟨p.same s, e⟩
theorem BotV.same {K : PySem.W.Frag} {H H' : Hp} (s : Same H H') {x : V} {b : Bool} (h : BotV K H x b) : BotV K H' x b := h.elim .inl fun h => .inr (h.elim .inl fun ⟨p, e⟩ => .inr ⟨p.same s, e⟩)
def spInitX (K : PySem.W.Frag) (C CE : Addr) : Sp := fun vs H Q E => ∃ (p dx : Addr) (x y : V) (b1 b2 : Bool), vs = [.ref p, x, y] ∧ H p = some (.ins C dx []) ∧ NumV K H x b1 ∧ BotV K H y b2 ∧
  ((b1 && b2) = true → ∀ H', Old p H H' → Q .non H') ∧ ((b1 && b2) = false → RefX CE H (fld2 b1) E)
theorem new_shX {K : PySem.W.Frag} {C CE : Addr} {H : Hp} {R : VK} {E : XK} {a dx : Addr} {x y : V} {b1 b2 : Bool} (hx : NumV K H x b1) (hy : BotV K H y b2) (ha : H a = none) (hdx : H dx = none) (q : (b1 && b2) = true → ∀ H', Same H H' → R .non H') (qe : (b1 && b2) = false → RefX CE H (fld2 b1) E) :
    spInitX K C CE (.ref a :: [x, y]) (upd (upd H dx (.own a)) a (.ins C dx [])) R E := by
  have s0 : Same H (upd (upd H dx (.own a)) a (.ins C dx [])) := Same.made ha hdx fun b o e _ => e
  exact ⟨a, dx, x, y, b1, b2, rfl, upd_same, hx.same s0, hy.same s0, fun h H' old => q h H' (Same.made ha hdx old), fun h d H' e s => qe h d H' e (s0.trans s)⟩
def ans2 (b1 b2 : Bool) : V := if (b1 && b2) = true then .non else .str (fld2 b1)
def spRefused (K : PySem.W.Frag) : Sp := fun vs H Q _ => ∃ (x y : V) (b1 b2 : Bool), vs = [x, y] ∧ NumV K H x b1 ∧ BotV K H y b2 ∧ ∀ H', Same H H' → Q (ans2 b1 b2) H'
def spEqA (K : PySem.W.Frag) (C : Addr) : Sp := fun vs H Q _ => ∃ (p : Addr) (y : V) (n d : Int) (b : Bool), vs = [.ref p, y] ∧ ShO C H p n d ∧
  ((∃ q n2 d2, y = .ref q ∧ ShO C H q n2 d2 ∧ b = (decide (n = n2) && decide (d = d2))) ∨ (∃ t, TyX K H y t ∧ PySem.W.kitOne K t (.ref C) = some false ∧ b = false)) ∧ Q (.bl b) H
theorem fld_look (v : V) : List.lookup ("field" : Str) [(("field" : Str), v)] = some v := lk_eq
section
variable {P : Program} {w : World} {K : PySem.W.Frag} {mg : Str → Option Value} {base : Heap} {C CE fE : Addr}
theorem ok_initX (T : Blt mg) (X : ShT K mg C) (TE : PySem.Exo.Txt P K mg "BadShare" CE fE) (D_is_plain_int : DefOk P w K mg base CX0 1 "is_plain_int" (spPlain K)) {f : Addr} {fd : FuncData} (F : FunD K "__init__" "Share.__init__" (defArgs s_Share___init) (defBody s_Share___init) (defScope s_Share___init) [.int 1] [] f fd) : FnOk P w K mg base (L2.CX P w) 2 f fd ["self", "top", "bottom"] (spInitX K C CE) := by
  refine F.ok sc_Share___init (fun vs H Q E h => ?_) (fun cdv A outer s H vs Q E hr h => ?_)
  · obtain ⟨p, dx, x, y, b1, b2, rfl, _⟩ := h
    rfl
  obtain ⟨p, dx, x, y, b1, b2, rfl, hp, hx, hy, q, qe⟩ := h
  refine ⟨_, (pss_cons (ps_if (pt_not (pt_val (pe_def D_is_plain_int hr (by decide) pass0 (pa_cons (pv 1) pa_nil))))
    (pss_one (ps_raiseE TE hr (takes_of rfl rfl rfl rfl) (by exact (pa_cons pe_str pa_nil))))
    pss_nil)
  (pss_cons (ps_if (PW.pt (pw_or (pt_not (pt_val (pe_def D_is_plain_int hr (by decide) pass0 (pa_cons (pv 2) pa_nil)))) (pw_or1 (pt_cmpR op_eq (pv 2) pe_int (nomark _)))))
    (pss_one (ps_raiseE TE hr (takes_of rfl rfl rfl rfl) (by exact (pa_cons pe_str pa_nil))))
    pss_nil)
  (pss_cons (ps_set (i := 3) sc_Share___init.nd rfl (Or.inl rfl) (pe_gbfn cr_gcd T.g_gcd (pa_cons (pv 1) (pa_cons (pv 2) pa_nil))))
  (pss_cons (ps_if (pt_cmpR op_lt (pv 2) pe_int (nomark _))
    (pss_one (ps_set (i := 3) sc_Share___init.nd rfl (Or.inl rfl) (pe_un un_neg (pv 3))))
    pss_nil)
  (pss_cons (ps_fldK K (pv 0) (pe_op fdivX (pv 1) (pv 3)))
  (pss_one (ps_fldK K (pv 0) (pe_op fdivX (pv 2) (pv 3))))))))), ?_⟩
  rcases hx with ⟨t, rfl, rfl⟩ | ⟨px, rfl⟩
  · refine ⟨_, rfl, _, true, rfl, PlainI.int t, _, rfl, ?_⟩
    rcases hy with ⟨b, rfl, hb, hB, rfl⟩ | ⟨rfl, rfl⟩ | ⟨py, rfl⟩
    · refine ⟨_, rfl, _, true, rfl, PlainI.int b, _, rfl, ?_⟩
      refine ⟨_, rfl, rfl, _, rfl, ?_⟩
      have e0 : decide (V.int b = V.int 0) = false := by rw [dec_int]; exact decide_eq_false hb
      rw [e0]
      refine ⟨_, rfl, _, rfl, t, b, rfl, ?_⟩
      refine ⟨_, rfl, _, _, rfl, rfl, _, rfl, ?_⟩
      have hc : CDivX t (Num.cm t b) ∧ CDivX b (Num.cm t b) := ⟨⟨Num.cm_ne hb, (B.le hB (Num.cm_le t b hb)).mono (by decide)⟩, ⟨Num.cm_ne hb, (B.le hB (Num.cm_le t b hb)).mono (by decide)⟩⟩
      refine ifB (fun c => ?_) (fun c => ?_)
      · have ec : Num.cm t b = -Num.gc t b := by unfold Num.cm; rw [if_pos (of_decide_eq_true c)]
        rw [ec] at hc
        refine ⟨_, rfl, _, rfl, ?_⟩
        refine ⟨_, rfl, _, rfl, _, _, rfl, rfl, hc.1, _, rfl, p, C, dx, [], rfl, hp, X.cl, X.nT, (by show 0 < 1000; decide), ?_⟩
        refine ⟨_, rfl, _, rfl, _, _, rfl, rfl, hc.2, _, rfl, p, C, dx, _, rfl, upd_same, X.cl, X.nB, (by rw [putF_nil]; show 1 < 1000; decide), ?_⟩
        exact q rfl _ fun z u hz ne => by rw [upd_ne ne, upd_ne ne]; exact hz
      · have ec : Num.cm t b = Num.gc t b := by unfold Num.cm; rw [if_neg (of_decide_eq_false c)]
        rw [ec] at hc
        refine ⟨_, rfl, _, rfl, _, _, rfl, rfl, hc.1, _, rfl, p, C, dx, [], rfl, hp, X.cl, X.nT, (by show 0 < 1000; decide), ?_⟩
        refine ⟨_, rfl, _, rfl, _, _, rfl, rfl, hc.2, _, rfl, p, C, dx, _, rfl, upd_same, X.cl, X.nB, (by rw [putF_nil]; show 1 < 1000; decide), ?_⟩
        exact q rfl _ fun z u hz ne => by rw [upd_ne ne, upd_ne ne]; exact hz
    · refine ⟨_, rfl, _, true, rfl, PlainI.int 0, _, rfl, ?_⟩
      refine ⟨_, rfl, rfl, _, rfl, ?_⟩
      have e0 : decide (V.int 0 = V.int 0) = true := by simp
      rw [e0]
      exact ⟨_, rfl, fun d hd => qe rfl d _ upd_same (Com.Same.upd hd)⟩
    · exact ⟨_, rfl, _, false, rfl, py, _, rfl, _, rfl, fun d hd => qe rfl d _ upd_same (Com.Same.upd hd)⟩
  · exact ⟨_, rfl, _, false, rfl, px, _, rfl, _, rfl, fun d hd => qe rfl d _ upd_same (Com.Same.upd hd)⟩
abbrev s_Share___eq : Stmt := inClass (top 10) 1
abbrev N_Share___eq : List Str := ["self", "other"]
theorem sc_Share___eq : FnScope N_Share___eq ["self", "other"] (defScope s_Share___eq) := ⟨rfl, rfl, rfl, by decide +kernel, rfl, by decide +kernel, by decide +kernel⟩
theorem ok_eqA (T : Blt mg) (X : ShT K mg C) (D : MethAt K C "__eq__" "Share.__eq__" s_Share___eq ["self", "other"]) : MethOk P w K mg base CX0 1 C "__eq__" (spEqA K C) := by
  refine D.fn sc_Share___eq (fun vs H Q E h => ?_) (fun f cdv A outer s H vs Q E hr h => ?_)
  · obtain ⟨p, y, n, d, b, rfl, _⟩ := h
    rfl
  obtain ⟨p, y, n, d, b, rfl, ⟨dx, hp⟩, hy, q⟩ := h
  have g_Share := X.g_Share
  refine ⟨_, (pss_one (ps_ret (pe_and (pe_callB (cl_isi K) (by rfl) T.z_isinstance (by decide +kernel) (pa_cons (pv 1) (pa_cons (pe_gcls (by rfl) g_Share) pa_nil))) (pe_and (pe_cmpR op_eq (pe_fldK K (pv 0)) (pe_fldK K (pv 1)) (nomark _)) (pe_one (pe_cmpR op_eq (pe_fldK K (pv 0)) (pe_fldK K (pv 1)) (nomark _))))))), ?_⟩
  rcases hy with ⟨p', n2, d2, rfl, ⟨dy, hp'⟩, rfl⟩ | ⟨t, ty, k, rfl⟩
  · refine ⟨_, rfl, _, .ref C, _, .ref C, true, rfl, .own C, shTy X hp', kit_self, _, rfl, ?_⟩
    refine ⟨_, rfl, p, C, dx, _, _, rfl, hp, X.cl, X.nT, shF_top _ _, _, rfl, p', C, dy, _, _, rfl, hp', X.cl, X.nT, shF_top _ _, rfl, _, rfl, ?_⟩
    rw [dec_int]
    refine ifB (fun c => ?_) (fun c => ?_)
    · refine ⟨_, rfl, p, C, dx, _, _, rfl, hp, X.cl, X.nB, shF_bottom _ _, _, rfl, p', C, dy, _, _, rfl, hp', X.cl, X.nB, shF_bottom _ _, rfl, ?_⟩
      rw [dec_int]
      rw [c, Bool.true_and] at q
      exact q
    · rw [c, Bool.false_and] at q
      exact q
  · exact ⟨_, rfl, y, .ref C, t, .ref C, false, rfl, .own C, ty, k, _, rfl, q⟩
abbrev s_refused : Stmt := top 16
abbrev N_refused : List Str := ["_law_top", "_law_bottom", "_law_answer", "e"]
theorem sc_refused : FnScope N_refused ["_law_top", "_law_bottom"] (defScope s_refused) := ⟨rfl, rfl, rfl, by decide +kernel, rfl, by decide +kernel, by decide +kernel⟩
theorem ok_refused (TE : PySem.Exo.Txt P K mg "BadShare" CE fE) (M_Share : NewOk P w K mg base (L2.CX P w) 2 "Share" C (spInitX K C CE)) (D : DefAt K mg "_law_refused" s_refused ["_law_top", "_law_bottom"]) : DefOk P w K mg base CX0 7 "_law_refused" (spRefused K) := by
  refine D.ok sc_refused (fun vs H Q E h => ?_) (fun f cdv A outer s H vs Q E hr h => ?_)
  · obtain ⟨x, y, b1, b2, rfl, _⟩ := h
    rfl
  obtain ⟨x, y, b1, b2, rfl, hx, hy, q⟩ := h
  refine ⟨_, (pss_cons (ps_set (i := 2) sc_refused.nd rfl (Or.inl rfl) pe_non)
  (pss_cons (ps_tryE (i := 3) (te := fun W => tNewS C (spInitX K C CE) (WE W) (tCons (tVar 0) (tCons (tVar 1) tNil))) (ts := fun a cls d => tAsg (tXf a cls d CE "field" (tVar 3)) (gName 2)) TE sc_refused.nd rfl rfl (fun W pn xe tk => pe_newS M_Share hr (by decide) (fun σ => passAt tk σ) (by exact (pa_cons (pv 0) (pa_cons (pv 1) pa_nil)))) (fun a oe cls d pn hz hf => pss_one (ps_set (i := 2) sc_refused.nd rfl (Or.inl rfl) (by exact (pe_xf (xf_of TE) TE.noN hz hf (pv 3))))))
  (pss_one (ps_ret (pv 2))))), ?_⟩
  refine ⟨_, rfl, _, rfl, fun a dx na nda _ => new_shX hx hy na nda (fun h H' s => ⟨rfl, ?_⟩) (fun h d H' hd s => ?_)⟩
  · have := q H' s
    unfold ans2 at this
    rw [if_pos h] at this
    exact ⟨_, rfl, this⟩
  · have := q H' s
    unfold ans2 at this
    rw [if_neg (by rw [h]; exact Bool.false_ne_true)] at this
    exact ⟨true, TE.te, fun _ a ha => ⟨_, rfl, rfl, rfl, d, _, _, rfl, hd, fld_look _, _, rfl, this⟩, (fun h => nomatch h)⟩
abbrev s_is_integer : Stmt := top 14
abbrev N_is_integer : List Str := ["_law_actual"]
theorem sc_is_integer : FnScope N_is_integer ["_law_actual"] (defScope s_is_integer) := ⟨rfl, rfl, rfl, by decide +kernel, rfl, by decide +kernel, by decide +kernel⟩
theorem ok_is_integer (T : Blt mg) (D : DefAt K mg "_law_is_integer" s_is_integer ["_law_actual"]) : DefOk P w K mg base CX0 1 "_law_is_integer" (spPlain K) := by
  refine D.ok sc_is_integer (fun vs H Q E h => ?_) (fun f cdv A outer s H vs Q E hr h => ?_)
  · obtain ⟨x, b, rfl, _⟩ := h
    rfl
  obtain ⟨x, b, rfl, ⟨t, b1, ty, k1, kF, kT⟩, q⟩ := h
  refine ⟨_, (pss_one (ps_ret (pe_and (pe_callB (cl_isi K) (by rfl) T.z_isinstance (by decide +kernel) (pa_cons (pv 0) (pa_cons (pe_bltn (v := .ty "int") (by rfl) T.z_int (by decide +kernel) rfl) pa_nil))) (pe_one (pe_not (pe_callB (cl_isi K) (by rfl) T.z_isinstance (by decide +kernel) (pa_cons (pv 0) (pa_cons (pe_bltn (v := .ty "bool") (by rfl) T.z_bool (by decide +kernel) rfl) pa_nil)))))))), ?_⟩
  refine ⟨_, rfl, x, _, t, _, b1, rfl, .ty "int", ty, k1, _, rfl, ?_⟩
  refine ifB (fun c => ?_) (fun c => ?_)
  · obtain ⟨b2, k2, rfl⟩ := kT c
    exact ⟨_, rfl, x, _, t, _, b2, rfl, .ty "bool", ty, k2, _, rfl, q⟩
  · rw [kF c] at q
    exact q
end
end K00
set_option Elab.async false
set_option linter.all false
set_option maxRecDepth 100000
set_option maxHeartbeats 4000000
namespace K00
open PySem PySem.Spec PyProof.Rows L2 Com
local macro_rules | `(tactic| walk_at "rd1") => `(tactic| (first
  | refine ⟨_, rfl, ?_⟩
  | refine ⟨_, _, rfl, rfl, ?_⟩
  | refine ⟨.inl ⟨by decide, by decide⟩, ?_⟩
  | refine ⟨.inr ⟨by decide, by decide⟩, ?_⟩
  | refine ⟨(by decide : (0 : Int) < _), ?_⟩
  | refine ⟨⟨by decide, by decide⟩, ?_⟩
  | refine ⟨⟨by decide, by decide, by decide⟩, ?_⟩
  | refine ⟨rfl, ?_⟩
  | refine .inl ⟨_, rfl, ?_⟩
  | refine .inr ⟨_, rfl, ?_⟩
  | refine ⟨_, _, _, _, rfl, rfl, SqL.of upd_same, rfl, ?_⟩
  | refine ⟨_, _, _, _, rfl, rfl, upd_same, rfl, ?_⟩
  | refine ⟨mulm (by decide) (by decide), ?_⟩
  | refine ⟨_, _, _, _, rfl, rfl, SqL.of (by assumption), rfl, ?_⟩
  | refine ⟨_, _, _, _, rfl, rfl, (by assumption), rfl, ?_⟩))
local macro_rules | `(tactic| walk_at "rd") => `(tactic| repeat (walk_at "rd1"))
/-! ### the greatest common divisor by turns -/
def Gc (g : Nat) (i p q : Nat) : Prop := Nat.gcd p q = g ∧ (i = 0 ∧ p * q < 2 ^ 600 ∨ ∃ j, i = j + 1 ∧ q ≤ p ∧ p * q * 2 ^ j < 2 ^ 600)
theorem gc_step {g i p q : Nat} (h : Gc g i p q) (hq : 0 < q) : Gc g (i + 1) q (p % q) := by
  obtain ⟨hg, h⟩ := h
  have lt : p % q < q := Nat.mod_lt _ hq
  refine ⟨by rw [← hg, Nat.gcd_comm p q, Nat.gcd_rec q p, Nat.gcd_comm], .inr ⟨i, rfl, Nat.le_of_lt lt, ?_⟩⟩
  rcases h with ⟨rfl, hb⟩ | ⟨j, rfl, hle, hb⟩
  · rw [Nat.pow_zero, Nat.mul_one]
    refine Nat.lt_of_le_of_lt ?_ hb
    rw [Nat.mul_comm]
    exact Nat.mul_le_mul_right _ (Nat.mod_le _ _)
  · refine Nat.lt_of_le_of_lt ?_ hb
    have h2 : p % q * 2 ≤ p := by
      have e := Nat.div_add_mod p q
      have d1 : 1 ≤ p / q := (Nat.one_le_div_iff hq).mpr hle
      have : q * 1 ≤ q * (p / q) := Nat.mul_le_mul_left _ d1
      omega
    calc q * (p % q) * 2 ^ (j + 1) = q * (p % q * 2) * 2 ^ j := by rw [Nat.pow_succ]; grind
      _ ≤ q * p * 2 ^ j := Nat.mul_le_mul_right _ (Nat.mul_le_mul_left _ h2)
      _ = p * q * 2 ^ j := by rw [Nat.mul_comm q p]
theorem gc_end {g p q : Nat} (h : Gc g 2000 p q) : q = 0 := by
  obtain ⟨_, h⟩ := h
  rcases h with ⟨e, _⟩ | ⟨j, e, hle, hb⟩
  · cases e
  · have ej : j = 1999 := by omega
    subst ej
    by_cases z : q = 0
    · exact z
    · have h1 : 1 ≤ p * q := Nat.mul_pos (by omega) (by omega)
      have h2 : 1 * 2 ^ 1999 ≤ p * q * 2 ^ 1999 := Nat.mul_le_mul_right _ h1
      rw [Nat.one_mul] at h2
      have h3 : (2 : Nat) ^ 600 ≤ 2 ^ 1999 := Nat.pow_le_pow_right (by decide) (by decide)
      exact absurd (Nat.lt_of_le_of_lt (Nat.le_trans h3 h2) hb) (Nat.lt_irrefl _)
def spCommon : Sp := fun vs H Q _ => ∃ a b : Int, vs = [.int a, .int b] ∧ B a 300 ∧ B b 300 ∧ Q (.int ((Nat.gcd a.natAbs b.natAbs : Nat) : Int)) H
theorem abs_nat (a : Int) : (if a < 0 then -a else a) = (a.natAbs : Int) := by split <;> omega
section
variable {P : Program} {w : World} {K : PySem.W.Frag} {mg : Str → Option Value} {base : Heap}
abbrev s_common : Stmt := top 15
abbrev N_common : List Str := ["_law_one", "_law_other", "_law_turn", "_law_rest"]
theorem sc_common : FnScope N_common ["_law_one", "_law_other"] (defScope s_common) := ⟨rfl, rfl, rfl, by decide +kernel, rfl, by decide +kernel, by decide +kernel⟩
theorem ok_common (T : Blt mg) (D : DefAt K mg "_law_common" s_common ["_law_one", "_law_other"]) : DefOk P w K mg base CX0 1 "_law_common" spCommon := by
  refine D.ok sc_common (fun vs H Q E h => ?_) (fun f cdv A outer s H vs Q E hr h => ?_)
  · obtain ⟨a, b, rfl, _⟩ := h
    rfl
  obtain ⟨a, b, rfl, ha, hb, q⟩ := h
  refine ⟨_, (pss_cons (ps_set (i := 0) sc_common.nd rfl (Or.inl rfl) (pe_callB call_abs (by rfl) T.z_abs (by decide +kernel) (pa_cons (pv 0) pa_nil)))
  (pss_cons (ps_set (i := 1) sc_common.nd rfl (Or.inl rfl) (pe_callB call_abs (by rfl) T.z_abs (by decide +kernel) (pa_cons (pv 1) pa_nil)))
  (pss_cons (ps_for PassesOwn.never rfl (pi_range1 (by rfl) T.z_range (pa_cons pe_int pa_nil)) (pg_name (i := 2) sc_common.nd rfl (Or.inl rfl))
    (pss_cons (ps_if (pt_cmpR op_eq (pv 1) pe_int (nomark _))
      (pss_one ps_break)
      pss_nil)
    (pss_cons (ps_set (i := 3) sc_common.nd rfl (Or.inl rfl) (pe_op op_mod (pe_callTy call_int1 (by rfl) T.z_int (by decide +kernel) (pa_cons (pv 0) pa_nil)) (pv 1)))
    (pss_cons (ps_set (i := 0) sc_common.nd rfl (Or.inl rfl) (pv 1))
    (pss_one (ps_set (i := 1) sc_common.nd rfl (Or.inl rfl) (pv 3)))))))
  (pss_one (ps_ret (pv 0)))))), ?_⟩
  refine ⟨_, rfl, _, rfl, _, rfl, _, rfl, ?_⟩
  rw [abs_nat, abs_nat]
  refine ⟨2000, rfl, by omega, by omega, for_range (lo := 0) (fun i σ H' => ∃ (p q : Nat) (v2 v3 : Option V), σ = [some (.int (p : Int)), some (.int (q : Int)), v2, v3] ∧ Gc (Nat.gcd a.natAbs b.natAbs) i p q ∧ H' = H) ?_ ?_ ?_⟩
  · refine ⟨a.natAbs, b.natAbs, none, none, rfl, ⟨rfl, .inl ⟨rfl, ?_⟩⟩, rfl⟩
    have := wide_lt ha hb
    rw [Int.natAbs_mul] at this
    exact this
  · rintro i σ H' hi ⟨p, qn, v2, v3, rfl, hg, rfl⟩
    refine ⟨_, rfl, rfl, _, rfl, ?_⟩
    refine ifB (fun c => ?_) (fun c => ?_)
    · have z : qn = 0 := by
        have := of_decide_eq_true c
        have : (qn : Int) = 0 := by simpa using this
        omega
      subst z
      have e : p = Nat.gcd a.natAbs b.natAbs := by rw [← hg.1, Nat.gcd_zero_right]
      subst e
      exact ⟨_, rfl, q⟩
    · have z : 0 < qn := by
        have := of_decide_eq_false c
        have : ¬ (qn : Int) = 0 := fun w => this (by rw [w])
        omega
      exact ⟨_, rfl, .inl ⟨_, rfl, _, rfl, _, _, rfl, rfl, (by omega), _, rfl, _, rfl, qn, p % qn, some (.int (0 + (i : Int))), some (.int ((p : Int) % (qn : Int))), rfl, gc_step hg z, rfl⟩⟩
  · rintro σ H' ⟨p, qn, v2, v3, rfl, hg, rfl⟩
    have z := gc_end hg
    subst z
    have e : p = Nat.gcd a.natAbs b.natAbs := by rw [← hg.1, Nat.gcd_zero_right]
    subst e
    exact ⟨_, rfl, q⟩
end
end K00
set_option Elab.async false
set_option linter.all false
set_option maxRecDepth 100000
set_option maxHeartbeats 4000000
namespace K00
open PySem PySem.Spec PyProof.Rows L2 Com
local macro_rules | `(tactic| walk_at "rd1") => `(tactic| (first
  | refine ⟨_, rfl, ?_⟩
  | refine ⟨_, _, rfl, rfl, ?_⟩
  | refine ⟨.inl ⟨by decide, by decide⟩, ?_⟩
  | refine ⟨.inr ⟨by decide, by decide⟩, ?_⟩
  | refine ⟨(by decide : (0 : Int) < _), ?_⟩
  | refine ⟨⟨by decide, by decide⟩, ?_⟩
  | refine ⟨⟨by decide, by decide, by decide⟩, ?_⟩
  | refine ⟨rfl, ?_⟩
  | refine .inl ⟨_, rfl, ?_⟩
  | refine .inr ⟨_, rfl, ?_⟩
  | refine ⟨_, _, _, _, rfl, rfl, SqL.of upd_same, rfl, ?_⟩
  | refine ⟨_, _, _, _, rfl, rfl, upd_same, rfl, ?_⟩
  | refine ⟨mulm (by decide) (by decide), ?_⟩
  | refine ⟨_, _, _, _, rfl, rfl, SqL.of (by assumption), rfl, ?_⟩
  | refine ⟨_, _, _, _, rfl, rfl, (by assumption), rfl, ?_⟩))
local macro_rules | `(tactic| walk_at "rd") => `(tactic| repeat (walk_at "rd1"))
/-! ### kept: all but lists stay, lists stay lists -/
def Kept (H H' : Hp) : Prop := (∀ b o, H b = some o → (∀ xs, o ≠ .lst xs) → H' b = some o) ∧ ∀ b xs, H b = some (.lst xs) → ∃ ys, H' b = some (.lst ys)
theorem Kept.trans {H H1 H2 : Hp} (a : Kept H H1) (b : Kept H1 H2) : Kept H H2 := ⟨fun c o e n => b.1 c o (a.1 c o e n) n, fun c xs e => let ⟨ys, e1⟩ := a.2 c xs e; b.2 c ys e1⟩
theorem Kept.of {H H' : Hp} (s : Same H H') : Kept H H' := ⟨fun b o e _ => s b o e, fun b xs e => ⟨xs, s b _ e⟩⟩
theorem Kept.but {a : Addr} {H H' : Hp} (h : But a H H') (f : FlowAt H a) (f' : FlowAt H' a) : Kept H H' := by
  obtain ⟨n, c, r, e0⟩ := f
  obtain ⟨n', c', r', e1⟩ := f'
  refine ⟨fun b o e ne => ?_, fun b xs e => ?_⟩
  · rw [h b (fun z => by rw [z, e0] at e; cases e; exact ne _ rfl)]
    exact e
  · by_cases z : b = a
    · rw [z]
      exact ⟨_, e1⟩
    · rw [h b z]
      exact ⟨xs, e⟩
theorem TyX.kept {K : PySem.W.Frag} {H H' : Hp} (s : Kept H H') {x : V} {t : Value} (h : TyX K H x t) : TyX K H' x t := by
  cases h with
  | base h =>
    refine .base ?_
    cases h with
    | non => exact .non
    | bl x => exact .bl x
    | int i => exact .int i
    | str x => exact .str x
    | flt x => exact .flt x
    | lst e => obtain ⟨ys, e1⟩ := s.2 _ _ e; exact .lst e1
    | frz e => exact .frz (s.1 _ _ e fun _ z => by cases z)
    | tup e => exact .tup (s.1 _ _ e fun _ z => by cases z)
    | dK e => exact .dK (s.1 _ _ e fun _ z => by cases z)
    | dT e => exact .dT (s.1 _ _ e fun _ z => by cases z)
    | ins e cl ha hn htk hm => exact .ins (s.1 _ _ e fun _ z => by cases z) cl ha hn htk hm
  | byt b => exact .byt b
  | set e => exact .set (s.1 _ _ e fun _ z => by cases z)
  | kList e c => exact .kList e c
  | kTuple e c => exact .kTuple e c
  | kDict e c => exact .kDict e c
  | fTuple e => exact .fTuple (s.1 _ _ e fun _ z => by cases z)
  | fDict e => exact .fDict (s.1 _ _ e fun _ z => by cases z)
theorem PlainI.kept {K : PySem.W.Frag} {H H' : Hp} (s : Kept H H') {x : V} {b : Bool} (h : PlainI K H x b) : PlainI K H' x b := let ⟨t, b1, ty, r⟩ := h; ⟨t, b1, TyX.kept s ty, r⟩
/-! ### calls of Share -/
def spInit1 (C : Addr) : Sp := fun vs H Q _ => ∃ (p dx : Addr) (t : Int), vs = [.ref p, .int t] ∧ H p = some (.ins C dx []) ∧ ∀ H', ShO C H' p (Num.nt t 1) (Num.nb t 1) → Old p H H' → Q .non H'
theorem new_sh1 {C : Addr} {H : Hp} {R : VK} {E : XK} {x dx : Addr} {t : Int} (hx : H x = none) (hdx : H dx = none) (q : ∀ H', ShO C H' x (Num.nt t 1) (Num.nb t 1) → Same H H' → R .non H') : spInit1 C (.ref x :: [.int t]) (upd (upd H dx (.own x)) x (.ins C dx [])) R E :=
  ⟨x, dx, t, rfl, upd_same, fun H' e old => q H' e (Same.made hx hdx old)⟩
structure KwS (P : Program) (w : World) (K : PySem.W.Frag) (mg : Str → Option Value) (base : Heap) (C : Addr) : Prop where
  ex : ∃ (f : Addr) (fd : FuncData) (g : List Value → List Value → List Value), FnOk P w K mg base CX0 2 f fd ["self", "top", "bottom"] (spInit C) ∧ Mk K C f ∧ KBn K fd ["self", "top", "bottom"] 2 ["bottom"] g (fun us ws => us ++ ws)
  mg : mg "Share" = some (.ref C)
theorem pe_kwS {X : Cx} {C : Addr} {k : Nat} {p pos : Pos} {e : Expr} {kws : List Keyword} {t tk : TA} (M : KwS X.prog X.w X.K X.mg X.base C) (hr : Room (k + 1) X.A) (hjk : 2 ≤ k) (ha : PA X [e] t) (hkw : PK X kws tk) (hg : Gl X "Share" := by rfl)
    (hall : (backToKw pos (keywordEach kws X.env)).all (·.1.isSome) = true := by rfl) (hks : (backToKw pos (keywordEach kws X.env)).filterMap (·.1) = (["bottom"] : List Str) := by rfl)
    (he : starEach (e :: []) X.env = (false, eval e X.env) :: starEach [] X.env := by rfl)
    (hpl : ((backTo pos (starEach (e :: []) X.env)).any (·.1) || (backToKw pos (keywordEach kws X.env)).any (·.1.isNone)) = false := by rfl) :
    PE X (.Call (.Name "Share" p) [e] kws pos) (tMakeN C 1 1 (spInit C) (fun us ws => us ++ ws) E0 t tk) := by
  obtain ⟨f, fd, g, F, M1, b⟩ := M.ex
  exact pe_makeN (n := 1) M1 (F.mono hjk) hr hg M.mg b pass0 ha hkw hall hks (by decide) he hpl
/-! ### numbers -/
theorem cm_one (t : Int) : Num.cm t 1 = 1 := by
  unfold Num.cm Num.gc
  rw [if_neg (by decide)]
  show ((Nat.gcd t.natAbs 1 : Nat) : Int) = 1
  rw [Nat.gcd_one_right]
  rfl
theorem nt_one (t : Int) : Num.nt t 1 = t := by
  have := Num.nt_mul t 1
  rw [cm_one, Int.mul_one] at this
  exact this
theorem nb_one (t : Int) : Num.nb t 1 = 1 := by
  have := Num.nb_mul t 1
  rw [cm_one, Int.mul_one] at this
  exact this
theorem nb_zero {b : Int} (h : b ≠ 0) : Num.nb 0 b = 1 := by
  have := (Num.unique (t := 0) (b := b) (t2 := 0) (b2 := 1) h (by decide) (by rw [Int.zero_mul, Int.zero_mul])).2
  rw [this, nb_one]
/-! ### kinds that a share is compared with -/
structure KindT (K : PySem.W.Frag) (C : Addr) (T : String) : Prop where
  nf : PySem.W.notFirst K C (.type T) = true
  k : PySem.W.kitOne K (.type T) (.ref C) = some false
  s : PySem.W.subIn K (.ref C) (.type T) = some false
structure Kinds (K : PySem.W.Frag) (C : Addr) : Prop where
  non : KindT K C "NoneType"
  bl : KindT K C "bool"
  int : KindT K C "int"
  str : KindT K C "str"
  lst : KindT K C "list"
  tup : KindT K C "tuple"
  dct : KindT K C "dict"
theorem Kinds.of {K : PySem.W.Frag} {C : Addr} (k : Kinds K C) {H : Hp} {x : V} {T : String} (h : Left H x T) : KindT K C T := by
  cases h with
  | non => exact k.non
  | bl => exact k.bl
  | int => exact k.int
  | str => exact k.str
  | lst => exact k.lst
  | tup => exact k.tup
  | dK => exact k.dct
theorem left_ty {K : PySem.W.Frag} {H : Hp} {x : V} {T : String} (h : Left H x T) : TyX K H x (.type T) := by
  cases h with
  | non => exact .base .non
  | bl b => exact .base (.bl b)
  | int i => exact .base (.int i)
  | str x => exact .base (.str x)
  | lst e => exact .base (.lst e)
  | tup e => exact .base (.tup e)
  | dK e => exact .base (.dK e)
theorem left_same {H H' : Hp} (s : Same H H') {x : V} {T : String} (h : Left H x T) : Left H' x T := by
  cases h with
  | non => exact .non
  | bl b => exact .bl b
  | int i => exact .int i
  | str x => exact .str x
  | lst e => exact .lst (s _ _ e)
  | tup e => exact .tup (s _ _ e)
  | dK e => exact .dK (s _ _ e)
theorem plain_ty {K : PySem.W.Frag} {H : Hp} {x : V} {t : Value} (ty : TyX K H x t) (k : PySem.W.kitOne K t (.type "int") = some false) : PlainI K H x false := ⟨t, false, ty, k, fun _ => rfl, (fun h => nomatch h)⟩
theorem plain_bl {K : PySem.W.Frag} {H : Hp} {b : Bool} : PlainI K H (.bl b) false := ⟨.type "bool", true, .base (.bl b), kit_ty (by decide +kernel), (fun h => nomatch h), fun _ => ⟨true, kit_ty (by decide +kernel), rfl⟩⟩
/-! ### the law -/
def spLaw (K : PySem.W.Frag) : Sp := fun vs H Q _ => ∃ (a : Addr) (ns : List Int), vs = [.ref a] ∧ SqL K H a (ns.map V.int) ∧ ns.length ≤ 63 ∧ ∀ H', Q (.bl true) H'
theorem at_st {t : TS} {D : Ends} {σ σ' : L2.St} {H : Hp} (e : σ = σ') (h : t D σ' H) : t D σ H := by subst e; exact h
theorem join {G : Prop} {Pn : Int → Hp → Prop} {σf : Int → L2.St} (R : L2.St → Hp → Prop) (key : ∀ t H', Pn t H' → R (σf t) H') (use : (∀ t H', Pn t H' → R (σf t) H') → G) : G := use key
theorem z40 : (1 : Int) ≤ 10 ^ (40 : Int).toNat ∧ (10 : Int) ^ (40 : Int).toNat < 2 ^ 140 ∧ 2 * (10 : Int) ^ (40 : Int).toNat + 1 < 2 ^ 200 ∧ (10 : Int) ^ (40 : Int).toNat < 2 ^ 200 := by decide
theorem z9 : (1 : Int) ≤ 10 ^ (9 : Int).toNat ∧ (10 : Int) ^ (9 : Int).toNat < 2 ^ 40 := by decide
theorem B.bd {x : Int} {n : Nat} (h1 : -(2 ^ n : Nat) < x) (h2 : x < (2 ^ n : Nat)) : B x n := by unfold B; omega
theorem dd2 (u v : Int) : true = (decide (u = u) && decide (v = v)) := by simp
theorem ndiff {t b t2 b2 : Int} (h : b ≠ 0) (h2 : b2 ≠ 0) (ne : t * b2 ≠ t2 * b) : false = (decide (Num.nt t b = Num.nt t2 b2) && decide (Num.nb t b = Num.nb t2 b2)) := by
  by_cases e1 : Num.nt t b = Num.nt t2 b2
  · by_cases e2 : Num.nb t b = Num.nb t2 b2
    · exact absurd (Num.differ h h2 e1 e2) ne
    · rw [decide_eq_false e2, Bool.and_false]
  · rw [decide_eq_false e1, Bool.false_and]
theorem FlowAt.same {a : Addr} {H H' : Hp} (f : FlowAt H a) (s : Same H H') : FlowAt H' a := let ⟨x, y, z, e⟩ := f; ⟨x, y, z, s _ _ e⟩
theorem pickL {xs : List V} {j : Int} (h0 : 0 ≤ j) (h1 : j < (xs.length : Nat)) : ∃ v, v ∈ xs ∧ atI xs j = some v := by
  obtain ⟨n, rfl⟩ := Int.eq_ofNat_of_zero_le h0
  have hn : n < xs.length := by omega
  exact ⟨xs[n], List.getElem_mem hn, atI_nat (List.getElem?_eq_getElem hn)⟩
theorem FlowAt.ne {a b : Addr} {H : Hp} (f : FlowAt H a) (h : H b = none) : b ≠ a := fun z => by
  obtain ⟨x, y, r, e⟩ := f
  rw [z, e] at h
  cases h
theorem ne_t {v : V} : (!decide (v = v)) = false := by simp
theorem ne_a {b2 : Bool} : (!decide (ans2 false b2 = V.str "top")) = false := by unfold ans2 fld2; simp
theorem eq_b : decide (ans2 true false = V.str "bottom") = true := by unfold ans2 fld2; simp
theorem is_n : decide (ans2 true true = V.non) = true := by unfold ans2; simp
theorem at_hp2 {R : Hp → Prop} {H H' : Hp} (e : H = H') (h : R H') : R H := by subst e; exact h
theorem small200 {x : Int} (h : x ≤ 1000) : x < 2 ^ 200 := by
  have : (1000 : Int) < 2 ^ 200 := by decide
  omega
section
variable {P : Program} {w : World} {K : PySem.W.Frag} {mg : Str → Option Value} {base : Heap} {C : Addr}
abbrev s_law : Stmt := top 17
abbrev N_law : List Str := ["_law_script", "_law_flow_here", "_law_top", "_law_bottom", "_law_factor", "_law_share", "_law_thing", "_law_odd", "_law_low"]
theorem sc_law : FnScope N_law ["_law_script"] (defScope s_law) := ⟨rfl, rfl, rfl, by decide +kernel, rfl, by decide +kernel, by decide +kernel⟩
theorem ok_law_fn (T : Blt mg) (X : ShT K mg C) (KD : Kinds K C) (KS : KwS P w K mg base C) (D_flow : DefOk P w K mg base CX0 1 "_law_flow" (spFlow K)) (D_pick : DefOk P w K mg base CX0 1 "_law_pick" spPick) (D_is_integer : DefOk P w K mg base CX0 1 "_law_is_integer" (spPlain K))
    (D_common : DefOk P w K mg base CX0 1 "_law_common" spCommon) (D_refused : DefOk P w K mg base CX0 7 "_law_refused" (spRefused K)) (M_Share : NewOk P w K mg base CX0 2 "Share" C (spInit C)) (M_Share1 : NewOk P w K mg base CX0 2 "Share" C (spInit1 C)) (M_eq : MethOk P w K mg base CX0 1 C "__eq__" (spEqA K C))
    {f : Addr} {fd : FuncData} (FF : Fun K "law" "law" s_law f fd) : FnOk P w K mg base CX0 9 f fd ["_law_script"] (spLaw K) := by
  refine FF.ok sc_law (fun vs H Q E h => ?_) (fun cdv A outer s H vs Q E hr h => ?_)
  · obtain ⟨a, ns, rfl, _⟩ := h
    rfl
  obtain ⟨a0, ns, rfl, hS, hl, q⟩ := h
  refine ⟨_, (pss_cons (ps_set (i := 1) sc_law.nd rfl (Or.inl rfl) (pe_def D_flow hr (by decide) pass0 (pa_cons (pv 0) (pa_cons pe_int pa_nil))))
  (pss_cons (ps_set (i := 2) sc_law.nd rfl (Or.inl rfl) (pe_op op_sub (pe_def D_pick hr (by decide) pass0 (pa_cons (pv 1) (pa_cons (pe_op op_add (pe_op op_mulW pe_int (pe_op op_pow pe_int pe_int)) pe_int) pa_nil))) (pe_op op_pow pe_int pe_int)))
  (pss_cons (ps_if (pt_cmpR op_eq (pe_def D_pick hr (by decide) pass0 (pa_cons (pv 1) (pa_cons pe_int pa_nil))) pe_int (nomark _))
    (pss_one (ps_set (i := 2) sc_law.nd rfl (Or.inl rfl) (pe_op op_sub (pe_def D_pick hr (by decide) pass0 (pa_cons (pv 1) (pa_cons pe_int pa_nil))) pe_int)))
    pss_nil)
  (pss_cons (ps_set (i := 3) sc_law.nd rfl (Or.inl rfl) (pe_op op_add pe_int (pe_def D_pick hr (by decide) pass0 (pa_cons (pv 1) (pa_cons (pe_op op_pow pe_int pe_int) pa_nil)))))
  (pss_cons (ps_if (pt_cmpR op_eq (pe_def D_pick hr (by decide) pass0 (pa_cons (pv 1) (pa_cons pe_int pa_nil))) pe_int (nomark _))
    (pss_one (ps_set (i := 3) sc_law.nd rfl (Or.inl rfl) (pe_op op_add pe_int (pe_def D_pick hr (by decide) pass0 (pa_cons (pv 1) (pa_cons pe_int pa_nil))))))
    pss_nil)
  (pss_cons (ps_set (i := 4) sc_law.nd rfl (Or.inl rfl) (pe_op op_add pe_int (pe_op op_mulW (pe_def D_pick hr (by decide) pass0 (pa_cons (pv 1) (pa_cons (pe_op op_pow pe_int pe_int) pa_nil))) (pe_def D_pick hr (by decide) pass0 (pa_cons (pv 1) (pa_cons pe_int pa_nil))))))
  (pss_cons (ps_if (pt_cmpR op_eq (pe_def D_pick hr (by decide) pass0 (pa_cons (pv 1) (pa_cons pe_int pa_nil))) pe_int (nomark _))
    (pss_one (ps_set (i := 4) sc_law.nd rfl (Or.inl rfl) (pe_un un_neg (pv 4))))
    pss_nil)
  (pss_cons (ps_set (i := 5) sc_law.nd rfl (Or.inl rfl) (pe_kwS KS hr (by decide) (pa_cons (pe_op op_mulW (pv 2) (pv 4)) pa_nil) (pk_cons (pe_op op_mulW (pv 3) (pv 4)) pk_nil)))
  (pss_cons (ps_if (PW.pt (pw_or (pt_not (pt_val (pe_def D_is_integer hr (by decide) pass0 (pa_cons (pe_fldK K (pv 5)) pa_nil)))) (pw_or (pt_not (pt_val (pe_def D_is_integer hr (by decide) pass0 (pa_cons (pe_fldK K (pv 5)) pa_nil)))) (pw_or1 (pt_cmpR op_le (pe_fldK K (pv 5)) pe_int (nomark _))))))
    (pss_one (ps_ret pe_bl))
    pss_nil)
  (pss_cons (ps_if (PW.pt (pw_or (pt_cmpR op_ne (pe_op op_mulW (pe_fldK K (pv 5)) (pv 3)) (pe_op op_mulW (pe_fldK K (pv 5)) (pv 2)) (nomark _)) (pw_or1 (pt_cmpR op_ne (pe_def D_common hr (by decide) pass0 (pa_cons (pe_fldK K (pv 5)) (pa_cons (pe_fldK K (pv 5)) pa_nil))) pe_int (nomark _)))))
    (pss_one (ps_ret pe_bl))
    pss_nil)
  (pss_cons (ps_if (PW.pt (pw_or (pt_not (pt_cmpR (eqO K M_eq hr (by decide) pass0) (pv 5) (pe_new M_Share hr (by decide) pass0 (pa_cons (pv 2) (pa_cons (pv 3) pa_nil))) (nomark _))) (pw_or1 (pt_not (pt_cmpR (eqO K M_eq hr (by decide) pass0) (pv 5) (pe_new M_Share hr (by decide) pass0 (pa_cons (pe_un un_neg (pv 2)) (pa_cons (pe_un un_neg (pv 3)) pa_nil))) (nomark _))))))
    (pss_one (ps_ret pe_bl))
    pss_nil)
  (pss_cons (ps_if (PW.pt (pw_or (pt_cmpR (eqO K M_eq hr (by decide) pass0) (pv 5) (pe_new M_Share hr (by decide) pass0 (pa_cons (pe_op op_add (pv 2) pe_int) (pa_cons (pv 3) pa_nil))) (nomark _)) (pw_or1 (pt_cmpR (eqO K M_eq hr (by decide) pass0) (pv 5) (pe_new M_Share hr (by decide) pass0 (pa_cons (pe_op op_add (pe_op op_mulW pe_int (pv 2)) pe_int) (pa_cons (pe_op op_mulW pe_int (pv 3)) pa_nil))) (nomark _)))))
    (pss_one (ps_ret pe_bl))
    pss_nil)
  (pss_cons (ps_for PassesOwn.never rfl (piL K (pe_lst (pa_cons (pv 2) (pa_cons (pe_tup (pa_cons (pe_fldK K (pv 5)) (pa_cons (pe_fldK K (pv 5)) pa_nil))) (pa_cons pe_non (pa_cons pe_bl (pa_cons pe_bl (pa_cons pe_str (pa_cons (pe_lst (pa_cons (pv 5) pa_nil)) (pa_cons pe_dnewK pa_nil)))))))))) (pg_name (i := 6) sc_law.nd rfl (Or.inl rfl))
    (pss_one (ps_if (PW.pt (pw_or (pt_cmpR (eqO K M_eq hr (by decide) pass0) (pv 5) (pv 6) (nomark _)) (pw_or (pt_cmpR (eqO K M_eq hr (by decide) pass0) (pe_new M_Share1 hr (by decide) pass0 (pa_cons pe_int pa_nil)) (pv 6) (nomark _)) (pw_or1 (pt_cmpR (eqR K M_eq hr (by decide) pass0) (pv 6) (pe_new M_Share1 hr (by decide) pass0 (pa_cons pe_int pa_nil)) (nomark _))))))
      (pss_one (ps_ret pe_bl))
      pss_nil)))
  (pss_cons (ps_if (PW.pt (pw_or (pt_cmpR op_ne (pe_fldK K (pe_new M_Share1 hr (by decide) pass0 (pa_cons (pv 2) pa_nil))) (pv 2) (nomark _)) (pw_or (pt_cmpR op_ne (pe_fldK K (pe_new M_Share1 hr (by decide) pass0 (pa_cons (pv 2) pa_nil))) pe_int (nomark _)) (pw_or1 (pt_cmpR op_ne (pe_fldK K (pe_new M_Share hr (by decide) pass0 (pa_cons pe_int (pa_cons (pe_op op_mulW (pv 3) (pv 4)) pa_nil)))) pe_int (nomark _))))))
    (pss_one (ps_ret pe_bl))
    pss_nil)
  (pss_cons (ps_set (i := 7) sc_law.nd rfl (Or.inl rfl) (pe_lst (pa_cons pe_non (pa_cons pe_bl (pa_cons pe_bl (pa_cons pe_str (pa_cons pe_str (pa_cons (pe_tup (pa_cons pe_int pa_nil)) (pa_cons (pe_lst pa_nil) (pa_cons pe_dnewK (pa_cons (pe_tup pa_nil) (pa_cons (pe_new M_Share1 hr (by decide) pass0 (pa_cons (pv 2) pa_nil)) (pa_cons (pe_lst (pa_cons (pv 2) pa_nil)) pa_nil)))))))))))))
  (pss_cons (ps_set (i := 6) sc_law.nd rfl (Or.inl rfl) (pe_ix (ixL K) (pv 7) (pe_def D_pick hr (by decide) pass0 (pa_cons (pv 1) (pa_cons (pe_callB (cl_len K) (by rfl) T.z_len (by decide +kernel) (pa_cons (pv 7) pa_nil)) pa_nil))) (fun _ _ => rfl)))
  (pss_cons (ps_set (i := 8) sc_law.nd rfl (Or.inl rfl) (pe_ix (ixL K) (pe_lst (pa_cons (pv 6) (pa_cons pe_int pa_nil))) (pe_def D_pick hr (by decide) pass0 (pa_cons (pv 1) (pa_cons pe_int pa_nil))) (fun _ _ => rfl)))
  (pss_cons (ps_if (PW.pt (pw_or (pt_cmpR op_ne (pe_def D_refused hr (by decide) pass0 (pa_cons (pv 6) (pa_cons (pv 3) pa_nil))) pe_str (nomark _)) (pw_or1 (pt_cmpR op_ne (pe_def D_refused hr (by decide) pass0 (pa_cons (pv 6) (pa_cons (pv 8) pa_nil))) pe_str (nomark _)))))
    (pss_one (ps_ret pe_bl))
    pss_nil)
  (pss_one (ps_ret (pe_and (pe_cmpR op_eq (pe_def D_refused hr (by decide) pass0 (pa_cons (pv 2) (pa_cons (pv 8) pa_nil))) pe_str (nomark _)) (pe_one (pe_cmpR op_isN (pe_def D_refused hr (by decide) pass0 (pa_cons (pv 2) (pa_cons (pv 3) pa_nil))) pe_non (nomark _)))))))))))))))))))))))), ?_⟩
  refine ⟨_, rfl, a0, ns, 0, rfl, hS, hl, by omega, fun a H1 ha f1 b1 => ?_⟩
  obtain ⟨y1, y2, y3, y4⟩ := z40
  have c40 : CPow 10 40 := ⟨by decide, by decide, by decide⟩
  have B40 : B ((10 : Int) ^ (40 : Int).toNat) 140 := B.bd (by omega) y2
  refine ⟨_, rfl, _, _, rfl, rfl, c40, _, _, rfl, rfl, mulB (B.of (n := 2) (k := 2) (by decide) (by decide)) B40, _, _, rfl, rfl, a, _, rfl, f1, by omega, y3, fun d H2 d0 d1 f2 b2 => ?_⟩
  refine ⟨_, _, rfl, rfl, c40, _, _, rfl, rfl, ?_⟩
  have Bt : B (d - (10 : Int) ^ (40 : Int).toNat) 140 := B.bd (by omega) (by omega)
  dsimp only [gName]
  refine at_st (σ' := [some (.ref a0), some (.ref a), some (.int (d - (10 : Int) ^ (40 : Int).toNat)), none, none, none, none, none, none]) rfl ?_
  generalize d - (10 : Int) ^ (40 : Int).toNat = t0 at Bt ⊢
  apply join (Pn := fun t H' => B t 140 ∧ FlowAt H' a) (σf := fun t => [some (.ref a0), some (.ref a), some (.int t), none, none, none, none, none, none])
  case use =>
    intro key
    refine ⟨_, rfl, a, 3, rfl, f2, by decide, small200 (by decide), fun d H3 _ _ f3 b3 => ⟨rfl, _, rfl, ?_⟩⟩
    refine ifB (fun _ => ?_) (fun _ => ?_)
    · refine ⟨_, rfl, a, 9, rfl, f3, by decide, small200 (by decide), fun e H4 e0 e1 f4 b4 => ⟨_, _, rfl, rfl, ?_⟩⟩
      dsimp only [gName]
      refine at_st (σ' := [some (.ref a0), some (.ref a), some (.int (e - 4)), none, none, none, none, none, none]) rfl ?_
      exact key (e - 4) H4 ⟨B.bd (by omega) (by omega), f4⟩
    · dsimp only [tNext]
      exact key t0 H3 ⟨Bt, f3⟩
  clear f2 b2 f1 b1 Bt t0
  rintro t H2 ⟨Bt, f2⟩
  refine ⟨_, rfl, _, _, rfl, rfl, c40, a, _, rfl, f2, y1, y4, fun d H3 d0 d1 f3 b3 => ⟨_, _, rfl, rfl, ?_⟩⟩
  have Bb : B (1 + d) 141 := B.bd (by omega) (by omega)
  have pb : 0 < 1 + d := by omega
  dsimp only [gName]
  refine at_st (σ' := [some (.ref a0), some (.ref a), some (.int t), some (.int (1 + d)), none, none, none, none, none]) rfl ?_
  generalize 1 + d = b0 at Bb pb ⊢
  apply join (Pn := fun b H' => (0 < b ∧ B b 141) ∧ FlowAt H' a) (σf := fun b => [some (.ref a0), some (.ref a), some (.int t), some (.int b), none, none, none, none, none])
  case use =>
    intro key
    refine ⟨_, rfl, a, 3, rfl, f3, by decide, small200 (by decide), fun d H4 _ _ f4 b4 => ⟨rfl, _, rfl, ?_⟩⟩
    refine ifB (fun _ => ?_) (fun _ => ?_)
    · refine ⟨_, rfl, a, 12, rfl, f4, by decide, small200 (by decide), fun e H5 e0 e1 f5 b5 => ⟨_, _, rfl, rfl, ?_⟩⟩
      dsimp only [gName]
      refine at_st (σ' := [some (.ref a0), some (.ref a), some (.int t), some (.int (1 + e)), none, none, none, none, none]) rfl ?_
      exact key (1 + e) H5 ⟨⟨by omega, B.bd (by omega) (by omega)⟩, f5⟩
    · dsimp only [tNext]
      exact key b0 H4 ⟨⟨pb, Bb⟩, f4⟩
  clear f3 b3 Bb pb b0 f2
  rintro b H3 ⟨⟨pb, Bb⟩, f3⟩
  obtain ⟨w1, w2⟩ := z9
  refine ⟨_, rfl, _, _, rfl, rfl, ⟨by decide, by decide, by decide⟩, a, _, rfl, f3, w1, (Int.lt_trans w2 (by decide)), fun d H4 d0 d1 f4 b4 => ?_⟩
  refine ⟨_, rfl, a, 2, rfl, f4, by decide, small200 (by decide), fun e H5 e0 e1 f5 b5 => ?_⟩
  have Bd : B d 40 := B.bd (by omega) (by omega)
  have Be : B e 2 := B.bd (by omega) (by omega)
  refine ⟨_, _, rfl, rfl, mulB Bd Be, _, _, rfl, rfl, ?_⟩
  have pf : 0 < 1 + d * e := by have := Int.mul_nonneg d0 e0; omega
  have Bf : B (1 + d * e) 60 := (B.add (n := 42) (B.of (n := 42) (k := 1) (by decide) (by decide)) ((Bd.mul Be).mono (by decide))).mono (by decide)
  dsimp only [gName]
  refine at_st (σ' := [some (.ref a0), some (.ref a), some (.int t), some (.int b), some (.int (1 + d * e)), none, none, none, none]) rfl ?_
  generalize 1 + d * e = c0 at Bf pf ⊢
  apply join (Pn := fun c H' => (c ≠ 0 ∧ B c 60) ∧ FlowAt H' a) (σf := fun c => [some (.ref a0), some (.ref a), some (.int t), some (.int b), some (.int c), none, none, none, none])
  case use =>
    intro key
    refine ⟨_, rfl, a, 2, rfl, f5, by decide, small200 (by decide), fun d H6 _ _ f6 b6 => ⟨rfl, _, rfl, ?_⟩⟩
    refine ifB (fun _ => ?_) (fun _ => ?_)
    · refine ⟨_, rfl, _, rfl, ?_⟩
      dsimp only [gName]
      refine at_st (σ' := [some (.ref a0), some (.ref a), some (.int t), some (.int b), some (.int (-c0)), none, none, none, none]) rfl ?_
      exact key (-c0) H6 ⟨⟨by omega, Bf.neg⟩, f6⟩
    · dsimp only [tNext]
      exact key c0 H6 ⟨⟨by omega, Bf⟩, f6⟩
  clear f4 b4 f5 b5 f3 Bd Be Bf pf c0 e0 e1 d0 d1
  rintro c H4 ⟨⟨nc, Bc⟩, f4⟩
  have nb : b ≠ 0 := by omega
  refine ⟨_, rfl, _, rfl, _, _, rfl, rfl, mulB Bt Bc, _, rfl, _, rfl, _, _, rfl, rfl, mulB Bb Bc, rfl, rfl, fun x dx0 nx ndx _ => new_sh (Int.mul_ne_zero nb nc) ((Bb.mul Bc).mono (by decide)) nx ndx fun H5 hx s5 => ⟨rfl, ?_⟩⟩
  have un := Num.unique (t := t * c) (b := b * c) (t2 := t) (b2 := b) (Int.mul_ne_zero nb nc) nb (by grind)
  rw [un.1, un.2] at hx
  have f5 := (show FlowAt H5 a from let ⟨x1, y1, z1, e1⟩ := f4; ⟨x1, y1, z1, s5 _ _ e1⟩)
  obtain ⟨dx, hx⟩ := hx
  have pN := Num.nb_pos (t := t) nb
  have BN : B (Num.nt t b) 141 := (B.le Bt (Num.nt_le _ _ nb)).mono (by decide)
  have BD : B (Num.nb t b) 141 := B.le Bb (Num.nb_le _ _ nb)
  dsimp only [gName]
  refine at_st (σ' := [some (.ref a0), some (.ref a), some (.int t), some (.int b), some (.int c), some (.ref x), none, none, none]) rfl ?_
  clear f4 s5 nx ndx un
  refine ⟨_, rfl, x, C, dx, _, _, rfl, hx, X.cl, X.nT, shF_top _ _, _, true, rfl, PlainI.int _, _, rfl, ?_⟩
  refine ⟨_, rfl, x, C, dx, _, _, rfl, hx, X.cl, X.nB, shF_bottom _ _, _, true, rfl, PlainI.int _, _, rfl, ?_⟩
  refine ⟨_, rfl, x, C, dx, _, _, rfl, hx, X.cl, X.nB, shF_bottom _ _, _, _, rfl, rfl, _, rfl, ?_⟩
  rw [decide_eq_false (show ¬ Num.nb t b ≤ 0 by omega)]
  refine ⟨_, rfl, x, C, dx, _, _, rfl, hx, X.cl, X.nT, shF_top _ _, _, rfl, _, _, rfl, rfl, mulB BN Bb, ?_⟩
  refine ⟨_, rfl, x, C, dx, _, _, rfl, hx, X.cl, X.nB, shF_bottom _ _, _, rfl, _, _, rfl, rfl, mulB BD Bt, rfl, _, rfl, ?_⟩
  rw [show (!decide (V.int (Num.nt t b * b) = V.int (Num.nb t b * t))) = false by rw [Num.cross]; simp]
  refine ⟨_, rfl, x, C, dx, _, _, rfl, hx, X.cl, X.nT, shF_top _ _, _, rfl, x, C, dx, _, _, rfl, hx, X.cl, X.nB, shF_bottom _ _, _, _, rfl, BN.mono (by decide), BD.mono (by decide), rfl, _, rfl, ?_⟩
  rw [Num.coprime nb]
  rw [show (!decide (V.int ((1 : Nat) : Int) = V.int 1)) = false by simp]
  refine ⟨_, rfl, _, rfl, _, rfl, fun z dz0 nz ndz _ => new_sh nb (Bb.mono (by decide)) nz ndz fun H6 ⟨dz, hz⟩ s6 => ⟨rfl, ?_⟩⟩
  have hx := s6 _ _ hx
  have f5 := FlowAt.same f5 s6
  refine ⟨x, dx, _, .ref C, rfl, hx, shTy X hz, X.fS, x, _, _, _, true, rfl, ⟨dx, hx⟩, .inl ⟨z, _, _, rfl, ⟨dz, hz⟩, dd2 _ _⟩, _, rfl, ?_⟩
  refine ⟨_, rfl, _, rfl, _, rfl, _, rfl, _, rfl, fun z2 dz0 nz ndz _ => new_sh (show -b ≠ 0 by omega) (Bb.neg.mono (by decide)) nz ndz fun H7 hz2 s7 => ⟨rfl, ?_⟩⟩
  have un2 := Num.unique (t := -t) (b := -b) (t2 := t) (b2 := b) (by omega) nb (by grind)
  rw [un2.1, un2.2] at hz2
  obtain ⟨dz2, hz2⟩ := hz2
  have hx := s7 _ _ hx
  have f5 := FlowAt.same f5 s7
  refine ⟨x, dx, _, .ref C, rfl, hx, shTy X hz2, X.fS, x, _, _, _, true, rfl, ⟨dx, hx⟩, .inl ⟨z2, _, _, rfl, ⟨dz2, hz2⟩, dd2 _ _⟩, _, rfl, ?_⟩
  refine ⟨_, rfl, _, rfl, _, _, rfl, rfl, _, rfl, fun z3 dz0 nz ndz _ => new_sh nb (Bb.mono (by decide)) nz ndz fun H8 ⟨dz3, hz3⟩ s8 => ⟨rfl, ?_⟩⟩
  have hx := s8 _ _ hx
  have f5 := FlowAt.same f5 s8
  refine ⟨x, dx, _, .ref C, rfl, hx, shTy X hz3, X.fS, x, _, _, _, false, rfl, ⟨dx, hx⟩, .inl ⟨z3, _, _, rfl, ⟨dz3, hz3⟩, ndiff nb nb (by rw [Int.add_mul]; omega)⟩, _, rfl, ?_⟩
  have B2 : B 2 2 := B.of (k := 2) (by decide) (by decide)
  refine ⟨_, rfl, _, rfl, _, _, rfl, rfl, mulB B2 Bt, _, _, rfl, rfl, _, rfl, _, _, rfl, rfl, mulB B2 Bb, fun z4 dz0 nz ndz _ => new_sh (show 2 * b ≠ 0 by omega) ((B2.mul Bb).mono (by decide)) nz ndz fun H9 ⟨dz4, hz4⟩ s9 => ⟨rfl, ?_⟩⟩
  have hx := s9 _ _ hx
  have f5 := FlowAt.same f5 s9
  refine ⟨x, dx, _, .ref C, rfl, hx, shTy X hz4, X.fS, x, _, _, _, false, rfl, ⟨dx, hx⟩, .inl ⟨z4, _, _, rfl, ⟨dz4, hz4⟩, ndiff nb (by omega) (fun e => nb (by grind))⟩, _, rfl, ?_⟩
  clear hz hz2 hz3 hz4 s6 s7 s8 s9 un2 nz ndz
  refine ⟨_, rfl, _, rfl, x, C, dx, _, _, rfl, hx, X.cl, X.nT, shF_top _ _, _, rfl, x, C, dx, _, _, rfl, hx, X.cl, X.nB, shF_bottom _ _, (by show 2 ≤ sizeLine; decide), fun u hu => ?_⟩
  have su := Com.Same.upd (o := .tup [V.int (Num.nt t b), V.int (Num.nb t b)]) hu
  have hu1 := upd_same (H := H9) (a := u) (o := .tup [V.int (Num.nt t b), V.int (Num.nb t b)])
  refine ⟨_, rfl, (by show 1 ≤ sizeLine; decide), fun l hl2 => ?_⟩
  have sl := Com.Same.upd (o := .lst [V.ref x]) hl2
  have hl3 := upd_same (H := upd H9 u (.tup [V.int (Num.nt t b), V.int (Num.nb t b)])) (a := l) (o := .lst [V.ref x])
  refine fun dd hdd => ?_
  have sd := Com.Same.upd (o := .dK []) hdd
  have hd3 := upd_same (H := upd (upd H9 u (.tup [V.int (Num.nt t b), V.int (Num.nb t b)])) l (.lst [V.ref x])) (a := dd) (o := .dK [])
  refine ⟨(by show 8 ≤ sizeLine; decide), fun Lh hLh => ?_⟩
  have sL := Com.Same.upd (o := .lst [V.int t, V.ref u, V.non, V.bl true, V.bl false, V.str "1", V.ref l, V.ref dd]) hLh
  have hL := upd_same (H := upd (upd (upd H9 u (.tup [V.int (Num.nt t b), V.int (Num.nb t b)])) l (.lst [V.ref x])) dd (.dK [])) (a := Lh) (o := .lst [V.int t, V.ref u, V.non, V.bl true, V.bl false, V.str "1", V.ref l, V.ref dd])
  have all : ∀ v ∈ [V.int t, V.ref u, V.non, V.bl true, V.bl false, V.str "1", V.ref l, V.ref dd], ∃ T, Left (upd (upd (upd (upd H9 u (.tup [V.int (Num.nt t b), V.int (Num.nb t b)])) l (.lst [V.ref x])) dd (.dK [])) Lh (.lst [V.int t, V.ref u, V.non, V.bl true, V.bl false, V.str "1", V.ref l, V.ref dd])) v T := by
    intro v hv
    simp only [List.mem_cons, List.not_mem_nil, or_false] at hv
    rcases hv with rfl | rfl | rfl | rfl | rfl | rfl | rfl | rfl
    · exact ⟨_, .int _⟩
    · exact ⟨_, .tup (sL _ _ (sd _ _ (sl _ _ hu1)))⟩
    · exact ⟨_, .non⟩
    · exact ⟨_, .bl _⟩
    · exact ⟨_, .bl _⟩
    · exact ⟨_, .str _⟩
    · exact ⟨_, .lst (sL _ _ (sd _ _ hl3))⟩
    · exact ⟨_, .dK (sL _ _ hd3)⟩
  have hx := sL _ _ (sd _ _ (sl _ _ (su _ _ hx)))
  have f5 := FlowAt.same (FlowAt.same (FlowAt.same (FlowAt.same f5 su) sl) sd) sL
  refine at_hp2 (H' := upd (upd (upd (upd H9 u (.tup [V.int (Num.nt t b), V.int (Num.nb t b)])) l (.lst [V.ref x])) dd (.dK [])) Lh (.lst [V.int t, V.ref u, V.non, V.bl true, V.bl false, V.str "1", V.ref l, V.ref dd])) rfl ?_
  clear sL sd sl su hd3 hl3 hu1 hLh hdd hl2 hu
  generalize upd (upd (upd (upd H9 u (.tup [V.int (Num.nt t b), V.int (Num.nb t b)])) l (.lst [V.ref x])) dd (.dK [])) Lh (.lst [V.int t, V.ref u, V.non, V.bl true, V.bl false, V.str "1", V.ref l, V.ref dd]) = H10 at all hx f5 hL ⊢
  refine ⟨Lh, rfl, ⟨_, SqL.of hL⟩, for_list (K := K) (a := Lh) (xs := [V.int t, V.ref u, V.non, V.bl true, V.bl false, V.str "1", V.ref l, V.ref dd]) (fun i σ H' => ∃ v6 : Option V, σ = [some (.ref a0), some (.ref a), some (.int t), some (.int b), some (.int c), some (.ref x), v6, none, none] ∧ Same H10 H') ⟨none, rfl, fun _ _ e => e⟩ (fun i σ H' _ ⟨_, _, s⟩ => SqL.of (s _ _ hL)) ?_ ?_⟩
  · rintro i y σ H' hi ⟨v6, rfl, s⟩
    obtain ⟨T1, lf⟩ := all y (List.mem_of_getElem? hi)
    have kd := KD.of lf
    have lf := left_same s lf
    have hx := s _ _ hx
    refine ⟨_, rfl, _, rfl, x, dx, _, .type T1, rfl, hx, left_ty lf, kd.nf, x, _, _, _, false, rfl, ⟨dx, hx⟩, .inr ⟨.type T1, left_ty lf, kd.k, rfl⟩, _, rfl, ?_⟩
    refine fun z dz0 nz ndz _ => new_sh1 nz ndz fun H2 ⟨dz, hz⟩ s2 => ⟨rfl, ?_⟩
    have lf := left_same s2 lf
    refine ⟨_, rfl, z, dz, _, .type T1, rfl, hz, left_ty lf, kd.nf, z, _, _, _, false, rfl, ⟨dz, hz⟩, .inr ⟨.type T1, left_ty lf, kd.k, rfl⟩, _, rfl, ?_⟩
    refine ⟨_, rfl, fun z2 dz0 nz2 ndz2 _ => new_sh1 nz2 ndz2 fun H3 ⟨dz2, hz2⟩ s3 => ⟨rfl, ?_⟩⟩
    have lf := left_same s3 lf
    refine ⟨T1, z2, dz2, _, lf, rfl, hz2, kd.s, z2, y, _, _, false, rfl, ⟨dz2, hz2⟩, .inr ⟨.type T1, left_ty lf, kd.k, rfl⟩, _, rfl, ?_⟩
    exact ⟨some y, rfl, s.trans (s2.trans s3)⟩
  rintro σ H11 ⟨v6, rfl, s⟩
  have f5 := FlowAt.same f5 s
  clear all hx hL s
  refine ⟨_, rfl, fun z dz0 nz ndz _ => new_sh1 nz ndz fun H12 ⟨dz, hz⟩ s2 => ⟨rfl, z, C, dz, _, _, rfl, hz, X.cl, X.nT, shF_top _ _, _, rfl, rfl, _, rfl, ?_⟩⟩
  rw [nt_one, ne_t]
  have f5 := FlowAt.same f5 s2
  refine ⟨_, rfl, fun z2 dz0 nz ndz _ => new_sh1 nz ndz fun H13 ⟨dz2, hz2⟩ s3 => ⟨rfl, z2, C, dz2, _, _, rfl, hz2, X.cl, X.nB, shF_bottom _ _, rfl, _, rfl, ?_⟩⟩
  rw [nb_one, ne_t]
  have f5 := FlowAt.same f5 s3
  refine ⟨_, rfl, _, rfl, _, _, rfl, rfl, mulB Bb Bc, fun z3 dz0 nz ndz _ => new_sh (Int.mul_ne_zero nb nc) ((Bb.mul Bc).mono (by decide)) nz ndz fun H14 ⟨dz3, hz3⟩ s4 => ⟨rfl, z3, C, dz3, _, _, rfl, hz3, X.cl, X.nB, shF_bottom _ _, rfl, _, rfl, ?_⟩⟩
  rw [nb_zero (Int.mul_ne_zero nb nc), ne_t]
  have f5 := FlowAt.same f5 s4
  clear hz hz2 hz3 s2 s3 s4 nz ndz
  refine ⟨(by show 1 ≤ sizeLine; decide), fun t1 ht1 => ⟨(by show 0 ≤ sizeLine; decide), fun l1 hl1 d1 hd1 => ⟨(by show 0 ≤ sizeLine; decide), fun e1 he1 => ?_⟩⟩⟩
  have q1 := upd_same (H := H14) (a := t1) (o := .tup [V.int 1])
  have r2 := Com.Same.upd (o := .lst []) hl1
  have q2 := upd_same (H := upd H14 t1 (.tup [V.int 1])) (a := l1) (o := .lst [])
  have r3 := Com.Same.upd (o := .dK []) hd1
  have q3 := upd_same (H := upd (upd H14 t1 (.tup [V.int 1])) l1 (.lst [])) (a := d1) (o := .dK [])
  have r4 := Com.Same.upd (o := .tup []) he1
  have q4 := upd_same (H := upd (upd (upd H14 t1 (.tup [V.int 1])) l1 (.lst [])) d1 (.dK [])) (a := e1) (o := .tup [])
  have f5 := FlowAt.same (FlowAt.same (FlowAt.same (FlowAt.same f5 (Com.Same.upd (o := .tup [V.int 1]) ht1)) r2) r3) r4
  have q1 := r4 _ _ (r3 _ _ (r2 _ _ q1))
  have q2 := r4 _ _ (r3 _ _ q2)
  have q3 := r4 _ _ q3
  refine ⟨_, rfl, fun sh dz0 nz ndz _ => new_sh1 nz ndz fun H15 ⟨dsh, hsh⟩ s5 => ⟨rfl, _, rfl, (by show 1 ≤ sizeLine; decide), fun l2 hl2 => ?_⟩⟩
  have r6 := Com.Same.upd (o := .lst [V.int t]) hl2
  have q6 := upd_same (H := H15) (a := l2) (o := .lst [V.int t])
  have f5 := FlowAt.same (FlowAt.same f5 s5) r6
  refine ⟨(by show 11 ≤ sizeLine; decide), fun L hL0 => ?_⟩
  have rL := Com.Same.upd (o := .lst [V.non, V.bl true, V.bl false, V.str "1", V.str "", V.ref t1, V.ref l1, V.ref d1, V.ref e1, V.ref sh, V.ref l2]) hL0
  have hL := upd_same (H := upd H15 l2 (.lst [V.int t])) (a := L) (o := .lst [V.non, V.bl true, V.bl false, V.str "1", V.str "", V.ref t1, V.ref l1, V.ref d1, V.ref e1, V.ref sh, V.ref l2])
  have nL : L ≠ a := FlowAt.ne f5 hL0
  have f5 := FlowAt.same f5 rL
  have all : ∀ v ∈ [V.non, V.bl true, V.bl false, V.str "1", V.str "", V.ref t1, V.ref l1, V.ref d1, V.ref e1, V.ref sh, V.ref l2], PlainI K (upd (upd H15 l2 (.lst [V.int t])) L (.lst [V.non, V.bl true, V.bl false, V.str "1", V.str "", V.ref t1, V.ref l1, V.ref d1, V.ref e1, V.ref sh, V.ref l2])) v false := by
    intro v hv
    simp only [List.mem_cons, List.not_mem_nil, or_false] at hv
    have up : ∀ {a : Addr} {o : HO}, (upd (upd (upd (upd H14 t1 (.tup [V.int 1])) l1 (.lst [])) d1 (.dK [])) e1 (.tup [])) a = some o → (upd (upd H15 l2 (.lst [V.int t])) L (.lst [V.non, V.bl true, V.bl false, V.str "1", V.str "", V.ref t1, V.ref l1, V.ref d1, V.ref e1, V.ref sh, V.ref l2])) a = some o := fun e => rL _ _ (r6 _ _ (s5 _ _ e))
    rcases hv with rfl | rfl | rfl | rfl | rfl | rfl | rfl | rfl | rfl | rfl | rfl
    · exact plain_ty (.base .non) (kit_ty (by decide +kernel))
    · exact plain_bl
    · exact plain_bl
    · exact plain_ty (.base (.str _)) (kit_ty (by decide +kernel))
    · exact plain_ty (.base (.str _)) (kit_ty (by decide +kernel))
    · exact plain_ty (.base (.tup (up q1))) (kit_ty (by decide +kernel))
    · exact plain_ty (.base (.lst (up q2))) (kit_ty (by decide +kernel))
    · exact plain_ty (.base (.dK (up q3))) (kit_ty (by decide +kernel))
    · exact plain_ty (.base (.tup (up q4))) (kit_ty (by decide +kernel))
    · exact plain_ty (shTy X (rL _ _ (r6 _ _ hsh))) (kit_type (by decide +kernel) KD.int.s rfl)
    · exact plain_ty (.base (.lst (rL _ _ q6))) (kit_ty (by decide +kernel))
  clear q1 q2 q3 q4 q6 r2 r3 r4 r6 s5 hsh ht1 hl1 hd1 he1 hl2 rL hL0
  dsimp only [gName]
  refine at_st (σ' := [some (.ref a0), some (.ref a), some (.int t), some (.int b), some (.int c), some (.ref x), v6, some (.ref L), none]) rfl ?_
  refine ⟨_, rfl, _, rfl, _, rfl, L, _, rfl, .inl (SqL.of hL), a, _, rfl, f5, (by show (1 : Int) ≤ 11; decide), small200 (by show (11 : Int) ≤ 1000; decide), fun k H16 k0 k1 f6 b6 => ?_⟩
  obtain ⟨thing, hth, hat⟩ := pickL (xs := [V.non, V.bl true, V.bl false, V.str "1", V.str "", V.ref t1, V.ref l1, V.ref d1, V.ref e1, V.ref sh, V.ref l2]) k0 k1
  have pt : PlainI K H16 thing false := PlainI.kept (Kept.but b6 f5 f6) (all thing hth)
  refine ⟨L, _, _, thing, rfl, rfl, SqL.of (by rw [b6 L nL]; exact hL), hat, ?_⟩
  dsimp only [gName]
  refine at_st (σ' := [some (.ref a0), some (.ref a), some (.int t), some (.int b), some (.int c), some (.ref x), some thing, some (.ref L), none]) rfl ?_
  clear all hat hth hL nL b6 f5 k0 k1
  refine ⟨_, rfl, (by show 2 ≤ sizeLine; decide), fun L2 hL2 => ?_⟩
  have rL2 := Com.Same.upd (o := .lst [thing, V.int 0]) hL2
  have hL3 := upd_same (H := H16) (a := L2) (o := .lst [thing, V.int 0])
  have nL2 : L2 ≠ a := FlowAt.ne f6 hL2
  have f7 := FlowAt.same f6 rL2
  refine ⟨_, rfl, a, 2, rfl, f7, by decide, small200 (by decide), fun k H17 k0 k1 f8 b8 => ?_⟩
  obtain ⟨low, hlow, hat⟩ := pickL (xs := [thing, V.int 0]) k0 k1
  have pt : PlainI K H17 thing false := PlainI.kept (Kept.but b8 f7 f8) (pt.same rL2)
  have bl : BotV K H17 low false := by
    simp only [List.mem_cons, List.not_mem_nil, or_false] at hlow
    rcases hlow with rfl | rfl
    · exact .inr (.inr ⟨pt, rfl⟩)
    · exact .inr (.inl ⟨rfl, rfl⟩)
  refine ⟨L2, _, _, low, rfl, rfl, SqL.of (by rw [b8 L2 nL2]; exact hL3), hat, ?_⟩
  dsimp only [gName]
  refine at_st (σ' := [some (.ref a0), some (.ref a), some (.int t), some (.int b), some (.int c), some (.ref x), some thing, some (.ref L), some low]) rfl ?_
  have gb : ∀ {H : Hp}, BotV K H (.int b) true := .inl ⟨b, rfl, nb, Bb.mono (by decide), rfl⟩
  refine ⟨_, rfl, _, rfl, _, _, false, true, rfl, .inr ⟨pt, rfl⟩, gb, fun H18 s8 => ⟨rfl, _, rfl, ?_⟩⟩
  rw [ne_a]
  refine ⟨_, rfl, _, rfl, _, _, false, false, rfl, .inr ⟨pt.same s8, rfl⟩, bl.same s8, fun H19 s9 => ⟨rfl, _, rfl, ?_⟩⟩
  rw [ne_a]
  refine ⟨_, rfl, _, rfl, _, _, true, false, rfl, .inl ⟨t, rfl, rfl⟩, bl.same (s8.trans s9), fun H20 s10 => ⟨rfl, ?_⟩⟩
  rw [eq_b]
  refine ⟨_, rfl, _, rfl, _, rfl, _, _, true, true, rfl, .inl ⟨t, rfl, rfl⟩, gb, fun H21 s11 => ⟨rfl, ?_⟩⟩
  rw [is_n]
  exact q _
end
end K00
set_option Elab.async false
set_option linter.all false
set_option maxRecDepth 100000
set_option maxHeartbeats 4000000
namespace K00
open PySem PySem.Spec PyProof.Rows L2 Com
local macro_rules | `(tactic| walk_at "rd1") => `(tactic| (first
  | refine ⟨_, rfl, ?_⟩
  | refine ⟨_, _, rfl, rfl, ?_⟩
  | refine ⟨.inl ⟨by decide, by decide⟩, ?_⟩
  | refine ⟨.inr ⟨by decide, by decide⟩, ?_⟩
  | refine ⟨(by decide : (0 : Int) < _), ?_⟩
  | refine ⟨⟨by decide, by decide⟩, ?_⟩
  | refine ⟨⟨by decide, by decide, by decide⟩, ?_⟩
  | refine ⟨rfl, ?_⟩
  | refine .inl ⟨_, rfl, ?_⟩
  | refine .inr ⟨_, rfl, ?_⟩
  | refine ⟨_, _, _, _, rfl, rfl, SqL.of upd_same, rfl, ?_⟩
  | refine ⟨_, _, _, _, rfl, rfl, upd_same, rfl, ?_⟩
  | refine ⟨mulm (by decide) (by decide), ?_⟩
  | refine ⟨_, _, _, _, rfl, rfl, SqL.of (by assumption), rfl, ?_⟩
  | refine ⟨_, _, _, _, rfl, rfl, (by assumption), rfl, ?_⟩))
local macro_rules | `(tactic| walk_at "rd") => `(tactic| repeat (walk_at "rd1"))
section
variable {P : Program} {w : World} {K : PySem.W.Frag} {mg : Str → Option Value} {base : Heap} {C : Addr}
theorem sh_new1 {f : Addr} {fd : FuncData} {tk : Tok} (G : FnOk P w K mg base CX0 2 f fd ["self", "top", "bottom"] (spInit C)) (b : Binds K fd ["self", "top", "bottom"] [.int 1 tk]) (mk : Mk K C f) (hm : mg "Share" = some (.ref C)) : NewOk P w K mg base CX0 2 "Share" C (spInit1 C) :=
  ⟨⟨f, (G.raw (dvs := [.int 1]) b (.cons ⟨tk, rfl⟩ .nil)).imp fun vs H Q E ⟨p, dx, i, e, hp, q⟩ => ⟨p, dx, i, 1, by rw [e]; rfl, hp, by decide, B.of (k := 1) (by decide) (Nat.one_lt_two_pow (by decide)), q⟩, mk⟩, hm⟩
end
abbrev s_BadShare___init : Stmt := inClass (top 4) 0
abbrev N_BadShare___init : List Str := ["self", "field"]
/-- an error of the class at S is what «except S» names -/
theorem exm_self {K : PySem.W.Frag} {S : Addr} (h1 : PySem.W.subIn K (.ref S) (.type "BaseException") = some true) (h2 : PySem.W.isClsIn K S = true) (h3 : PySem.W.typeIn K (.ref S) = some (.type "type")) (h4 : PySem.W.subIn K (.ref S) (.ref S) = some true) : PySem.W.exmOne K (.ref S) (.ref S) = some true := by
  have e1 : (PySem.W.subIn K (.ref S) (.type "BaseException") == some true) = true := by rw [h1] <;> rfl
  have e2 : ((PySem.W.clsIn K S).isSome && PySem.W.typeIn K (.ref S) == some (.type "type")) = true := by
    have h2' : (PySem.W.clsIn K S).isSome = true := h2
    rw [h2', h3] <;> rfl
  show (if (PySem.W.subIn K (.ref S) (.type "BaseException") == some true) = true then (if ((PySem.W.clsIn K S).isSome && PySem.W.typeIn K (.ref S) == some (.type "type")) = true then PySem.W.subIn K (.ref S) (.ref S) else none) else none) = some true
  rw [if_pos e1, if_pos e2]
  exact h4
end K00
set_option Elab.async false
set_option linter.all false
set_option maxRecDepth 100000
set_option maxHeartbeats 4000000
namespace K00
open PySem PySem.Spec PyProof.Rows L2 Com
/-! ### what the top has made; the end -/
theorem all_mk {P : Program} {w : World} {K : PySem.W.Frag} {h : Heap} {mg : Str → Option Value} {fa : Addr} (X : K.In h) (G : h.Ns mainGlobals mg) (hfa : mg "law" = some (.ref fa))
    {f_is_plain_int : Addr} {od_is_plain_int an_is_plain_int : Option Addr} {sl_is_plain_int : Array (Option Value)} {oc_is_plain_int kV_is_plain_int dc_is_plain_int pm_is_plain_int cd_is_plain_int ct_is_plain_int : Value}
    {f_flow : Addr} {od_flow an_flow : Option Addr} {sl_flow : Array (Option Value)} {oc_flow kV_flow dc_flow pm_flow cd_flow ct_flow : Value}
    {f_pick : Addr} {od_pick an_pick : Option Addr} {sl_pick : Array (Option Value)} {oc_pick kV_pick dc_pick pm_pick cd_pick ct_pick : Value}
    {f_is_integer : Addr} {od_is_integer an_is_integer : Option Addr} {sl_is_integer : Array (Option Value)} {oc_is_integer kV_is_integer dc_is_integer pm_is_integer cd_is_integer ct_is_integer : Value}
    {f_common : Addr} {od_common an_common : Option Addr} {sl_common : Array (Option Value)} {oc_common kV_common dc_common pm_common cd_common ct_common : Value}
    {f_refused : Addr} {od_refused an_refused : Option Addr} {sl_refused : Array (Option Value)} {oc_refused kV_refused dc_refused pm_refused cd_refused ct_refused : Value}
    {f_law : Addr} {od_law an_law : Option Addr} {sl_law : Array (Option Value)} {oc_law kV_law dc_law pm_law cd_law ct_law : Value}
    {f_Share_eq : Addr} {od_Share_eq an_Share_eq : Option Addr} {sl_Share_eq : Array (Option Value)} {oc_Share_eq kV_Share_eq dc_Share_eq pm_Share_eq cd_Share_eq ct_Share_eq : Value}
    {C_Share : Addr}
    {C_BadShare : Addr}
    {f_i T_i : Addr} {od_i an_i odT : Option Addr} {sl_i slT : Array (Option Value)} {oc_i kV_i dc_i pm_i cd_i ct_i ocT : Value} {tk : Tok} {nTt : Nat}
    {e_nm e_q : Str} {e_N e_Ca : Addr} {e_bs e_sub : List Value} {e_sn : List Str} {e_ab : Bool} {e_col : Option Bool} {e_dd : Option Addr} {e_0 e_1 e_2 e_3 e_5 : Option Value}
    {f_E cda_E cc_E : Addr} {od_E an_E cld_E cdd_E : Option Addr} {sl_E csl_E ccs_E : Array (Option Value)} {oc_E dc_E pm_E ct_E cl_E ccl_E : Value} {vs_E : Array Value} {file_E : Str} {tf_E : Tok}
    (a_Share : PySem.W.nsIn K mainGlobals "Share" = some (some (.ref C_Share)))
    (a_BadShare : PySem.W.nsIn K mainGlobals "BadShare" = some (some (.ref C_BadShare)))
    (a_is_plain_int : PySem.W.nsIn K mainGlobals "is_plain_int" = some (some (.ref f_is_plain_int)))
    (l_is_plain_int : K.lookup f_is_plain_int = some ⟨oc_is_plain_int, od_is_plain_int, .func (PySem.W.fnOf "is_plain_int" "is_plain_int" (defArgs s_is_plain_int) (defBody s_is_plain_int) (defScope s_is_plain_int) .none kV_is_plain_int dc_is_plain_int pm_is_plain_int an_is_plain_int cd_is_plain_int ct_is_plain_int), sl_is_plain_int⟩)
    (c_is_plain_int : PySem.W.codeIn K cd_is_plain_int "is_plain_int" = true)
    (k_is_plain_int : PySem.W.keepIn K (.ref f_is_plain_int) = true)
    (a_flow : PySem.W.nsIn K mainGlobals "_law_flow" = some (some (.ref f_flow)))
    (l_flow : K.lookup f_flow = some ⟨oc_flow, od_flow, .func (PySem.W.fnOf "_law_flow" "_law_flow" (defArgs s_flow) (defBody s_flow) (defScope s_flow) .none kV_flow dc_flow pm_flow an_flow cd_flow ct_flow), sl_flow⟩)
    (c_flow : PySem.W.codeIn K cd_flow "_law_flow" = true)
    (k_flow : PySem.W.keepIn K (.ref f_flow) = true)
    (a_pick : PySem.W.nsIn K mainGlobals "_law_pick" = some (some (.ref f_pick)))
    (l_pick : K.lookup f_pick = some ⟨oc_pick, od_pick, .func (PySem.W.fnOf "_law_pick" "_law_pick" (defArgs s_pick) (defBody s_pick) (defScope s_pick) .none kV_pick dc_pick pm_pick an_pick cd_pick ct_pick), sl_pick⟩)
    (c_pick : PySem.W.codeIn K cd_pick "_law_pick" = true)
    (k_pick : PySem.W.keepIn K (.ref f_pick) = true)
    (a_is_integer : PySem.W.nsIn K mainGlobals "_law_is_integer" = some (some (.ref f_is_integer)))
    (l_is_integer : K.lookup f_is_integer = some ⟨oc_is_integer, od_is_integer, .func (PySem.W.fnOf "_law_is_integer" "_law_is_integer" (defArgs s_is_integer) (defBody s_is_integer) (defScope s_is_integer) .none kV_is_integer dc_is_integer pm_is_integer an_is_integer cd_is_integer ct_is_integer), sl_is_integer⟩)
    (c_is_integer : PySem.W.codeIn K cd_is_integer "_law_is_integer" = true)
    (k_is_integer : PySem.W.keepIn K (.ref f_is_integer) = true)
    (a_common : PySem.W.nsIn K mainGlobals "_law_common" = some (some (.ref f_common)))
    (l_common : K.lookup f_common = some ⟨oc_common, od_common, .func (PySem.W.fnOf "_law_common" "_law_common" (defArgs s_common) (defBody s_common) (defScope s_common) .none kV_common dc_common pm_common an_common cd_common ct_common), sl_common⟩)
    (c_common : PySem.W.codeIn K cd_common "_law_common" = true)
    (k_common : PySem.W.keepIn K (.ref f_common) = true)
    (a_refused : PySem.W.nsIn K mainGlobals "_law_refused" = some (some (.ref f_refused)))
    (l_refused : K.lookup f_refused = some ⟨oc_refused, od_refused, .func (PySem.W.fnOf "_law_refused" "_law_refused" (defArgs s_refused) (defBody s_refused) (defScope s_refused) .none kV_refused dc_refused pm_refused an_refused cd_refused ct_refused), sl_refused⟩)
    (c_refused : PySem.W.codeIn K cd_refused "_law_refused" = true)
    (k_refused : PySem.W.keepIn K (.ref f_refused) = true)
    (a_law : PySem.W.nsIn K mainGlobals "law" = some (some (.ref f_law)))
    (l_law : K.lookup f_law = some ⟨oc_law, od_law, .func (PySem.W.fnOf "law" "law" (defArgs s_law) (defBody s_law) (defScope s_law) .none kV_law dc_law pm_law an_law cd_law ct_law), sl_law⟩)
    (c_law : PySem.W.codeIn K cd_law "law" = true)
    (k_law : PySem.W.keepIn K (.ref f_law) = true)
    (a_Share_eq : PySem.W.findIn K (.ref C_Share) "__eq__" = some (some (.ref f_Share_eq)))
    (i_Share_eq : PySem.W.isFn K (.ref f_Share_eq) = true)
    (l_Share_eq : K.lookup f_Share_eq = some ⟨oc_Share_eq, od_Share_eq, .func (PySem.W.fnOf "__eq__" "Share.__eq__" (defArgs s_Share___eq) (defBody s_Share___eq) (defScope s_Share___eq) .none kV_Share_eq dc_Share_eq pm_Share_eq an_Share_eq cd_Share_eq ct_Share_eq), sl_Share_eq⟩)
    (c_Share_eq : PySem.W.codeIn K cd_Share_eq "Share.__eq__" = true)
    (k_Share_eq : PySem.W.keepIn K (.ref f_Share_eq) = true)
    (s_pg : PySem.W.plainGet K C_Share Str.empty = true)
    (s_hd : PySem.W.hasDictIn K C_Share = true)
    (s_po : PySem.W.plainOver K C_Share = true)
    (s_sa : PySem.W.findIn K (.ref C_Share) "__setattr__" = some (some (.builtin "object.__setattr__")))
    (s_mk : PySem.W.makesIn K C_Share = true)
    (s_kc : PySem.W.keepIn K (.ref C_Share) = true)
    (s_ca : PySem.W.findIn K (.ref C_Share) "__class__" = some (some (.builtin "object.__class__")))
    (s_cm : PySem.W.mroIn K C_Share (.type "object") = some true)
    (s_ic : PySem.W.isClsIn K C_Share = true)
    (s_ty : PySem.W.typeIn K (.ref C_Share) = some (.type "type"))
    (s_fS : PySem.W.notFirst K C_Share (.ref C_Share) = true)
    (s_n_top : PySem.W.findIn K (.ref C_Share) "top" = some none)
    (s_n_bottom : PySem.W.findIn K (.ref C_Share) "bottom" = some none)
    (cn : PySem.W.specialIn K (.builtin "object.__class__") "__get__" = some (some (.builtin "getset_descriptor.__get__")))
    (ct : PySem.W.takesIn K (.builtin "object.__class__") = some true)
    (i_a : PySem.W.findIn K (.ref C_Share) "__init__" = some (some (.ref f_i)))
    (i_f : PySem.W.isFn K (.ref f_i) = true)
    (i_l : K.lookup f_i = some ⟨oc_i, od_i, .func (PySem.W.fnOf "__init__" "Share.__init__" (defArgs s_Share___init) (defBody s_Share___init) (defScope s_Share___init) (.ref T_i) kV_i dc_i pm_i an_i cd_i ct_i), sl_i⟩)
    (i_c : PySem.W.codeIn K cd_i "Share.__init__" = true)
    (i_k : PySem.W.keepIn K (.ref f_i) = true)
    (i_t : K.lookup T_i = some ⟨ocT, odT, .seq #[.int 1 tk] nTt, slT⟩)
    (g_gcd : PySem.W.nsIn K mainGlobals "gcd" = some (some (.builtin "math.gcd")))
    (nf_NoneType : PySem.W.notFirst K C_Share (.type "NoneType") = true)
    (nf_bool : PySem.W.notFirst K C_Share (.type "bool") = true)
    (nf_int : PySem.W.notFirst K C_Share (.type "int") = true)
    (nf_str : PySem.W.notFirst K C_Share (.type "str") = true)
    (nf_list : PySem.W.notFirst K C_Share (.type "list") = true)
    (nf_tuple : PySem.W.notFirst K C_Share (.type "tuple") = true)
    (nf_dict : PySem.W.notFirst K C_Share (.type "dict") = true)
    (ks_NoneType : PySem.W.subIn K (.type "NoneType") (.ref C_Share) = some false)
    (ks_bool : PySem.W.subIn K (.type "bool") (.ref C_Share) = some false)
    (ks_int : PySem.W.subIn K (.type "int") (.ref C_Share) = some false)
    (ks_str : PySem.W.subIn K (.type "str") (.ref C_Share) = some false)
    (ks_list : PySem.W.subIn K (.type "list") (.ref C_Share) = some false)
    (ks_tuple : PySem.W.subIn K (.type "tuple") (.ref C_Share) = some false)
    (ks_dict : PySem.W.subIn K (.type "dict") (.ref C_Share) = some false)
    (kx_NoneType : PySem.W.subIn K (.ref C_Share) (.type "NoneType") = some false)
    (kx_bool : PySem.W.subIn K (.ref C_Share) (.type "bool") = some false)
    (kx_int : PySem.W.subIn K (.ref C_Share) (.type "int") = some false)
    (kx_str : PySem.W.subIn K (.ref C_Share) (.type "str") = some false)
    (kx_list : PySem.W.subIn K (.ref C_Share) (.type "list") = some false)
    (kx_tuple : PySem.W.subIn K (.ref C_Share) (.type "tuple") = some false)
    (kx_dict : PySem.W.subIn K (.ref C_Share) (.type "dict") = some false)
    (e_cls : K.lookup C_BadShare = some (excClassObj e_nm e_q C_BadShare e_N e_bs [.ref e_Ca, .type "ValueError", .type "Exception", .type "BaseException", .type "object"] true e_sn e_sub e_ab e_col e_dd e_0 e_1 e_2 e_3 e_5 "ValueError.__new__"))
    (e_sup : PySem.W.ks_superIn K C_BadShare C_BadShare "__init__" = some (some (.builtin "ValueError.__init__")))
    (e_sVE : PySem.W.subIn K (.ref C_BadShare) (.type "ValueError") = some true)
    (e_own : PySem.W.mroIn K C_BadShare (.ref C_BadShare) = some true)
    (e_op : PySem.W.nsIn K PySem.cStatics "thirdparty.any" = some none)
    (e_sa : PySem.W.findIn K (.ref C_BadShare) "__setattr__" = some (some (.builtin "object.__setattr__")))
    (e_ga : PySem.W.findIn K (.ref C_BadShare) "__getattribute__" = some (some (.builtin "BaseException.__getattribute__")))
    (e_gg : PySem.W.findIn K (.ref C_BadShare) "__getattr__" = some none)
    (e_no : PySem.W.findIn K (.ref C_BadShare) "field" = some none)
    (e_i : PySem.W.findIn K (.ref C_BadShare) "__init__" = some (some (.ref f_E)))
    (e_t : PySem.W.typeIn K (.ref f_E) = some (.type "function"))
    (e_k : PySem.W.keepIn K (.ref C_BadShare) = true)
    (e_ex : PySem.W.subIn K (.ref C_BadShare) (.type "BaseException") = some true)
    (e_ty : PySem.W.typeIn K (.ref C_BadShare) = some (.type "type"))
    (e_hd : PySem.W.hasDictIn K C_BadShare = true)
    (e_ic : PySem.W.isClsIn K C_BadShare = true)
    (e_ss : PySem.W.subIn K (.ref C_BadShare) (.ref C_BadShare) = some true)
    (e_l : K.lookup f_E = some ⟨oc_E, od_E, .func (PySem.W.ksFn "__init__" "BadShare.__init__" (defArgs s_BadShare___init) (defBody s_BadShare___init) (defScope s_BadShare___init) .none .none dc_E pm_E an_E (.ref cda_E) ct_E cc_E), sl_E⟩)
    (e_c : PySem.W.codeIn K (.ref cda_E) "BadShare.__init__" = true)
    (e_cc : K.lookup cc_E = some ⟨cl_E, cld_E, .cell (some (.ref C_BadShare)), csl_E⟩)
    (e_cd : K.lookup cda_E = some ⟨ccl_E, cdd_E, .fields vs_E, ccs_E⟩)
    (e_v2 : vs_E[2]? = some (.str file_E tf_E))
    (p_f : ((P.main.file : Str) == file_E) = true)
    (p_t : (P.main.scope.names.lookup ("super" : Str)).isSome = false)
    (z_len : PySem.W.nsIn K mainGlobals "len" = some none)
    (z_abs : PySem.W.nsIn K mainGlobals "abs" = some none)
    (z_int : PySem.W.nsIn K mainGlobals "int" = some none)
    (z_bool : PySem.W.nsIn K mainGlobals "bool" = some none)
    (z_isinstance : PySem.W.nsIn K mainGlobals "isinstance" = some none)
    (z_all : PySem.W.nsIn K mainGlobals "all" = some none)
    (z_range : PySem.W.nsIn K mainGlobals "range" = some none)
    (z_super : PySem.W.nsIn K mainGlobals "super" = some none)
    : ∃ fd : FuncData, (∀ (s : Shared) (v : Value), BindsTo s fd ⟨[v], []⟩ [("_law_script", v)]) ∧ ∀ base : Heap, K.In base → base.Ns mainGlobals mg → FnOk P w K mg base CX0 9 fa fd ["_law_script"] (spLaw K) := by
  have efa := hfa.symm.trans (PySem.W.mg_of X G a_law)
  cases efa
  have D_is_plain_int : DefAt K mg "is_plain_int" s_is_plain_int ["value"] := DefAt.of X G a_is_plain_int l_is_plain_int c_is_plain_int k_is_plain_int fun _ _ _ _ _ _ us hl => match us, hl with | [_], _ => rfl
  have D_flow : DefAt K mg "_law_flow" s_flow ["_law_script", "_law_k"] := DefAt.of X G a_flow l_flow c_flow k_flow fun _ _ _ _ _ _ us hl => match us, hl with | [_, _], _ => rfl
  have D_pick : DefAt K mg "_law_pick" s_pick ["_law_flow_here", "_law_size"] := DefAt.of X G a_pick l_pick c_pick k_pick fun _ _ _ _ _ _ us hl => match us, hl with | [_, _], _ => rfl
  have D_is_integer : DefAt K mg "_law_is_integer" s_is_integer ["_law_actual"] := DefAt.of X G a_is_integer l_is_integer c_is_integer k_is_integer fun _ _ _ _ _ _ us hl => match us, hl with | [_], _ => rfl
  have D_common : DefAt K mg "_law_common" s_common ["_law_one", "_law_other"] := DefAt.of X G a_common l_common c_common k_common fun _ _ _ _ _ _ us hl => match us, hl with | [_, _], _ => rfl
  have D_refused : DefAt K mg "_law_refused" s_refused ["_law_top", "_law_bottom"] := DefAt.of X G a_refused l_refused c_refused k_refused fun _ _ _ _ _ _ us hl => match us, hl with | [_, _], _ => rfl
  have D_law : DefAt K mg "law" s_law ["_law_script"] := DefAt.of X G a_law l_law c_law k_law fun _ _ _ _ _ _ us hl => match us, hl with | [_], _ => rfl
  have D_Share_eq : MethAt K C_Share "__eq__" "Share.__eq__" s_Share___eq ["self", "other"] := MethAt.of a_Share_eq i_Share_eq l_Share_eq c_Share_eq k_Share_eq fun _ _ _ _ _ _ us hl => match us, hl with | [_, _], _ => rfl
  have T : Blt mg := ⟨PySem.W.mg_none_of X G z_len, PySem.W.mg_none_of X G z_abs, PySem.W.mg_none_of X G z_int, PySem.W.mg_none_of X G z_bool, PySem.W.mg_none_of X G z_isinstance, PySem.W.mg_none_of X G z_all, PySem.W.mg_none_of X G z_range, PySem.W.mg_of X G g_gcd⟩
  have KD : Kinds K C_Share := ⟨⟨nf_NoneType, kit_own s_ic s_ty ks_NoneType rfl, kx_NoneType⟩, ⟨nf_bool, kit_own s_ic s_ty ks_bool rfl, kx_bool⟩, ⟨nf_int, kit_own s_ic s_ty ks_int rfl, kx_int⟩, ⟨nf_str, kit_own s_ic s_ty ks_str rfl, kx_str⟩, ⟨nf_list, kit_own s_ic s_ty ks_list rfl, kx_list⟩, ⟨nf_tuple, kit_own s_ic s_ty ks_tuple rfl, kx_tuple⟩, ⟨nf_dict, kit_own s_ic s_ty ks_dict rfl, kx_dict⟩⟩
  have ST : ShT K mg C_Share := ⟨⟨s_pg, s_hd, s_po, s_sa⟩, s_n_top, s_n_bottom, s_ca, cn, ct, s_cm, KD.int.k, s_fS, PySem.W.mg_of X G a_Share⟩
  have FI : FunD K "__init__" "Share.__init__" (defArgs s_Share___init) (defBody s_Share___init) (defScope s_Share___init) [.int 1] [] f_i _ := ⟨⟨oc_i, od_i, .ref T_i, kV_i, dc_i, pm_i, an_i, cd_i, ct_i, sl_i, rfl, i_l, i_c, .inr ⟨(fun h => nomatch h), T_i, _, [.int 1 tk], nTt, rfl, i_t, rfl, .cons ⟨tk, rfl⟩ .nil⟩, .inl rfl⟩, i_k⟩
  obtain ⟨dsI, rI, bI⟩ := FI.binds1 (ps := ["self", "top", "bottom"]) 2 0 (fun h => nomatch h) rfl fun _ _ _ _ _ _ _ us its hu hi => match us, its, hu, hi with | [_, _], [_], _, _ => ⟨_, rfl, rfl⟩
  obtain ⟨tk2, eI⟩ : ∃ tk2, dsI = [.int 1 tk2] := by
    cases rI with
    | cons a r =>
      cases r
      obtain ⟨t2, e⟩ := a
      exact ⟨t2, by rw [e]⟩
  subst eI
  obtain ⟨dsJ, rJ, bJ⟩ := FI.binds1 (ps := ["self", "top", "bottom"]) 3 1 (fun h => nomatch h) rfl fun _ _ _ _ _ _ _ us its hu hi => match us, its, hu, hi with | [_, _, _], [_], _, _ => ⟨_, rfl, rfl⟩
  have eJ : dsJ = [] := by cases rJ; rfl
  subst eJ
  obtain ⟨itsK, KB⟩ := FI.kbindsD (ps := ["self", "top", "bottom"]) 2 ["bottom"] (fun us _ ws => us ++ ws) (fun h => nomatch h) (fun r1 _ r3 => r1.append r3) fun _ _ _ _ _ _ _ us its ws h1 h2 h3 => match us, its, ws, h1, h2, h3 with | [_, _], [_], [_], _, _, _ => ⟨_, rfl, rfl⟩
  have TE : PySem.Exo.Txt P K mg "BadShare" C_BadShare f_E :=
    { gC := PySem.W.mg_of X G a_BadShare, gS := PySem.W.mg_none_of X G z_super, cls := ⟨_, _, _, _, _, _, _, _, _, _, _, _, _, _, _, e_cls, rfl⟩, sup := e_sup, sVE := e_sVE, own := e_own, op := e_op, sa := e_sa, ga := e_ga, gg := e_gg, noN := e_no, iC := e_i, tC := e_t, kC := e_k, exC := e_ex, tyC := e_ty, hdC := e_hd,
      te := exm_self e_ex e_ic e_ty e_ss, top := p_t, fn := ⟨_, _, _, _, _, _, _, _, _, _, _, _, _, _, _, _, _, _, _, _, _, _, _, _, _, _, _, _, _, _, _, _, e_l, e_c, e_cc, e_cd, e_v2, p_f, fun L => ⟨_, rfl⟩⟩ }
  refine ⟨PySem.W.fnOf "law" "law" (defArgs s_law) (defBody s_law) (defScope s_law) .none kV_law dc_law pm_law an_law cd_law ct_law, fun s v => .of_eq rfl, fun base _ _ => ?_⟩
  have O1 : DefOk P w K mg base CX0 1 "is_plain_int" (spPlain K) := ok_is_plain_int T D_is_plain_int
  have mkS : Mk K C_Share f_i := ⟨s_mk, i_a, i_f, s_kc⟩
  have hmS := PySem.W.mg_of X G a_Share
  have GI := ok_init (P := P) (w := w) (base := base) T ST O1 FI
  have NS : NewOk P w K mg base CX0 2 "Share" C_Share (spInit C_Share) := ⟨⟨f_i, raw0 GI bJ, mkS⟩, hmS⟩
  have N1 : NewOk P w K mg base CX0 2 "Share" C_Share (spInit1 C_Share) := sh_new1 GI bI mkS hmS
  have NX : NewOk P w K mg base (L2.CX P w) 2 "Share" C_Share (spInitX K C_Share C_BadShare) := ⟨⟨f_i, raw0 (ok_initX T ST TE O1 FI) bJ, mkS⟩, hmS⟩
  have KS : KwS P w K mg base C_Share := ⟨⟨_, _, _, GI, mkS, KB⟩, hmS⟩
  exact ok_law_fn T ST KD KS (ok_flow T D_flow) (ok_pick T D_pick) (ok_is_integer T D_is_integer) (ok_common T D_common) (ok_refused TE NX D_refused) NS N1 (ok_eqA T ST D_Share_eq) (fun_mk (st := s_law) l_law c_law k_law)
theorem walk {l : PySem.W.OpenLaw} {q : Program} {loose : List Str} {XP : (Str → Option Value) → Heap → Prop} {YP : World → Heap → Prop} {d : DefRec} {K : Params → PySem.W.Frag} (hn : l.most = some 63) (hdf : d.params.defaults = [])
    (hY : ∀ (w : World) (h : Heap), YP w h → (K w.params).In h)
    (F : ∀ (w : World) (mg : Str → Option Value) (fa : Addr) (h : Heap), (K w.params).In h → h.Ns mainGlobals mg → mg d.name = some (.ref fa) →
      ∃ fd : FuncData, (∀ (s : Shared) (u : Value), BindsTo s fd ⟨[u], []⟩ [("_law_script", u)]) ∧ ∀ base : Heap, (K w.params).In base → base.Ns mainGlobals mg → FnOk l.prog w (K w.params) mg base CX0 9 fa fd ["_law_script"] (spLaw (K w.params))) :
    PySem.W.WalkO q loose XP YP l.row.toRowW d [] (fun f vs => PySem.call f vs) :=
  L2.walk_of (n := 63) (k := 9) (x := "_law_script") (CX := fun _ => CX0) (sp := fun w => spLaw (K w.params)) hn (by decide) hdf ⟨rfl, by decide, by decide⟩ hY F (fun _ _ a ns hl _ hS => ⟨a, ns, rfl, hS, hl, fun _ => rfl⟩) fun _ _ _ _ _ z => z
end K00
open PySem PySem.W PyProof.Rows
set_option maxRecDepth 100000 in
set_option maxHeartbeats 0 in
theorem PySem.Challenge.cw_callsthrough_k00_share_lowest_terms_holds : PySem.Challenge.rw_callsthrough_k00_share_lowest_terms.Holds := by
  w_on; o_law; k_head; (case hw => w_witness2)
  k_fill
  refine K00.walk (l := PySem.Challenge.rw_callsthrough_k00_share_lowest_terms) rfl rfl (fun w h Y => PySem.W.kIn_of Y) ?F
  case F =>
    intro w mg fa h KX G hmg
    refine' K00.all_mk KX G hmg ?a_Share ?a_BadShare ?a_is_plain_int ?l_is_plain_int ?c_is_plain_int ?k_is_plain_int ?a_flow ?l_flow ?c_flow ?k_flow ?a_pick ?l_pick ?c_pick ?k_pick ?a_is_integer ?l_is_integer ?c_is_integer ?k_is_integer ?a_common ?l_common ?c_common ?k_common ?a_refused ?l_refused ?c_refused ?k_refused ?a_law ?l_law ?c_law ?k_law ?a_Share_eq ?i_Share_eq ?l_Share_eq ?c_Share_eq ?k_Share_eq ?s_pg ?s_hd ?s_po ?s_sa ?s_mk ?s_kc ?s_ca ?s_cm ?s_ic ?s_ty ?s_fS ?s_n_top ?s_n_bottom ?cn ?ct ?i_a ?i_f ?i_l ?i_c ?i_k ?i_t ?g_gcd ?nf_NoneType ?nf_bool ?nf_int ?nf_str ?nf_list ?nf_tuple ?nf_dict ?ks_NoneType ?ks_bool ?ks_int ?ks_str ?ks_list ?ks_tuple ?ks_dict ?kx_NoneType ?kx_bool ?kx_int ?kx_str ?kx_list ?kx_tuple ?kx_dict ?e_cls ?e_sup ?e_sVE ?e_own ?e_op ?e_sa ?e_ga ?e_gg ?e_no ?e_i ?e_t ?e_k ?e_ex ?e_ty ?e_hd ?e_ic ?e_ss ?e_l ?e_c ?e_cc ?e_cd ?e_v2 ?p_f ?p_t ?z_len ?z_abs ?z_int ?z_bool ?z_isinstance ?z_all ?z_range ?z_super
    (case a_Share => k_is)
    (case a_BadShare => k_is)
    (case a_is_plain_int => k_is)
    (case l_is_plain_int => k_is)
    (case c_is_plain_int => k_is)
    (case k_is_plain_int => k_is)
    (case a_flow => k_is)
    (case l_flow => k_is)
    (case c_flow => k_is)
    (case k_flow => k_is)
    (case a_pick => k_is)
    (case l_pick => k_is)
    (case c_pick => k_is)
    (case k_pick => k_is)
    (case a_is_integer => k_is)
    (case l_is_integer => k_is)
    (case c_is_integer => k_is)
    (case k_is_integer => k_is)
    (case a_common => k_is)
    (case l_common => k_is)
    (case c_common => k_is)
    (case k_common => k_is)
    (case a_refused => k_is)
    (case l_refused => k_is)
    (case c_refused => k_is)
    (case k_refused => k_is)
    (case a_law => k_is)
    (case l_law => k_is)
    (case c_law => k_is)
    (case k_law => k_is)
    (case a_Share_eq => k_is)
    (case i_Share_eq => k_is)
    (case l_Share_eq => k_is)
    (case c_Share_eq => k_is)
    (case k_Share_eq => k_is)
    (case s_pg => k_is)
    (case s_hd => k_is)
    (case s_po => k_is)
    (case s_sa => k_is)
    (case s_mk => k_is)
    (case s_kc => k_is)
    (case s_ca => k_is)
    (case s_cm => k_is)
    (case s_ic => k_is)
    (case s_ty => k_is)
    (case s_fS => k_is)
    (case s_n_top => k_is)
    (case s_n_bottom => k_is)
    (case cn => k_is)
    (case ct => k_is)
    (case i_a => k_is)
    (case i_f => k_is)
    (case i_l => k_is)
    (case i_c => k_is)
    (case i_k => k_is)
    (case i_t => k_is)
    (case g_gcd => k_is)
    (case nf_NoneType => k_is)
    (case nf_bool => k_is)
    (case nf_int => k_is)
    (case nf_str => k_is)
    (case nf_list => k_is)
    (case nf_tuple => k_is)
    (case nf_dict => k_is)
    (case ks_NoneType => k_is)
    (case ks_bool => k_is)
    (case ks_int => k_is)
    (case ks_str => k_is)
    (case ks_list => k_is)
    (case ks_tuple => k_is)
    (case ks_dict => k_is)
    (case kx_NoneType => k_is)
    (case kx_bool => k_is)
    (case kx_int => k_is)
    (case kx_str => k_is)
    (case kx_list => k_is)
    (case kx_tuple => k_is)
    (case kx_dict => k_is)
    (case e_cls => k_is)
    (case e_sup => ks_is)
    (case e_sVE => k_is)
    (case e_own => first | k_is | rfl | decide +kernel)
    (case e_op => k_is)
    (case e_sa => k_is)
    (case e_ga => k_is)
    (case e_gg => k_is)
    (case e_no => k_is)
    (case e_i => k_is)
    (case e_t => k_is)
    (case e_k => k_is)
    (case e_ex => k_is)
    (case e_ty => k_is)
    (case e_hd => k_is)
    (case e_ic => k_is)
    (case e_ss => first | rfl | k_is)
    (case e_l => k_is)
    (case e_c => k_is)
    (case e_cc => k_is)
    (case e_cd => k_is)
    (case e_v2 => rfl)
    (case p_f => first | decide +kernel | rfl)
    (case p_t => first | decide +kernel | rfl)
    (case z_len => k_is)
    (case z_abs => k_is)
    (case z_int => k_is)
    (case z_bool => k_is)
    (case z_isinstance => k_is)
    (case z_all => k_is)
    (case z_range => k_is)
    (case z_super => k_is)
