import PyProof.Rows.All
import Wide.All
import OpenK.AllK
import Wide.FinOn
import HandS.ForMost
import HandS.IsInst
import HandS.Wide
import HandS.More
import HandS.SlotsOwn
import HandS.ClsMeth
import HandS.TupMul
import HandS.TupAny
import HandS.Gcd
import HandS.MakeKw
import HandS.Defaults
import PySem.Challenge.RW_callsthrough_k01_share_arithmetic
set_option Elab.async false
set_option linter.all false
set_option maxRecDepth 100000
set_option maxHeartbeats 4000000
/-! Words of our own over the hand layer: a def by its name, its promise, its call; an own == . -/
namespace Com
open PySem PySem.Spec PyProof.Rows L2
/-! ### a def of the module, a method, a class, by their names -/
/-- the module has the name x of the def st -/
structure DefAt (K : PySem.W.Frag) (mg : Str → Option Value) (x : Str) (st : Stmt) (ps : List Str) : Prop where
  ex : ∃ (f : Addr) (fd : FuncData), Fun K x x st f fd ∧ mg x = some (.ref f) ∧ Binds K fd ps []
/-- the class at C has the method m, the def st -/
structure MethAt (K : PySem.W.Frag) (C : Addr) (m qual : Str) (st : Stmt) (ps : List Str) : Prop where
  ex : ∃ (f : Addr) (fd : FuncData), Fun K m qual st f fd ∧ Meth K C m f ∧ Binds K fd ps []
/-- the promises -/
structure DefOk (P : Program) (w : World) (K : PySem.W.Frag) (mg : Str → Option Value) (base : Heap) (CX : CXT) (k : Nat) (x : Str) (sp : Sp) : Prop where
  ex : ∃ f : Addr, FnR P w K mg base CX k f sp ∧ mg x = some (.ref f) ∧ PySem.W.keepIn K (.ref f) = true
structure MethOk (P : Program) (w : World) (K : PySem.W.Frag) (mg : Str → Option Value) (base : Heap) (CX : CXT) (k : Nat) (C : Addr) (m : Str) (sp : Sp) : Prop where
  ex : ∃ f : Addr, FnR P w K mg base CX k f sp ∧ Meth K C m f
structure NewOk (P : Program) (w : World) (K : PySem.W.Frag) (mg : Str → Option Value) (base : Heap) (CX : CXT) (k : Nat) (x : Str) (C : Addr) (sp : Sp) : Prop where
  ex : ∃ f : Addr, FnR P w K mg base CX k f sp ∧ Mk K C f
  mg : mg x = some (.ref C)
theorem DefAt.of {K : PySem.W.Frag} {mg : Str → Option Value} {h : Heap} {x : Str} {st : Stmt} {ps : List Str} {f : Addr} {oc : Value} {od an : Option Addr} {osl : Array (Option Value)} {kV doc pm cdv ct : Value}
    (X : K.In h) (G : h.Ns mainGlobals mg) (a : PySem.W.nsIn K mainGlobals x = some (some (.ref f)))
    (l : K.lookup f = some ⟨oc, od, .func (PySem.W.fnOf x x (defArgs st) (defBody st) (defScope st) .none kV doc pm an cdv ct), osl⟩) (c : PySem.W.codeIn K cdv x = true) (k : PySem.W.keepIn K (.ref f) = true)
    (b : ∀ (kV doc pm : Value) (an : Option Addr) (cdv ct : Value) (us : List Value), us.length = ps.length → bindArgs (PySem.W.fnOf x x (defArgs st) (defBody st) (defScope st) .none kV doc pm an cdv ct) ⟨us, []⟩ = pure (ps.zip us)) :
    DefAt K mg x st ps := ⟨f, _, fun_mk l c k, PySem.W.mg_of X G a, (fun_mk l c k).binds b⟩
theorem MethAt.of {K : PySem.W.Frag} {C : Addr} {m qual : Str} {st : Stmt} {ps : List Str} {f : Addr} {oc : Value} {od an : Option Addr} {osl : Array (Option Value)} {kV doc pm cdv ct : Value}
    (a : PySem.W.findIn K (.ref C) m = some (some (.ref f))) (i : PySem.W.isFn K (.ref f) = true)
    (l : K.lookup f = some ⟨oc, od, .func (PySem.W.fnOf m qual (defArgs st) (defBody st) (defScope st) .none kV doc pm an cdv ct), osl⟩) (c : PySem.W.codeIn K cdv qual = true) (k : PySem.W.keepIn K (.ref f) = true)
    (b : ∀ (kV doc pm : Value) (an : Option Addr) (cdv ct : Value) (us : List Value), us.length = ps.length → bindArgs (PySem.W.fnOf m qual (defArgs st) (defBody st) (defScope st) .none kV doc pm an cdv ct) ⟨us, []⟩ = pure (ps.zip us)) :
    MethAt K C m qual st ps := ⟨f, _, fun_mk l c k, ⟨a, i, k⟩, (fun_mk l c k).binds b⟩
theorem raw0 {P : Program} {w : World} {K : PySem.W.Frag} {mg : Str → Option Value} {base : Heap} {CX : CXT} {k : Nat} {f : Addr} {fd : FuncData} {ps : List Str} {sp : Sp} (F : FnOk P w K mg base CX k f fd ps sp) (b : Binds K fd ps []) : FnR P w K mg base CX k f sp :=
  (F.raw (ds := []) (dvs := []) b .nil).imp fun vs H Q E h => by rw [List.append_nil]; exact h
section
variable {P : Program} {w : World} {K : PySem.W.Frag} {mg : Str → Option Value} {base : Heap} {x qual : Str} {C : Addr} {st : Stmt} {ps N : List Str} {k : Nat} {sp : Sp}
theorem DefAt.ok (D : DefAt K mg x st ps) (S : FnScope N ps (defScope st)) (len : ∀ vs H Q E, sp vs H Q E → vs.length = ps.length)
    (hbody : ∀ (f : Addr) (cdv : Value) (A : Around) (outer : List Env) (s : Shared) (H : Hp) (vs : List V) (Q : VK) (E : XK), Room k (A.deeper (envOfC x (defScope st) s.heap.objs.size f cdv)) → sp vs H Q E →
      ∃ t, PSs (cxOf CX0 P w K mg base N x (defScope st) f cdv A outer s H E).nox (defBody st) t ∧ t { nx := fun _ H' => Q .non H', rt := Q } (start N vs) H) : DefOk P w K mg base CX0 (k + 1) x sp := by
  obtain ⟨f, fd, F, m, b⟩ := D.ex
  exact ⟨f, raw0 (F.ok S len (fun cdv A outer s H vs Q E hr h => hbody f cdv A outer s H vs Q E hr h)) b, m, F.kp⟩
theorem MethAt.fn (D : MethAt K C x qual st ps) (S : FnScope N ps (defScope st)) (len : ∀ vs H Q E, sp vs H Q E → vs.length = ps.length)
    (hbody : ∀ (f : Addr) (cdv : Value) (A : Around) (outer : List Env) (s : Shared) (H : Hp) (vs : List V) (Q : VK) (E : XK), Room k (A.deeper (envOfC qual (defScope st) s.heap.objs.size f cdv)) → sp vs H Q E →
      ∃ t, PSs (cxOf CX0 P w K mg base N qual (defScope st) f cdv A outer s H E).nox (defBody st) t ∧ t { nx := fun _ H' => Q .non H', rt := Q } (start N vs) H) : MethOk P w K mg base CX0 (k + 1) C x sp := by
  obtain ⟨f, fd, F, m, b⟩ := D.ex
  exact ⟨f, raw0 (F.ok S len (fun cdv A outer s H vs Q E hr h => hbody f cdv A outer s H vs Q E hr h)) b, m⟩
theorem DefOk.mono {CX : CXT} {j : Nat} (D : DefOk P w K mg base CX j x sp) (h : j ≤ k) : DefOk P w K mg base CX k x sp := let ⟨f, F, m, kp⟩ := D.ex; ⟨f, F.mono h, m, kp⟩
theorem MethOk.mono {CX : CXT} {j : Nat} (D : MethOk P w K mg base CX j C x sp) (h : j ≤ k) : MethOk P w K mg base CX k C x sp := let ⟨f, F, m⟩ := D.ex; ⟨f, F.mono h, m⟩
/-- an __init__ makes its class makeable -/
theorem MethOk.new {CX : CXT} (D : MethOk P w K mg base CX k C "__init__" sp) (mk : PySem.W.makesIn K C = true) (kc : PySem.W.keepIn K (.ref C) = true) (hm : mg x = some (.ref C)) : NewOk P w K mg base CX k x C sp :=
  let ⟨f, F, m⟩ := D.ex; ⟨⟨f, F, ⟨mk, m.at_, m.fn, kc⟩⟩, hm⟩
end
/-! ### calls -/
def tDef (sp : Sp) (E : XK) (t : TA) : TE := fun σ H Q => t σ H fun vs H1 => sp vs H1 Q E
def tNew (C : Addr) (sp : Sp) (E : XK) (t : TA) : TE := fun σ H Q => t σ H fun vs H1 => ∀ x dx, H1 x = none → H1 dx = none → dx ≠ x →
  sp (.ref x :: vs) (upd (upd H1 dx (.own x)) x (.ins C dx [])) (fun v H2 => v = .non ∧ Q (.ref x) H2) E
def tMth (C : Addr) (m : Str) (sp : Sp) (E : XK) (ta : TE) (t : TA) : TE := fun σ H Q => ta σ H fun x H1 => ∃ a dx fs, x = .ref a ∧ H1 a = some (.ins C dx fs) ∧ fs.lookup m = none ∧ t σ H1 fun vs H2 => sp (x :: vs) H2 Q E
section
variable {X : Cx} {CX : CXT} {k j : Nat} {C f : Addr} {sp : Sp} {E : XK} {x m : Str} {p pos apos : Pos} {o e : Expr} {es : List Expr} {ta : TE} {t : TA} {i : Nat}
theorem runR {pins : List (Addr × Obj)} {σ : L2.St} {H : Hp} {s : Shared} {Q : VK} {us : List Value} {vs : List V} (F : FnR X.prog X.w X.K X.mg X.base CX j f sp) (hr : Room k X.A) (hjk : j ≤ k) (hx : Passes CX X E) (I : Inv X pins σ H s) (r : Vals vs us) (h : sp vs H Q E) :
    wpAny (model X.prog X.w) X.A (call (.ref f) us) (EP X pins σ Q) X.xe s := wpAny_call (run_fnR F (hr.mono hjk) hx I r h)
theorem pe_def (D : DefOk X.prog X.w X.K X.mg X.base CX j x sp) (hr : Room k X.A) (hjk : j ≤ k) (hx : Passes CX X E) (ha : PA X (e :: es) t) (hg : Gl X x := by rfl) (hdb : (x == ("__debug__" : Str)) = false := by decide)
    (he : starEach (e :: es) X.env = (false, eval e X.env) :: starEach es X.env := by rfl) (hpl : (backTo pos (starEach es X.env)).any (·.1) = false := by rfl) :
    PE X (.Call (.Name x p) (e :: es) [] pos) (tDef sp E t) := by
  obtain ⟨f, F, m, kp⟩ := D.ex
  refine ⟨fun pins s σ H Q I h => ?_⟩
  refine wpAny_Call_Name_kw (ld_glob I hg m ?_ hdb)
  refine PySem.W.callWith_K (h₀ := X.base) I.ok.mod.kin kp (thn (ha.run pos pins s σ H _ I h) fun us s1 ⟨vs, H1, I1, r, q⟩ => ⟨I1.kIn, ?_⟩) he hpl
  exact runR F hr hjk hx I1 r q
theorem runNew {pins : List (Addr × Obj)} {σ : L2.St} {H : Hp} {s : Shared} {Q : VK} {us : List Value} {vs : List V} (M : Mk X.K C f) (F : FnR X.prog X.w X.K X.mg X.base CX j f sp) (hr : Room (k + 1) X.A) (hjk : j ≤ k)
    (hx : Passes CX X E) (I : Inv X pins σ H s) (r : Vals vs us)
    (h : ∀ x dx, H x = none → H dx = none → dx ≠ x → sp (.ref x :: vs) (upd (upd H dx (.own x)) x (.ins C dx [])) (fun v H2 => v = .non ∧ Q (.ref x) H2) E) :
    wpAny (model X.prog X.w) X.A (call (.ref C) us) (EP X pins σ Q) X.xe s := by
  have hq := h (s.heap.objs.size + 1) s.heap.objs.size (I.hok.fresh (Nat.le_succ _)) (I.hok.fresh (Nat.le_refl _)) (Nat.ne_of_lt (Nat.lt_succ_self _))
  have I2 := Inv.made (C := C) I
  have r2 : Vals (V.ref (s.heap.objs.size + 1) :: vs) (Value.ref (s.heap.objs.size + 1) :: us) := .cons rfl r
  refine wpAny_call (make_map (f := f) I.kIn M.makes M.init (beq_iff_eq.mp M.fn) (codeAny_mono (F _ X.stack _ _ (Value.ref (s.heap.objs.size + 1) :: us) _ _ E ((hr.make C us []).mono hjk)
    (I2.env0.make C us []) r2 hq) fun r s' hq' => ?_))
  cases r with
  | error e => exact hx pins σ _ _ e s' I2 hq'
  | ok fl =>
    cases fl with
    | ret u =>
      obtain ⟨v, H', I3, rv, ev, q3⟩ := I2.after hq'
      subst ev
      exact ⟨rv, ⟨V.ref (s.heap.objs.size + 1), H', I3, rfl, q3⟩⟩
    | next => exact False.elim hq'
    | brk => exact False.elim hq'
    | cont => exact False.elim hq'
theorem pe_new (M : NewOk X.prog X.w X.K X.mg X.base CX j x C sp) (hr : Room (k + 1) X.A) (hjk : j ≤ k) (hx : Passes CX X E) (ha : PA X (e :: es) t) (hg : Gl X x := by rfl) (hdb : (x == ("__debug__" : Str)) = false := by decide)
    (he : starEach (e :: es) X.env = (false, eval e X.env) :: starEach es X.env := by rfl) (hpl : (backTo pos (starEach es X.env)).any (·.1) = false := by rfl) :
    PE X (.Call (.Name x p) (e :: es) [] pos) (tNew C sp E t) := by
  obtain ⟨f, F, M1⟩ := M.ex
  refine ⟨fun pins s σ H Q I h => ?_⟩
  refine wpAny_Call_Name_kw (ld_glob I hg M.mg ?_ hdb)
  refine PySem.W.callWith_K (h₀ := X.base) I.ok.mod.kin M1.kp (thn (ha.run pos pins s σ H _ I h) fun us s1 ⟨vs, H1, I1, r, q⟩ => ⟨I1.kIn, ?_⟩) he hpl
  exact runNew M1 F hr hjk hx I1 r q
/-- the class stands in the i-th slot (cls of a classmethod) -/
def tNewL (i : Nat) (C : Addr) (sp : Sp) (E : XK) (t : TA) : TE := fun σ H Q => σ[i]? = some (some (.ref C)) ∧ tNew C sp E t σ H Q
theorem pe_newL {y : Str} (M : NewOk X.prog X.w X.K X.mg X.base CX j y C sp) (hr : Room (k + 1) X.A) (hjk : j ≤ k) (hx : Passes CX X E) (ha : PA X (e :: es) t) (hN : X.N[i]? = some x := by rfl) (hv : Vis X.env.scope x := by first | exact Or.inl rfl | exact Or.inr (Or.inl rfl) | exact Or.inr (Or.inr rfl))
    (hdb : (x == ("__debug__" : Str)) = false := by decide) (hcd : (x == ("__classdict__" : Str)) = false := by decide)
    (he : starEach (e :: es) X.env = (false, eval e X.env) :: starEach es X.env := by rfl) (hpl : (backTo pos (starEach es X.env)).any (·.1) = false := by rfl) :
    PE X (.Call (.Name x p) (e :: es) [] pos) (tNewL i C sp E t) := by
  obtain ⟨f, F, M1⟩ := M.ex
  refine ⟨fun pins s σ H Q I h => ?_⟩
  obtain ⟨hs, ht⟩ := h
  refine wpAny_Call_Name_kw (thn ((pe_var (pos := p) hN hv hdb hcd).run pins s σ H (fun v H1 => v = .ref C ∧ H1 = H) I ⟨.ref C, hs, rfl, rfl⟩) fun u s1 ⟨v, H1, I1, r1, q1⟩ => ?_)
  obtain ⟨rfl, rfl⟩ := q1
  cases r1
  refine PySem.W.callWith_K (h₀ := X.base) I.ok.mod.kin M1.kp (thn (ha.run pos pins s1 σ _ _ I1 ht) fun us s2 ⟨vs, H2, I2, r, q⟩ => ⟨I2.kIn, ?_⟩) he hpl
  exact runNew M1 F hr hjk hx I2 r q
theorem pe_mth {pl : Sem Bool} (he : PE X o ta) (c : Cls X.K C) (M : MethOk X.prog X.w X.K X.mg X.base CX j C m sp) (hr : Room k X.A) (hjk : j ≤ k) (hx : Passes CX X E) (ha : PA X (e :: es) t)
    (hst : starEach (e :: es) X.env = (false, eval e X.env) :: starEach es X.env := by rfl) (hpl : (backTo pos (starEach es X.env)).any (·.1) = false := by rfl)
    (ht : eval (.Call (.Attribute o m apos) (e :: es) [] pos) X.env = (do
      let ov ← eval o X.env
      standAt apos.atName
      let (f, first) ← holding [ov] (getMethod ov m pl)
      callWith pos f first (backTo pos (starEach (e :: es) X.env)) (backToKw pos (keywordEach [] X.env))) := by rfl) :
    PE X (.Call (.Attribute o m apos) (e :: es) [] pos) (tMth C m sp E ta t) := by
  obtain ⟨g, F, hm⟩ := M.ex
  refine ⟨fun pins s σ H Q I h => ?_⟩
  refine PySem.W.methodCall_KW (pl := pl) (thn (he.run pins s σ H _ I h) fun u s1 ⟨x, H1, I1, rx, a, dx, fs, ex, ea, l, q⟩ => ?_) ht
  subst ex
  obtain rfl : u = Value.ref a := rx
  refine getmeth_ok I1 ea c hm l ?_
  refine PySem.W.callWith_K (first := [.ref a]) (h₀ := X.base) I.ok.mod.kin hm.kp (thn (ha.run pos pins s1 σ H1 _ I1 q) fun us s2 ⟨vs, H2, I2, r, q2⟩ => ⟨I2.kIn, ?_⟩) hst hpl
  exact runR (us := .ref a :: us) (vs := .ref a :: vs) F hr hjk hx I2 (.cons rfl r) q2
theorem pe_mth0 {pl : Sem Bool} (he : PE X o ta) (c : Cls X.K C) (M : MethOk X.prog X.w X.K X.mg X.base CX j C m sp) (hr : Room k X.A) (hjk : j ≤ k) (hx : Passes CX X E)
    (ht : eval (.Call (.Attribute o m apos) [] [] pos) X.env = (do
      let ov ← eval o X.env
      standAt apos.atName
      let (f, first) ← holding [ov] (getMethod ov m pl)
      callWith pos f first (backTo pos (starEach [] X.env)) (backToKw pos (keywordEach [] X.env))) := by rfl) :
    PE X (.Call (.Attribute o m apos) [] [] pos) (tMth C m sp E ta tNil) := by
  obtain ⟨g, F, hm⟩ := M.ex
  refine ⟨fun pins s σ H Q I h => ?_⟩
  refine PySem.W.methodCall_KW (pl := pl) (thn (he.run pins s σ H _ I h) fun u s1 ⟨x, H1, I1, rx, a, dx, fs, ex, ea, l, q⟩ => ?_) ht
  subst ex
  obtain rfl : u = Value.ref a := rx
  refine getmeth_ok I1 ea c hm l ?_
  exact PySem.W.callWith_K0 (first := [.ref a]) I1.kIn hm.kp (runR (us := [.ref a]) (vs := [.ref a]) F hr hjk hx I1 (.cons rfl .nil) q)
/-- a classmethod, called on the class -/
structure CMethOk (P : Program) (w : World) (K : PySem.W.Frag) (mg : Str → Option Value) (base : Heap) (CX : CXT) (k : Nat) (C : Addr) (m : Str) (sp : Sp) : Prop where
  ex : ∃ (mc : Value) (p g : Addr), ClX.CRead K C mc ∧ ClX.CMet K C mc m p g ∧ FnR P w K mg base CX k g sp
theorem pe_cls {pl : Sem Bool} (he : PE X o ta) (M : CMethOk X.prog X.w X.K X.mg X.base CX j C m sp) (hr : Room k X.A) (hjk : j ≤ k) (hx : Passes CX X E) (ha : PA X (e :: es) t)
    (hst : starEach (e :: es) X.env = (false, eval e X.env) :: starEach es X.env := by rfl) (hpl : (backTo pos (starEach es X.env)).any (·.1) = false := by rfl)
    (ht : eval (.Call (.Attribute o m apos) (e :: es) [] pos) X.env = (do
      let ov ← eval o X.env
      standAt apos.atName
      let (f, first) ← holding [ov] (getMethod ov m pl)
      callWith pos f first (backTo pos (starEach (e :: es) X.env)) (backToKw pos (keywordEach [] X.env))) := by rfl) :
    PE X (.Call (.Attribute o m apos) (e :: es) [] pos) (ClX.tCMeth C sp E ta t) := by
  obtain ⟨mc, p, g, r, c, F⟩ := M.ex
  exact ClX.pe_cmeth he r c F (hr.mono hjk) hx ha hst hpl ht
end
/-- not e, by its truth as a test -/
def tNotP (t : TT) : TE := fun σ H Q => t σ H fun b H1 => Q (.bl (!b)) H1
/-! ### the places of a list, as op= reads them -/
theorem get_list {X : Cx} : PGet X (rIxL X.K) := by
  intro pins s σ H o i ov iv Q I ro ri h
  obtain ⟨p, xs, i, z, rfl, rfl, hq, he, q⟩ := h
  cases ro
  obtain ⟨t, rfl⟩ := ri
  obtain ⟨its, r, pl, hz⟩ := I.list hq
  obtain ⟨j, h1, h2, h3, h4, h5⟩ := atI_get he
  obtain ⟨w, ew, rw'⟩ := r.get h2
  have hl := r.length
  have hn := line63
  have fin : EP X pins σ Q w s := ⟨z, H, I, rw', q⟩
  by_cases h0 : 0 ≤ i
  · have hj : i.toNat = j := by
      rw [seqIndex_of h0 h5] at h1
      exact Option.some.inj h1
    exact wpAny_getItem_list pl.isList h0 (by omega) (by rw [hj]; simpa using ew) fin
  · have hj : (i + (its.toArray.size : Int)).toNat = j := by
      rw [seqIndex_neg (by omega) h4] at h1
      rw [List.size_toArray, ← hl]
      exact Option.some.inj h1
    exact wpAny_getItem_list_neg pl.isList (by omega) (by rw [List.size_toArray] <;> omega) (by omega) (by rw [hj]; simpa using ew) fin
/-! ### an own == -/
/-- x == y, x an instance of the class at C, whose __eq__ promises sp; y of any kind that is not ahead of C -/
def rEqO (K : PySem.W.Frag) (C : Addr) (sp : Sp) (E : XK) : R2 := fun x y H Q => ∃ a dx fs t, x = .ref a ∧ H a = some (.ins C dx fs) ∧ TyX K H y t ∧ PySem.W.notFirst K C t = true ∧ sp [x, y] H Q E
section
variable {X : Cx} {CX : CXT} {k j : Nat} {C : Addr} {sp : Sp} {E : XK}
theorem op_eqO (M : MethOk X.prog X.w X.K X.mg X.base CX j C "__eq__" sp) (hr : Room k X.A) (hjk : j ≤ k) (hx : Passes CX X E) : OpR X (compareOp .Eq) (rEqO X.K C sp E) := by
  obtain ⟨g, F, hm⟩ := M.ex
  intro pins s σ H x y v u Q I rx ry h
  obtain ⟨a, dx, fs, t, rfl, ha, ty, hn, q⟩ := h
  cases (show v = Value.ref a from rx)
  obtain ⟨mA, O, _⟩ := ins_get I.hok ha
  obtain ⟨od, J, _⟩ := O.look
  obtain ⟨P, Z, p, _⟩ := kit_of I ry ty
  obtain ⟨m, hF⟩ := I.fr
  show wpAny (model X.prog X.w) X.A (richCompare .Eq (.ref a) u) (EP X pins σ Q) X.xe s
  refine PySem.W.cmp_K (op := .Eq) (tb := t) hr.units0 hF I.ok.mod.kin J (Z.ty _ _ I.kIn p) hn hm.at_ hm.fn ?_
  refine wpAny_mono (runR (us := [.ref a, u]) (vs := [.ref a, y]) F hr hjk hx I (.cons rfl (.cons ry .nil)) q) (fun w s' z => ?_) fun _ _ x => x
  obtain ⟨z', H', I', rz, qz⟩ := z
  exact SlX.cmpback rz ⟨z', H', I', rz, qz⟩
end
/-! ### types stay -/
theorem TyOf.same {K : PySem.W.Frag} {H H' : Hp} (s : Same H H') {x : V} {t : Value} (h : TyOf K H x t) : TyOf K H' x t := by
  cases h with
  | non => exact .non
  | bl x => exact .bl x
  | int i => exact .int i
  | str x => exact .str x
  | flt x => exact .flt x
  | lst e => exact .lst (s _ _ e)
  | frz e => exact .frz (s _ _ e)
  | tup e => exact .tup (s _ _ e)
  | dK e => exact .dK (s _ _ e)
  | dT e => exact .dT (s _ _ e)
  | ins e cl ha hn htk hm => exact .ins (s _ _ e) cl ha hn htk hm
theorem TyX.same {K : PySem.W.Frag} {H H' : Hp} (s : Same H H') {x : V} {t : Value} (h : TyX K H x t) : TyX K H' x t := by
  cases h with
  | base h => exact .base (TyOf.same s h)
  | byt b => exact .byt b
  | set e => exact .set (s _ _ e)
  | kList e c => exact .kList e c
  | kTuple e c => exact .kTuple e c
  | kDict e c => exact .kDict e c
  | fTuple e => exact .fTuple (s _ _ e)
  | fDict e => exact .fDict (s _ _ e)
end Com
namespace Com
open PySem PySem.Spec PyProof.Rows L2
/-! ### tuples of ints, lists of pairs of ints: as data -/
def tI (ds : List Int) : PyData := .tuple (ds.map .int)
theorem eqvAll_ints : ∀ ds es : List Int, PyData.eqvAll (ds.map .int) (es.map .int) = decide (ds = es)
  | [], [] => rfl
  | [], e :: es => by simp [PyData.eqvAll]
  | d :: ds, [] => by simp [PyData.eqvAll]
  | d :: ds, e :: es => by
    rw [List.map_cons, List.map_cons, PyData.eqvAll, eqvAll_ints ds es, PyData.eqv]
    by_cases h : d = e
    · subst h
      by_cases h2 : ds = es
      · subst h2; simp
      · simp [h2]
    · simp [h]
theorem eqv_tI (ds es : List Int) : PyData.eqv (tI ds) (tI es) = decide (ds = es) := by
  show PyData.eqv (.tuple _) (.tuple _) = _
  rw [PyData.eqv]
  exact eqvAll_ints ds es
theorem lay_ints : ∀ ds : List Int, PyData.canLayAll0 (ds.map .int) = true
  | [] => rfl
  | d :: ds => by rw [List.map_cons, PyData.canLayAll0, PyData.canLay0, lay_ints ds]; rfl
theorem depth_ints : ∀ ds : List Int, PyData.depthAll (ds.map .int) = 0
  | [] => rfl
  | d :: ds => by rw [List.map_cons, PyData.depthAll, PyData.depth, depth_ints ds]; rfl
theorem shaped_tI (ds : List Int) : SeqAt.shaped (tI ds) = true := by
  show (PyData.canLay0 (.tuple _) && decide (PyData.depth (.tuple _) ≤ 64)) = true
  rw [PyData.canLay0, lay_ints, PyData.depth, depth_ints]
  rfl
theorem dpAll_ints {K : PySem.W.Frag} {H : Hp} : ∀ ds : List Int, DpAll K H (ds.map V.int) (ds.map .int)
  | [] => .nil
  | d :: ds => .cons (.int d) (dpAll_ints ds)
theorem dp_tI {K : PySem.W.Frag} {H : Hp} {a : Addr} {ds : List Int} (h : H a = some (.tup (ds.map V.int))) : Dp K H (.ref a) (tI ds) := .tup (SqT.of h) (dpAll_ints ds)
def pD (p : Int × Int) : PyData := tI [p.1, p.2]
def lP (ps : List (Int × Int)) : PyData := .list (ps.map pD)
theorem eqv_pD (p q : Int × Int) : PyData.eqv (pD p) (pD q) = decide (p = q) := by
  unfold pD
  rw [eqv_tI]
  obtain ⟨a, b⟩ := p
  obtain ⟨c, d⟩ := q
  simp
theorem eqvAll_pairs : ∀ ps qs : List (Int × Int), PyData.eqvAll (ps.map pD) (qs.map pD) = decide (ps = qs)
  | [], [] => rfl
  | [], e :: es => by simp [PyData.eqvAll]
  | d :: ds, [] => by simp [PyData.eqvAll]
  | d :: ds, e :: es => by
    rw [List.map_cons, List.map_cons, PyData.eqvAll, eqvAll_pairs ds es, eqv_pD]
    by_cases h : d = e
    · subst h
      by_cases h2 : ds = es
      · subst h2; simp
      · simp [h2]
    · simp [h]
theorem eqv_lP (ps qs : List (Int × Int)) : PyData.eqv (lP ps) (lP qs) = decide (ps = qs) := by
  show PyData.eqv (.list _) (.list _) = _
  rw [PyData.eqv]
  exact eqvAll_pairs ps qs
theorem lay_pairs : ∀ ps : List (Int × Int), PyData.canLayAll0 (ps.map pD) = true
  | [] => rfl
  | d :: ds => by
    rw [List.map_cons, PyData.canLayAll0, lay_pairs ds]
    show (PyData.canLay0 (.tuple _) && true) = true
    rw [PyData.canLay0, lay_ints]
    rfl
theorem depth_pairs : ∀ ps : List (Int × Int), PyData.depthAll (ps.map pD) ≤ 1
  | [] => by rw [List.map_nil, PyData.depthAll]; omega
  | d :: ds => by
    have := depth_pairs ds
    rw [List.map_cons, PyData.depthAll]
    have e : PyData.depth (pD d) = 1 := by
      show PyData.depth (.tuple _) = 1
      rw [PyData.depth, depth_ints]
    omega
theorem shaped_lP (ps : List (Int × Int)) : SeqAt.shaped (lP ps) = true := by
  have h := depth_pairs ps
  show (PyData.canLay0 (.list _) && decide (PyData.depth (.list _) ≤ 64)) = true
  rw [PyData.canLay0, lay_pairs, PyData.depth, Bool.true_and]
  exact decide_eq_true (by omega)
/-- at a list's places tuples of two ints: the pairs ps -/
def PairsV (H : Hp) : List V → List (Int × Int) → Prop := Paired fun v p => ∃ a, v = .ref a ∧ H a = some (.tup [.int p.1, .int p.2])
theorem PairsV.dp {K : PySem.W.Frag} {H : Hp} : ∀ {vs : List V} {ps : List (Int × Int)}, PairsV H vs ps → DpAll K H vs (ps.map pD)
  | _, _, .nil => .nil
  | _, _, .cons ⟨a, e, h⟩ t => by
    subst e
    exact .cons (dp_tI (ds := [_, _]) h) (PairsV.dp t)
theorem PairsV.same {H H' : Hp} (s : Same H H') : ∀ {vs : List V} {ps : List (Int × Int)}, PairsV H vs ps → PairsV H' vs ps
  | _, _, .nil => .nil
  | _, _, .cons ⟨a, e, h⟩ t => .cons ⟨a, e, s _ _ h⟩ (PairsV.same s t)
theorem PairsV.mono {H H' : Hp} (s : ∀ b xs, H b = some (.tup xs) → H' b = some (.tup xs)) : ∀ {vs : List V} {ps : List (Int × Int)}, PairsV H vs ps → PairsV H' vs ps
  | _, _, .nil => .nil
  | _, _, .cons ⟨a, e, h⟩ t => .cons ⟨a, e, s _ _ h⟩ (PairsV.mono s t)
theorem dp_lP {K : PySem.W.Frag} {H : Hp} {a : Addr} {vs : List V} {ps : List (Int × Int)} (h : H a = some (.lst vs)) (p : PairsV H vs ps) : Dp K H (.ref a) (lP ps) := .lst (SqL.of h) p.dp
/-! ### fields -/
theorem putF_nil {f : Str} {v : V} : putF f v [] = [(f, v)] := rfl
theorem putF_ne {f g : Str} {v w : V} {fs : List (Str × V)} (h : ¬ g = f) : putF f v ((g, w) :: fs) = (g, w) :: putF f v fs := by
  show (if g = f then _ else _) = _
  rw [if_neg h]
theorem putF_eq {f : Str} {v w : V} {fs : List (Str × V)} : putF f v ((f, w) :: fs) = (f, v) :: fs := by
  show (if f = f then _ else _) = _
  rw [if_pos rfl]
theorem lk_eq {f : Str} {v : V} {fs : List (Str × V)} : List.lookup f ((f, v) :: fs) = some v := by simp [List.lookup]
theorem lk_ne {f g : Str} {v : V} {fs : List (Str × V)} (h : (f == g) = false) : List.lookup f ((g, v) :: fs) = List.lookup f fs := by simp [List.lookup, h]
theorem ifB {b : Bool} {A B : Prop} (h1 : b = true → A) (h2 : b = false → B) : if b = true then A else B := by
  cases b with
  | true => exact iteT (h1 rfl)
  | false => exact iteF (h2 rfl)
theorem mulm {x m y : Int} (h0 : 0 < m) (h : m < 2 ^ 64) : CMul (x % m) y :=
  .inl ⟨by have := Int.emod_nonneg x (show m ≠ 0 by omega); omega, by have := Int.emod_lt_of_pos x h0; omega⟩
theorem len1 {n : Nat} (h : n ≤ 1000) : n ≤ sizeLine := Nat.le_of_lt (small1000 h)
theorem divW {n size : Int} (h1 : 1 ≤ size) (h2 : size < 2 ^ 200) : CDivW n size := wide_div (b := 200) (by omega) (by
  have : ((2 : Int) ^ 200) = (((2 : Nat) ^ 200 : Nat) : Int) := by decide
  omega) (by decide) (by decide)
/-- all that stood but what stood at a stands; nothing new but .. -/
def But (a : Addr) (H H' : Hp) : Prop := ∀ b, b ≠ a → H' b = H b
theorem But.upd {H : Hp} {p : Addr} {o : HO} : But p H (upd H p o) := fun b hb => upd_ne hb
theorem But.same {H H' : Hp} {p : Addr} (h : But p H H') (n : H p = none) : Same H H' := fun b o e => by rw [h b (ne_of_none e n)]; exact e
theorem Same.upd {H : Hp} {p : Addr} {o : HO} (n : H p = none) : Same H (upd H p o) := fun b u e => by rw [upd_ne (ne_of_none e n)]; exact e
/-- at a the three numbers of a flow of draws -/
def FlowAt (H : Hp) (a : Addr) : Prop := ∃ n c r : Int, H a = some (.lst [.int n, .int c, .int r])
theorem FlowAt.new {H : Hp} {p : Addr} {n c r : Int} : FlowAt (upd H p (.lst [.int n, .int c, .int r])) p := ⟨n, c, r, upd_same⟩
end Com
namespace Com
open PySem PySem.Spec PyProof.Rows L2
/-! ### walks of a comprehension, by an invariant of the heap -/
theorem lp_range {lo : Int} {n : Nat} {H0 : Hp} {Qd : Hp → Prop} {B : V → Hp → (Hp → Prop) → Prop} (Pv : Nat → Hp → Prop) (h0 : Pv 0 H0) (hs : ∀ i H, i < n → Pv i H → B (.int (lo + i)) H (Pv (i + 1))) (hd : ∀ H, Pv n H → Qd H) :
    ∃ W : Nat → Nat → Hp → Prop, (∃ m, W 0 m H0) ∧ ∀ i m H, W i m H → ((Itr lo n).stop i H ∧ Qd H) ∨ ((Itr lo n).go i H ∧ ∃ Nx : Hp → Prop, (∀ H', Nx H' → ∃ m', m' < m ∧ W (i + 1) m' H') ∧ ∀ x H', (Itr lo n).yld i H x H' → B x H' Nx) := by
  refine ⟨fun i m H => m = n - i ∧ i ≤ n ∧ Pv i H, ⟨n, by simp, Nat.zero_le _, h0⟩, ?_⟩
  rintro i m H ⟨rfl, hi, p⟩
  by_cases hlt : i < n
  · refine .inr ⟨hlt, Pv (i + 1), fun H' p' => ⟨n - (i + 1), by omega, rfl, hlt, p'⟩, fun x H' y => ?_⟩
    obtain ⟨e, y⟩ := y
    subst e y
    exact hs i _ hlt p
  · have e : i = n := by omega
    subst e
    exact .inl ⟨Nat.le_refl _, hd H p⟩
theorem lp_tup {K : PySem.W.Frag} {a : Addr} {xs : List V} {H0 : Hp} {Qd : Hp → Prop} {B : V → Hp → (Hp → Prop) → Prop} (Pv : Nat → Hp → Prop) (h0 : Pv 0 H0) (hl : ∀ i H, i ≤ xs.length → Pv i H → SqT K H a xs) (hs : ∀ i x H, xs[i]? = some x → Pv i H → B x H (Pv (i + 1))) (hd : ∀ H, Pv xs.length H → Qd H) :
    ∃ W : Nat → Nat → Hp → Prop, (∃ m, W 0 m H0) ∧ ∀ i m H, W i m H → ((Itt K a).stop i H ∧ Qd H) ∨ ((Itt K a).go i H ∧ ∃ Nx : Hp → Prop, (∀ H', Nx H' → ∃ m', m' < m ∧ W (i + 1) m' H') ∧ ∀ x H', (Itt K a).yld i H x H' → B x H' Nx) := by
  refine ⟨fun i m H => m = xs.length - i ∧ i ≤ xs.length ∧ Pv i H, ⟨xs.length, by simp, Nat.zero_le _, h0⟩, ?_⟩
  rintro i m H ⟨rfl, hi, p⟩
  have q := hl i H hi p
  by_cases hlt : i < xs.length
  · refine .inr ⟨⟨xs, xs[i], q, by simp [hlt]⟩, Pv (i + 1), fun H' p' => ⟨xs.length - (i + 1), by omega, rfl, hlt, p'⟩, fun x H' y => ?_⟩
    obtain ⟨e, y⟩ := y
    subst e
    exact hs i x _ (y xs q) p
  · have e : i = xs.length := by omega
    subst e
    exact .inl ⟨⟨xs, q, Nat.le_refl _⟩, hd H p⟩
theorem lp_list {K : PySem.W.Frag} {a : Addr} {xs : List V} {H0 : Hp} {Qd : Hp → Prop} {B : V → Hp → (Hp → Prop) → Prop} (Pv : Nat → Hp → Prop) (h0 : Pv 0 H0) (hl : ∀ i H, i ≤ xs.length → Pv i H → SqL K H a xs) (hs : ∀ i x H, xs[i]? = some x → Pv i H → B x H (Pv (i + 1))) (hd : ∀ H, Pv xs.length H → Qd H) :
    ∃ W : Nat → Nat → Hp → Prop, (∃ m, W 0 m H0) ∧ ∀ i m H, W i m H → ((Itl K a).stop i H ∧ Qd H) ∨ ((Itl K a).go i H ∧ ∃ Nx : Hp → Prop, (∀ H', Nx H' → ∃ m', m' < m ∧ W (i + 1) m' H') ∧ ∀ x H', (Itl K a).yld i H x H' → B x H' Nx) := by
  refine ⟨fun i m H => m = xs.length - i ∧ i ≤ xs.length ∧ Pv i H, ⟨xs.length, by simp, Nat.zero_le _, h0⟩, ?_⟩
  rintro i m H ⟨rfl, hi, p⟩
  have q := hl i H hi p
  by_cases hlt : i < xs.length
  · refine .inr ⟨⟨xs, xs[i], q, by simp [hlt]⟩, Pv (i + 1), fun H' p' => ⟨xs.length - (i + 1), by omega, rfl, hlt, p'⟩, fun x H' y => ?_⟩
    obtain ⟨e, y⟩ := y
    subst e
    exact hs i x _ (y xs q) p
  · have e : i = xs.length := by omega
    subst e
    exact .inl ⟨⟨xs, q, Nat.le_refl _⟩, hd H p⟩
/-! ### kinds -/
/-- isinstance(x, int) and not isinstance(x, bool): its answer -/
def PlainI (K : PySem.W.Frag) (H : Hp) (x : V) (b : Bool) : Prop := ∃ t b1, TyX K H x t ∧ PySem.W.kitOne K t (.type "int") = some b1 ∧ (b1 = false → b = false) ∧ (b1 = true → ∃ b2, PySem.W.kitOne K t (.type "bool") = some b2 ∧ b = !b2)
theorem PlainI.int {K : PySem.W.Frag} {H : Hp} (i : Int) : PlainI K H (.int i) true := ⟨.type "int", true, .base (.int i), kit_ty (by decide +kernel), (fun h => nomatch h), fun _ => ⟨false, kit_ty (by decide +kernel), rfl⟩⟩
theorem PlainI.same {K : PySem.W.Frag} {H H' : Hp} (s : Same H H') {x : V} {b : Bool} (h : PlainI K H x b) : PlainI K H' x b := let ⟨t, b1, ty, r⟩ := h; ⟨t, b1, TyX.same s ty, r⟩
/-- is x an integer from lo to hi: the answer -/
def InR (K : PySem.W.Frag) (H : Hp) (x : V) (lo hi : Int) (b : Bool) : Prop := (∃ i, x = .int i ∧ b = (decide (lo ≤ i) && decide (i ≤ hi))) ∨ (PlainI K H x false ∧ b = false)
theorem InR.same {K : PySem.W.Frag} {H H' : Hp} (s : Same H H') {x : V} {lo hi : Int} {b : Bool} (h : InR K H x lo hi b) : InR K H' x lo hi b := h.elim .inl fun ⟨p, e⟩ => .inr ⟨p.same s, e⟩
theorem InR.good {K : PySem.W.Frag} {H : Hp} {i lo hi : Int} (h1 : lo ≤ i) (h2 : i ≤ hi) : InR K H (.int i) lo hi true := .inl ⟨i, rfl, by rw [decide_eq_true h1, decide_eq_true h2]; rfl⟩
end Com
namespace Com
open PySem PySem.Spec PyProof.Rows L2
theorem pe_gint {X : Cx} {x : Str} {i : Int} {t : Tok} {pos : Pos} (hg : Gl X x) (hm : X.mg x = some (.int i t)) (hd : (x == ("__debug__" : Str)) = false := by decide) : PE X (.Name x pos) (tC (.int i)) := pe_glob (v := .int i) hg hm ⟨t, rfl⟩ hd
end Com
namespace Com
open PySem PySem.Spec PyProof.Rows L2
theorem pe_gcls {X : Cx} {x : Str} {C : Addr} {pos : Pos} (hg : Gl X x) (hm : X.mg x = some (.ref C)) (hd : (x == ("__debug__" : Str)) = false := by decide) : PE X (.Name x pos) (tC (.ref C)) := pe_glob (v := .ref C) hg hm rfl hd
end Com
namespace Com
open PySem PySem.Spec PyProof.Rows L2
/-- all pairs, ascending -/
def rowL (i m : Nat) : List (Int × Int) := (List.range m).map fun (j : Nat) => ((i : Int), (j : Int))
def pairsL (n m : Nat) : List (Int × Int) := (List.range n).flatMap fun i => rowL i m
theorem rowL_succ (i m : Nat) : rowL i (m + 1) = rowL i m ++ [((i : Int), (m : Int))] := by
  unfold rowL
  rw [List.range_succ, List.map_append]
  rfl
theorem pairsL_succ (n m : Nat) : pairsL (n + 1) m = pairsL n m ++ rowL n m := by
  unfold pairsL
  rw [List.range_succ, List.flatMap_append]
  simp
theorem rowL_len (i m : Nat) : (rowL i m).length = m := by simp [rowL]
theorem pairsL_len (n m : Nat) : (pairsL n m).length = n * m := by
  induction n with
  | zero => simp [pairsL]
  | succ n ih => rw [pairsL_succ, List.length_append, ih, rowL_len, Nat.succ_mul]
end Com
namespace Com
open PySem PySem.Spec PyProof.Rows L2
/-! ### the rules whose readings name the written part, with that part a letter of ours -/
def rLen (K : PySem.W.Frag) : List V → Hp → VK → Prop := fun xs H Q => ∃ p ys, xs = [.ref p] ∧ (SqL K H p ys ∨ SqT K H p ys) ∧ Q (.int (ys.length : Nat)) H
def rListOf (K : PySem.W.Frag) : List V → Hp → VK → Prop := fun xs H Q => ∃ p ys, xs = [.ref p] ∧ (SqL K H p ys ∨ SqT K H p ys) ∧ ∀ l, H l = none → Q (.ref l) (upd H l (.lst ys))
def rTupleOf (K : PySem.W.Frag) : List V → Hp → VK → Prop := fun xs H Q => ∃ p ys, xs = [.ref p] ∧ ((SqL K H p ys ∧ ∀ l, H l = none → Q (.ref l) (upd H l (.tup ys))) ∨ (SqT K H p ys ∧ Q (.ref p) H))
section
variable {X : Cx} {K : PySem.W.Frag} {e o value : Expr} {f : Str} {pos pos' : Pos} {ta tv tl : TE} {tg : Expr}
theorem pe_fldK (K : PySem.W.Frag) (he : PE X e ta) (hb : attributeBase e f X.env (eval e X.env) = eval e X.env := by rfl) (hK : X.K = K := by rfl) : PE X (.Attribute e f pos) (tFld K ta f) := by subst hK; exact pe_fld he hb
theorem ps_fldK (K : PySem.W.Frag) (ha : PE X o ta) (hv : PE X value tv) (hs : swapsWith value (some (.Attribute o f pos')) pos.line X.env = pure false := by rfl) (hK : X.K = K := by rfl) : PS X (.Assign [.Attribute o f pos'] value pos) (sFld K ta tv f) := by subst hK; exact ps_fld ha hv hs
theorem cl_len (K : PySem.W.Frag) (hK : X.K = K := by rfl) : CallR X (.builtin "len") (rLen K) := by subst hK; exact call_len_seq
theorem cl_isi (K : PySem.W.Frag) (hK : X.K = K := by rfl) : CallR X (.builtin "isinstance") (rIsi K) := by subst hK; exact call_isi
theorem cl_list (K : PySem.W.Frag) (hK : X.K = K := by rfl) : CallR X (.type "list") (rListOf K) := by subst hK; exact call_list_of
theorem cl_tuple (K : PySem.W.Frag) (hK : X.K = K := by rfl) : CallR X (.type "tuple") (rTupleOf K) := by subst hK; exact call_tuple_of
theorem cl_all (K : PySem.W.Frag) (hc : X.calm = true := by rfl) (hK : X.K = K := by rfl) : CallR X (.builtin "all") (rAll K) := by subst hK; exact cr_all hc
theorem cl_any (K : PySem.W.Frag) (hc : X.calm = true := by rfl) (hK : X.K = K := by rfl) : CallR X (.builtin "any") (rAny K) := by subst hK; exact cr_any hc
theorem cl_sum (K : PySem.W.Frag) (hc : X.calm = true := by rfl) (hK : X.K = K := by rfl) : CallR X (.builtin "sum") (rSum K) := by subst hK; exact cr_sum hc
theorem ixL (K : PySem.W.Frag) (hK : X.K = K := by rfl) : IxR X (rIxL K) := by subst hK; exact ix_list
theorem ixT (K : PySem.W.Frag) (hK : X.K = K := by rfl) : IxR X (rIxT K) := by subst hK; exact ix_tup
theorem getL (K : PySem.W.Frag) (hK : X.K = K := by rfl) : PGet X (rIxL K) := by subst hK; exact get_list
theorem eqD (K : PySem.W.Frag) (hu : X.A.units + 64 < cLine) (hK : X.K = K := by rfl) : OpR X (compareOp .Eq) (rEqD K) := by subst hK; exact op_eqD hu
theorem neD (K : PySem.W.Frag) (hu : X.A.units + 64 < cLine) (hK : X.K = K := by rfl) : OpR X (compareOp .NotEq) (rNeD K) := by subst hK; exact op_neD hu
theorem inS (K : PySem.W.Frag) (hK : X.K = K := by rfl) : OpR X (compareOp .In) (rIn K false) := by subst hK; exact op_in_seq
theorem notInS (K : PySem.W.Frag) (hK : X.K = K := by rfl) : OpR X (compareOp .NotIn) (rIn K true) := by subst hK; exact op_notIn_seq
theorem piL (K : PySem.W.Frag) {l : Expr} (hl : PE X l tl) (hK : X.K = K := by rfl) : PI X tg l (iList K tl) := by subst hK; exact pi_list hl
theorem piT (K : PySem.W.Frag) {l : Expr} (hl : PE X l tl) (hK : X.K = K := by rfl) : PI X tg l (iTup K tl) := by subst hK; exact pi_tup hl
theorem slA (K : PySem.W.Frag) (hK : X.K = K := by rfl) : SlR X (rSlA K) := by subst hK; exact sl_tupA
theorem slL (K : PySem.W.Frag) (hK : X.K = K := by rfl) : SlR X (rSlL K) := by subst hK; exact sl_list
theorem catA (K : PySem.W.Frag) (hK : X.K = K := by rfl) : OpR X (binaryOp .Add) (rCatA K) := by subst hK; exact op_catA
theorem repT (K : PySem.W.Frag) (hK : X.K = K := by rfl) : OpR X (binaryOp .Mult) (rRepT K) := by subst hK; exact op_repT
theorem eqO (K : PySem.W.Frag) {CX : CXT} {k j : Nat} {C : Addr} {sp : Sp} {E : XK} (M : MethOk X.prog X.w X.K X.mg X.base CX j C "__eq__" sp) (hr : Room k X.A) (hjk : j ≤ k) (hx : Passes CX X E) (hK : X.K = K := by rfl) : OpR X (compareOp .Eq) (rEqO K C sp E) := by subst hK; exact op_eqO M hr hjk hx
end
end Com
namespace Com
open PySem PySem.Spec PyProof.Rows L2
/-! ### tuple * int, any count from 1 on -/
theorem tuple_mul1 (l : Addr) (items : Array Value) (n : Nat) (dd : Option Addr) (sl : Array (Option Value)) (u : Tok) :
    Meets (Builtin.«tuple.__mul__» ⟨[.ref l, .int 1 u], []⟩) (fun _ R s => s.heap.get? l = some { cls := .type "tuple", dict := dd, data := .seq items n, slots := sl } ∧ R (.ok (.ret (.ref l))) s) :=
  .of_wp fun prog w A R s h => by
    obtain ⟨hp, g, d, tk, os⟩ := s
    obtain ⟨hl, h⟩ := h
    have f1 := AutoSeq1.idx_int
    have c1 : (items.isEmpty || (1 : Int) == 1) = true := by simp
    wp_walk using wpAny_loadPart' hl
    repeat (first
      | (refine wpAny_ite_true (decide_eq_true c1) ?_; wp_walk using wpAny_loadPart' hl)
      | (refine wpAny_ite_false (decide_eq_false (by decide)) ?_; wp_walk using wpAny_loadPart' hl))
    exact ⟨_, rfl, h⟩
def rRep1 (K : PySem.W.Frag) : R2 := fun x y H Q => ∃ l xs, x = .ref l ∧ y = .int 1 ∧ SqT K H l xs ∧ Q (.ref l) H
theorem op_rep1 {X : Cx} : OpR X (binaryOp .Mult) (rRep1 X.K) := by
  intro pins s σ H x y v u Q I rx ry h
  obtain ⟨l, xs, rfl, rfl, hT, q⟩ := h
  cases rx
  obtain ⟨t, rfl⟩ := ry
  obtain ⟨its, r, ⟨⟨cls, dd, data, sl⟩, ho, hc, n, hd⟩, hs⟩ := I.tuple hT
  simp only at hc hd
  subst hc hd
  refine wpAny_binaryOp_repeat_ref (T := "tuple") (U := "int") (by decide) ⟨_, ho, rfl⟩ (fun s' => typeIs_int s' 1 t) noFill_tuple_mul F.fills_int_mul F.slot_int_rmul repeat_tuple F.slot_int_index.lookup
    (call_meets F.slot_int_rmul (typeIs_int s 1 t) F.entry_int_rmul (F.args_int_rmul_2 _ _) (int_rmul_tuple 1 t l its.toArray n dd sl)
      ⟨ho, rfl, ⟨_, ho, rfl⟩, call_meets F.slot_tuple_mul ⟨_, ho, rfl⟩ F.entry_tuple_mul (F.args_tuple_mul_2 _ _) (tuple_mul1 l its.toArray n dd sl t) ⟨ho, ?_⟩⟩)
  exact ⟨.ref l, H, I, rfl, q⟩
/-- the repeated tuple stands at p -/
def rRepA (K : PySem.W.Frag) : R2 := fun x y H Q => ∃ l k xs, x = .ref l ∧ y = .int k ∧ H l = some (.tup xs) ∧ xs ≠ [] ∧ 1 ≤ k ∧ k ≤ 1000 ∧ xs.length ≤ 1000 ∧ ∀ p H', (H' p = some (.tup (List.replicate k.toNat xs).flatten)) → Same H H' → Q (.ref p) H'
theorem repA {X : Cx} (K : PySem.W.Frag) (hK : X.K = K := by rfl) : OpR X (binaryOp .Mult) (rRepA K) := by
  subst hK
  intro pins s σ H x y v u Q I rx ry h
  obtain ⟨l, k, xs, e1, e2, hT, hne, h1, h2, hz, q⟩ := h
  by_cases hk : k = 1
  · subst hk
    exact op_rep1 pins s σ H x y v u Q I rx ry ⟨l, xs, e1, e2, SqT.of hT, q l H (by rw [hT]; simp) (Same.refl H)⟩
  · exact op_repT pins s σ H x y v u Q I rx ry ⟨l, k, xs, e1, e2, SqT.of hT, hne, by omega, h2, hz, fun p hp => q p _ upd_same (Com.Same.upd hp)⟩
end Com
namespace Com
open PySem PySem.Spec PyProof.Rows L2
/-! ### tuples: slices, sums, whichever object comes -/
def rCutT : V → Option Int → Option Int → Hp → VK → Prop := fun x lo hi H Q => ∃ a xs, x = .ref a ∧ H a = some (.tup xs) ∧ ∀ p H', H' p = some (.tup (cutV xs lo hi)) → Same H H' → Q (.ref p) H'
theorem slT {X : Cx} : SlR X rCutT := by
  intro x v vl vu lo hi sl Q I rx hs pl pu h
  revert x v vl vu lo hi sl Q I rx hs pl pu h
  intro pins s σ H x v vl vu lo hi sl Q I rx hs pl pu h
  obtain ⟨a, xs, rfl, hx, q⟩ := h
  refine sl_tupA pins s σ H (.ref a) v vl vu lo hi sl Q I rx hs pl pu ⟨a, xs, rfl, SqT.of hx, fun w => q a H ?_ (Same.refl H), fun _ p hp => q p _ upd_same (Com.Same.upd hp)⟩
  have e : cutV xs lo hi = xs := by
    unfold cutV
    rw [w.1, w.2, List.drop_zero, Nat.sub_zero, List.take_length]
  rw [e]
  exact hx
def rCatB : R2 := fun x y H Q => ∃ a b xs ys, x = .ref a ∧ y = .ref b ∧ H a = some (.tup xs) ∧ H b = some (.tup ys) ∧ xs.length + ys.length ≤ 1000 ∧ ∀ p H', H' p = some (.tup (xs ++ ys)) → Same H H' → Q (.ref p) H'
theorem catB {X : Cx} : OpR X (binaryOp .Add) rCatB := by
  intro pins s σ H x y v u Q I rx ry h
  obtain ⟨a, b, xs, ys, e1, e2, ha, hb, hz, q⟩ := h
  refine op_catA pins s σ H x y v u Q I rx ry ⟨a, b, xs, ys, e1, e2, SqT.of ha, SqT.of hb, len1 hz, fun e => q b H ?_ (Same.refl H), fun _ e => q a H ?_ (Same.refl H), fun _ _ p hp => q p _ upd_same (Com.Same.upd hp)⟩
  · rw [e, List.nil_append]; exact hb
  · rw [e, List.append_nil]; exact ha
theorem cut_init (xs : List V) (v : V) : cutV (xs ++ [v]) none (some (-1)) = xs := by
  unfold cutV
  have e : HT.sIx (xs ++ [v]).length (xs ++ [v]).length (some (-1)) = xs.length := by
    show (if (-1 : Int) < 0 then (-1 + ((xs ++ [v]).length : Int)).toNat else min (-1 : Int).toNat (xs ++ [v]).length) = xs.length
    rw [if_pos (by decide), List.length_append, List.length_singleton]
    omega
  rw [e, HT.sIx_none (xs ++ [v]).length 0, List.drop_zero, Nat.sub_zero]
  simp
end Com
namespace Com
open PySem PySem.Spec PyProof.Rows L2
theorem kit_self {K : PySem.W.Frag} {t : Value} : PySem.W.kitOne K t t = some true := by
  unfold PySem.W.kitOne
  rw [if_pos (by simp)]
theorem kit_own {K : PySem.W.Frag} {t : Value} {C : Addr} {b : Bool} (ic : PySem.W.isClsIn K C = true) (ty : PySem.W.typeIn K (.ref C) = some (.type "type")) (s : PySem.W.subIn K t (.ref C) = some b) (ne : (t == Value.ref C) = false) : PySem.W.kitOne K t (.ref C) = some b := by
  unfold PySem.W.kitOne
  rw [ne, if_neg Bool.false_ne_true]
  show (if ((PySem.W.clsIn K C).isSome && PySem.W.typeIn K (.ref C) == some (.type "type")) = true then PySem.W.subIn K t (.ref C) else none) = some b
  have h1 : (PySem.W.clsIn K C).isSome = true := ic
  rw [h1, ty, if_pos (by rfl)]
  exact s
theorem kit_type {K : PySem.W.Frag} {t : Value} {n : String} {b : Bool} (hm : PySem.W.kitMeta n = true) (s : PySem.W.subIn K t (.type n) = some b) (ne : (t == Value.type n) = false) : PySem.W.kitOne K t (.type n) = some b := by
  unfold PySem.W.kitOne
  rw [ne, if_neg Bool.false_ne_true]
  show (if PySem.W.kitMeta n = true then PySem.W.subIn K t (.type n) else none) = some b
  rw [if_pos hm]
  exact s
end Com
set_option Elab.async false
set_option linter.all false
set_option maxRecDepth 100000
set_option maxHeartbeats 4000000
/-! The fraction in lowest terms, as numbers. -/
namespace Num
theorem mul4 (a b c d : Int) : (a * b) * (c * d) = (a * c) * (b * d) := by grind
def gc (t b : Int) : Int := ((Nat.gcd t.natAbs b.natAbs : Nat) : Int)
def cm (t b : Int) : Int := if b < 0 then -gc t b else gc t b
def nt (t b : Int) : Int := t.fdiv (cm t b)
def nb (t b : Int) : Int := b.fdiv (cm t b)
theorem gc_pos {t b : Int} (h : b ≠ 0) : 0 < gc t b := by
  have : 0 < Nat.gcd t.natAbs b.natAbs := Nat.gcd_pos_of_pos_right _ (by omega)
  unfold gc
  omega
theorem cm_ne {t b : Int} (h : b ≠ 0) : cm t b ≠ 0 := by
  have := gc_pos (t := t) h
  unfold cm
  split <;> omega
theorem gc_dvd_t (t b : Int) : gc t b ∣ t := by
  have := Nat.gcd_dvd_left t.natAbs b.natAbs
  exact Int.ofNat_dvd_left.mpr this
theorem gc_dvd_b (t b : Int) : gc t b ∣ b := by
  have := Nat.gcd_dvd_right t.natAbs b.natAbs
  exact Int.ofNat_dvd_left.mpr this
theorem cm_dvd_t (t b : Int) : cm t b ∣ t := by
  unfold cm
  split
  · exact Int.neg_dvd.mpr (gc_dvd_t t b)
  · exact gc_dvd_t t b
theorem cm_dvd_b (t b : Int) : cm t b ∣ b := by
  unfold cm
  split
  · exact Int.neg_dvd.mpr (gc_dvd_b t b)
  · exact gc_dvd_b t b
theorem nt_mul (t b : Int) : nt t b * cm t b = t := Int.fdiv_mul_cancel (cm_dvd_t t b)
theorem nb_mul (t b : Int) : nb t b * cm t b = b := Int.fdiv_mul_cancel (cm_dvd_b t b)
theorem nb_pos {t b : Int} (h : b ≠ 0) : 0 < nb t b := by
  have e := nb_mul t b
  have g := gc_pos (t := t) h
  by_cases hb : b < 0
  · have hc : cm t b < 0 := by
      unfold cm
      rw [if_pos hb]
      omega
    by_cases z : 0 < nb t b
    · exact z
    · have : 0 ≤ nb t b * cm t b := Int.mul_nonneg_of_nonpos_of_nonpos (by omega) (by omega)
      omega
  · have hc : 0 < cm t b := by
      unfold cm
      rw [if_neg hb]
      exact g
    by_cases z : 0 < nb t b
    · exact z
    · have : nb t b * cm t b ≤ 0 := Int.mul_nonpos_of_nonpos_of_nonneg (by omega) (by omega)
      omega
theorem cross (t b : Int) : nt t b * b = nb t b * t := by
  have e1 := nt_mul t b
  have e2 := nb_mul t b
  calc nt t b * b = nt t b * (nb t b * cm t b) := by rw [e2]
    _ = nb t b * (nt t b * cm t b) := by rw [Int.mul_left_comm]
    _ = nb t b * t := by rw [e1]
theorem cm_abs (t b : Int) : (cm t b).natAbs = Nat.gcd t.natAbs b.natAbs := by
  unfold cm gc
  split
  · rw [Int.natAbs_neg, Int.natAbs_natCast]
  · rw [Int.natAbs_natCast]
theorem coprime {t b : Int} (h : b ≠ 0) : Nat.gcd (nt t b).natAbs (nb t b).natAbs = 1 := by
  have e1 := congrArg Int.natAbs (nt_mul t b)
  have e2 := congrArg Int.natAbs (nb_mul t b)
  rw [Int.natAbs_mul, cm_abs] at e1 e2
  have hg : 0 < Nat.gcd t.natAbs b.natAbs := Nat.gcd_pos_of_pos_right _ (by omega)
  have : Nat.gcd ((nt t b).natAbs * Nat.gcd t.natAbs b.natAbs) ((nb t b).natAbs * Nat.gcd t.natAbs b.natAbs) = Nat.gcd t.natAbs b.natAbs := by rw [e1, e2]
  rw [Nat.gcd_mul_right] at this
  exact Nat.eq_of_mul_eq_mul_right hg (by rw [this, Nat.one_mul])
theorem same_nat {p q r s : Nat} (h1 : Nat.gcd p q = 1) (h2 : Nat.gcd r s = 1) (e : p * s = r * q) : q = s := by
  have d1 : q ∣ s := by
    have : q ∣ p * s := by rw [e]; exact Nat.dvd_mul_left q r
    exact Nat.Coprime.dvd_of_dvd_mul_left (show Nat.Coprime q p by rw [Nat.coprime_comm]; exact h1) this
  have d2 : s ∣ q := by
    have : s ∣ r * q := by rw [← e]; exact Nat.dvd_mul_left s p
    exact Nat.Coprime.dvd_of_dvd_mul_left (show Nat.Coprime s r by rw [Nat.coprime_comm]; exact h2) this
  exact Nat.dvd_antisymm d1 d2
theorem same_int {p q r s : Int} (h1 : Nat.gcd p.natAbs q.natAbs = 1) (h2 : Nat.gcd r.natAbs s.natAbs = 1) (hq : 0 < q) (hs : 0 < s) (e : p * s = r * q) : p = r ∧ q = s := by
  have e' := congrArg Int.natAbs e
  rw [Int.natAbs_mul, Int.natAbs_mul] at e'
  have z := same_nat h1 h2 e'
  have hqs : q = s := by omega
  subst hqs
  exact ⟨Int.eq_of_mul_eq_mul_right (by omega) e, rfl⟩
/-- the same fraction: the same numbers -/
theorem unique {t b t2 b2 : Int} (h : b ≠ 0) (h2 : b2 ≠ 0) (e : t * b2 = t2 * b) : nt t b = nt t2 b2 ∧ nb t b = nb t2 b2 := by
  refine same_int (coprime h) (coprime h2) (nb_pos h) (nb_pos h2) ?_
  have c1 := nt_mul t b
  have c2 := nb_mul t b
  have c3 := nt_mul t2 b2
  have c4 := nb_mul t2 b2
  have k : (nt t b * nb t2 b2) * (cm t b * cm t2 b2) = (nt t2 b2 * nb t b) * (cm t b * cm t2 b2) := by
    calc (nt t b * nb t2 b2) * (cm t b * cm t2 b2) = (nt t b * cm t b) * (nb t2 b2 * cm t2 b2) := mul4 ..
      _ = t * b2 := by rw [c1, c4]
      _ = t2 * b := e
      _ = (nt t2 b2 * cm t2 b2) * (nb t b * cm t b) := by rw [c3, c2]
      _ = (nt t2 b2 * nb t b) * (cm t2 b2 * cm t b) := mul4 ..
      _ = (nt t2 b2 * nb t b) * (cm t b * cm t2 b2) := by rw [Int.mul_comm (cm t2 b2)]
  exact Int.eq_of_mul_eq_mul_right (Int.mul_ne_zero (cm_ne h) (cm_ne h2)) k
/-- different fractions: different numbers -/
theorem differ {t b t2 b2 : Int} (h : b ≠ 0) (h2 : b2 ≠ 0) (e1 : nt t b = nt t2 b2) (e2 : nb t b = nb t2 b2) : t * b2 = t2 * b := by
  have c1 := nt_mul t b
  have c2 := nb_mul t b
  have c3 := nt_mul t2 b2
  have c4 := nb_mul t2 b2
  calc t * b2 = (nt t b * cm t b) * (nb t2 b2 * cm t2 b2) := by rw [c1, c4]
    _ = (nt t2 b2 * cm t b) * (nb t b * cm t2 b2) := by rw [e1, e2]
    _ = (nt t2 b2 * cm t2 b2) * (nb t b * cm t b) := by grind
    _ = t2 * b := by rw [c3, c2]
theorem nt_le (t b : Int) (h : b ≠ 0) : (nt t b).natAbs ≤ t.natAbs := by
  have e1 := congrArg Int.natAbs (nt_mul t b)
  rw [Int.natAbs_mul] at e1
  have : 0 < (cm t b).natAbs := by have := cm_ne (t := t) h; omega
  rw [← e1]
  exact Nat.le_mul_of_pos_right _ this
theorem nb_le (t b : Int) (h : b ≠ 0) : (nb t b).natAbs ≤ b.natAbs := by
  have e1 := congrArg Int.natAbs (nb_mul t b)
  rw [Int.natAbs_mul] at e1
  have : 0 < (cm t b).natAbs := by have := cm_ne (t := t) h; omega
  rw [← e1]
  exact Nat.le_mul_of_pos_right _ this
theorem cm_le (t b : Int) (h : b ≠ 0) : (cm t b).natAbs ≤ b.natAbs := by
  rw [cm_abs]
  exact Nat.gcd_le_right _ (by omega)
/-! ### operations on fractions in lowest terms -/
theorem pos_ne {b : Int} (h : 0 < b) : b ≠ 0 := by omega
theorem mul_pos_ne {b d : Int} (h : 0 < b) (h2 : 0 < d) : b * d ≠ 0 := pos_ne (Int.mul_pos h h2)
/-- from cross equations to the sum -/
theorem add_of {a b c d n1 d1 n2 d2 : Int} (hb : 0 < b) (hd : 0 < d) (h1 : 0 < d1) (h2 : 0 < d2) (e1 : n1 * b = d1 * a) (e2 : n2 * d = d2 * c) :
    nt (n1 * d2 + n2 * d1) (d1 * d2) = nt (a * d + c * b) (b * d) ∧ nb (n1 * d2 + n2 * d1) (d1 * d2) = nb (a * d + c * b) (b * d) := by
  refine unique (mul_pos_ne h1 h2) (mul_pos_ne hb hd) ?_
  have k1 : n1 * b * (d2 * d) = d1 * a * (d2 * d) := by rw [e1]
  have k2 : n2 * d * (d1 * b) = d2 * c * (d1 * b) := by rw [e2]
  grind
theorem mul_of {a b c d n1 d1 n2 d2 : Int} (hb : 0 < b) (hd : 0 < d) (h1 : 0 < d1) (h2 : 0 < d2) (e1 : n1 * b = d1 * a) (e2 : n2 * d = d2 * c) :
    nt (n1 * n2) (d1 * d2) = nt (a * c) (b * d) ∧ nb (n1 * n2) (d1 * d2) = nb (a * c) (b * d) := by
  refine unique (mul_pos_ne h1 h2) (mul_pos_ne hb hd) ?_
  have k1 : (n1 * b) * (n2 * d) = (d1 * a) * (d2 * c) := by rw [e1, e2]
  grind
theorem neg_of {a b n1 d1 : Int} (hb : 0 < b) (h1 : 0 < d1) (e1 : n1 * b = d1 * a) : nt (-n1) d1 = nt (-a) b ∧ nb (-n1) d1 = nb (-a) b := by
  refine unique (pos_ne h1) (pos_ne hb) ?_
  rw [Int.neg_mul, Int.neg_mul, e1, Int.mul_comm]
theorem abs_of {a b n1 d1 : Int} (hb : 0 < b) (h1 : 0 < d1) (e1 : n1 * b = d1 * a) :
    nt (if n1 < 0 then -n1 else n1) d1 = nt (if a < 0 then -a else a) b ∧ nb (if n1 < 0 then -n1 else n1) d1 = nb (if a < 0 then -a else a) b := by
  have iff : n1 < 0 ↔ a < 0 := by
    constructor
    · intro h
      by_cases z : a < 0
      · exact z
      · have p1 : n1 * b < 0 := Int.mul_neg_of_neg_of_pos h hb
        have p2 : 0 ≤ d1 * a := Int.mul_nonneg (by omega) (by omega)
        omega
    · intro h
      by_cases z : n1 < 0
      · exact z
      · have p1 : d1 * a < 0 := Int.mul_neg_of_pos_of_neg h1 h
        have p2 : 0 ≤ n1 * b := Int.mul_nonneg (by omega) (by omega)
        omega
  by_cases h : n1 < 0
  · rw [if_pos h, if_pos (iff.mp h)]
    exact neg_of hb h1 e1
  · rw [if_neg h, if_neg (fun z => h (iff.mpr z))]
    refine unique (pos_ne h1) (pos_ne hb) ?_
    rw [e1, Int.mul_comm]
theorem lt_of {a b c d n1 d1 n2 d2 : Int} (hb : 0 < b) (hd : 0 < d) (h1 : 0 < d1) (h2 : 0 < d2) (e1 : n1 * b = d1 * a) (e2 : n2 * d = d2 * c) : n1 * d2 < n2 * d1 ↔ a * d < c * b := by
  have hbd : 0 < b * d := Int.mul_pos hb hd
  have h12 : 0 < d1 * d2 := Int.mul_pos h1 h2
  have k1 : n1 * d2 * (b * d) = a * d * (d1 * d2) := by
    have : n1 * b * (d2 * d) = d1 * a * (d2 * d) := by rw [e1]
    grind
  have k2 : n2 * d1 * (b * d) = c * b * (d1 * d2) := by
    have : n2 * d * (d1 * b) = d2 * c * (d1 * b) := by rw [e2]
    grind
  rw [← Int.mul_lt_mul_right hbd, k1, k2, Int.mul_lt_mul_right h12]
end Num
set_option Elab.async false
set_option linter.all false
set_option maxRecDepth 100000
set_option maxHeartbeats 4000000
namespace Com
open PySem PySem.Spec PyProof.Rows L2 PySem.W
/-! ### int op instance: the int declines -/
theorem int_add_ins (a : Int) (t : Tok) (x dx C : Addr) :
    Meets (Builtin.«int.__add__» ⟨[.int a t, .ref x], []⟩) (fun _ R s => s.heap.get? x = some (instObj C dx) ∧ R (.ok (.ret Value.notImplemented)) s) :=
  .of_wp fun prog w A R s h => by
    obtain ⟨hp, g, d, tk, os⟩ := s; obtain ⟨hl, h⟩ := h
    unfold instObj at hl
    wp_walk using wpAny_loadPart' hl
    exact ⟨_, rfl, h⟩
theorem int_mul_ins (a : Int) (t : Tok) (x dx C : Addr) :
    Meets (Builtin.«int.__mul__» ⟨[.int a t, .ref x], []⟩) (fun _ R s => s.heap.get? x = some (instObj C dx) ∧ R (.ok (.ret Value.notImplemented)) s) :=
  .of_wp fun prog w A R s h => by
    obtain ⟨hp, g, d, tk, os⟩ := s; obtain ⟨hl, h⟩ := h
    unfold instObj at hl
    wp_walk using wpAny_loadPart' hl
    exact ⟨_, rfl, h⟩
end Com
namespace Com
open PySem PySem.Spec PyProof.Rows L2 PySem.W
section
variable {prog : Program} {w : World} {A : Around} {E : Value → Shared → Prop} {s : Shared} {K : Frag} {x C L f f1 : Addr} {h₀ : Heap} {m : Str → Option Value} {ox : Obj} {od : Option Obj}
theorem rbin_int {op : Operator} {i : Int} {t : Tok} {idl : String} {Q : Value → Shared → Prop} (F : Fr h₀ L s.heap m) (X₀ : K.In h₀) (I : InstAt s.heap x ox C od) (hc : selfFirst K C = true)
    (hd : findIn K (.ref C) (PySem.dunder op.info.2) = some (some (.ref f1))) (hs : findIn K (.ref C) (dunderR op.info.2) = some (some (.ref f))) (hf : isFn K (.ref f) = true)
    (hfI : fillsNumberSlot (.type "int") op.info.2 = pure true) (hsub : subIn K (.ref C) (.type "int") = some false) (hl : Slot "int" (PySem.dunder op.info.2) idl)
    (hdec : wpAny (model prog w) A (call (.builtin idl) [.int i t, .ref x]) (fun v s' => v = .notImplemented ∧ s' = s) E s)
    (h : wpAny (model prog w) A (call (.ref f) [.ref x, .int i t]) (PySem.W.CmpBack Q) E s) : wpAny (model prog w) A (binaryOp op (.int i t) (.ref x)) Q E s := by
  have X := X₀.keeps F.keep
  obtain ⟨cd, rest, hcd, hm⟩ := ksp_first hc
  rcases hi : op.info with ⟨sym, nm'⟩
  rw [hi] at hd hs hfI hl
  dsimp only at hd hs hfI hl
  have two := ksp_try X I hs hf h
  have one : wpAny (model prog w) A (tryMethod (.int i t) (PySem.dunder nm') (.ref x)) (fun r s' => r = none ∧ s' = s) E s := wpAny_tryMethod_declines (typeIs_int s i t) hl (wpAny_mono hdec (fun v s' z => ⟨z.1, rfl, z.2⟩) fun _ _ z => z)
  obtain ⟨hh, g, d, tt, os⟩ := s
  have L1 : Looks (model prog w) hh (typeOf (.ref x)) (.ref C) := I.type
  have L2 : Looks (model prog w) hh (typeOf (.int i t)) (.type "int") := Looks.of_pure rfl
  have L3 : Looks (model prog w) hh (fillsNumberSlot (.ref C) nm') true := fills_K X hcd hm hd
  have L4 : Looks (model prog w) hh (fillsNumberSlot (.type "int") nm') true := Looks.of_pure hfI
  have L5 : Looks (model prog w) hh (isSubtype (.ref C) (.type "int")) false := looks_subIn X hsub
  have L7 : Looks (model prog w) hh (numberSlotInPython (.type "int") nm') false := Looks.of_pure rfl
  have hne : (Value.type "int" == Value.ref C) = false := Bool.eq_false_iff.mpr fun q => by cases beq_iff_eq.mp q
  simp only [binaryOp, hi]
  refine wpAny_holding (wpAny_bind ?_)
  unfold binaryOp1
  refine wpAny_bind (L2.at (wpAny_bind (L1.at (wpAny_bind (L4.at ?_)))))
  simp only [hne, Bool.false_eq_true, if_false]
  ksp_lk
  refine wpAny_mono one (fun r s' hr' => ?_) fun _ _ e => e
  obtain ⟨rfl, rfl⟩ := hr'
  ksp_lk
  refine wpAny_mono two (fun r s' hr' => ?_) fun _ _ e => e
  obtain ⟨v, rfl, hq⟩ := hr'
  ksp_lk
  exact hq
end
end Com
namespace Com
open PySem PySem.Spec PyProof.Rows L2
/-! ### the rules over the layer -/
/-- what of the text an own binary operator must have: its def at f (f', the reflected one), the int's own slots -/
structure OpFacts (K : PySem.W.Frag) (C : Addr) (nm : String) : Prop where
  sf : PySem.W.selfFirst K C = true
  rc : ∃ g : Addr, PySem.W.findIn K (.ref C) (dunderR nm) = some (some (.ref g)) ∨ PySem.W.findIn K (.ref C) (dunderR nm) = some none
  i1 : ∃ fo, PySem.W.findIn K (.type "int") (PySem.dunder nm) = some fo
  i2 : ∃ ro, PySem.W.findIn K (.type "int") (dunderR nm) = some ro
  sub : PySem.W.subIn K (.type "int") (.ref C) = some false
/-- x op y, x an instance of the class at C; y an int, or another instance -/
def rBinO (C : Addr) (sp : Sp) (E : XK) : R2 := fun x y H Q => ∃ a dx fs, x = .ref a ∧ H a = some (.ins C dx fs) ∧ ((∃ i, y = .int i) ∨ (∃ b dy gs, y = .ref b ∧ H b = some (.ins C dy gs))) ∧ sp [x, y] H Q E
section
variable {X : Cx} {CX : CXT} {k j : Nat} {C : Addr} {sp : Sp} {E : XK} {nm : String} {m : Str}
theorem binO {op : Operator} (T : OpFacts X.K C nm) (M : MethOk X.prog X.w X.K X.mg X.base CX j C m sp) (hr : Room k X.A) (hjk : j ≤ k) (hx : Passes CX X E) (e1 : op.info.2 = nm := by rfl) (e2 : m = PySem.dunder nm := by rfl) : OpR X (binaryOp op) (rBinO C sp E) := by
  obtain ⟨g, F, hm⟩ := M.ex
  intro pins s σ H x y v u Q I rx ry h
  obtain ⟨a, dx, fs, rfl, ha, hy, q⟩ := h
  cases (show v = Value.ref a from rx)
  obtain ⟨mA, O, _⟩ := ins_get I.hok ha
  obtain ⟨od, J, _⟩ := O.look
  obtain ⟨mm, hF⟩ := I.fr
  subst e1
  subst e2
  have run : wpAny (model X.prog X.w) X.A (call (.ref g) [.ref a, u]) (PySem.W.CmpBack (EP X pins σ Q)) X.xe s := by
    refine wpAny_mono (runR (us := [.ref a, u]) (vs := [.ref a, y]) F hr hjk hx I (.cons rfl (.cons ry .nil)) q) (fun w s' z => ?_) fun _ _ x => x
    obtain ⟨z', H', I', rz, qz⟩ := z
    exact SlX.cmpback rz ⟨z', H', I', rz, qz⟩
  rcases hy with ⟨i, rfl⟩ | ⟨b, dy, gs, rfl, hb⟩
  · obtain ⟨t, rfl⟩ := (show ∃ t, u = Value.int i t from ry)
    obtain ⟨fo, h1⟩ := T.i1
    obtain ⟨ro, h2⟩ := T.i2
    obtain ⟨rr, hrr⟩ := T.rc
    rcases hrr with hrr | hrr
    · exact PySem.W.ksp_binT (T := "int") hF I.ok.mod.kin J rfl T.sf hm.at_ hm.fn hrr (.inr ⟨rr, rfl⟩) h1 h2 T.sub run
    · exact PySem.W.ksp_binT (T := "int") hF I.ok.mod.kin J rfl T.sf hm.at_ hm.fn hrr (.inl rfl) h1 h2 T.sub run
  · cases (show u = Value.ref b from ry)
    obtain ⟨mB, O', _⟩ := ins_get I.hok hb
    obtain ⟨od', J', _⟩ := O'.look
    exact PySem.W.binop_K hF I.ok.mod.kin J J'.type T.sf hm.at_ hm.fn run
/-- i op y, i an int -/
def rBinI (C : Addr) (sp : Sp) (E : XK) : R2 := fun x y H Q => ∃ i a dx fs, x = .int i ∧ y = .ref a ∧ H a = some (.ins C dx fs) ∧ sp [y, x] H Q E
theorem binI {op : Operator} {idl : String} {Bi : Builtin} {m' : Str} {f1 : Addr} (sf : PySem.W.selfFirst X.K C = true) (hd : PySem.W.findIn X.K (.ref C) (PySem.dunder op.info.2) = some (some (.ref f1))) (hsub : PySem.W.subIn X.K (.ref C) (.type "int") = some false)
    (M : MethOk X.prog X.w X.K X.mg X.base CX j C m' sp) (hr : Room k X.A) (hjk : j ≤ k) (hx : Passes CX X E) (hfI : fillsNumberSlot (.type "int") op.info.2 = pure true) (hl : Slot "int" (PySem.dunder op.info.2) idl)
    (he : entryFor table idl = some Bi) (ha : ∀ a b : Value, argsOk idl ⟨[a, b], []⟩)
    (hmt : ∀ (i : Int) (t : Tok) (x dx C : Addr), Meets (Bi ⟨[.int i t, .ref x], []⟩) (fun _ R s => s.heap.get? x = some (PySem.W.instObj C dx) ∧ R (.ok (.ret Value.notImplemented)) s)) (e2 : m' = dunderR op.info.2 := by rfl) : OpR X (binaryOp op) (rBinI C sp E) := by
  obtain ⟨g, F, hm⟩ := M.ex
  intro pins s σ H x y v u Q I rx ry h
  obtain ⟨i, a, dx, fs, rfl, rfl, ha', q⟩ := h
  cases (show u = Value.ref a from ry)
  obtain ⟨t, rfl⟩ := (show ∃ t, v = Value.int i t from rx)
  obtain ⟨mA, O, _⟩ := ins_get I.hok ha'
  have hobj := O.obj
  obtain ⟨od, J, _⟩ := O.look
  obtain ⟨mm, hF⟩ := I.fr
  subst e2
  refine rbin_int hF I.ok.mod.kin J sf hd hm.at_ hm.fn hfI hsub hl (call_meets hl (typeIs_int s i t) he (ha _ _) (hmt i t a dx C) ⟨hobj, rfl, rfl⟩) ?_
  refine wpAny_mono (runR (us := [.ref a, .int i t]) (vs := [.ref a, .int i]) F hr hjk hx I (.cons rfl (.cons rx .nil)) q) (fun w s' z => ?_) fun _ _ x => x
  obtain ⟨z', H', I', rz, qz⟩ := z
  exact SlX.cmpback rz ⟨z', H', I', rz, qz⟩
/-- op x, abs(x) -/
def rUnO (C : Addr) (sp : Sp) (E : XK) : V → Hp → VK → Prop := fun x H Q => ∃ a dx fs, x = .ref a ∧ H a = some (.ins C dx fs) ∧ sp [x] H Q E
theorem negO (M : MethOk X.prog X.w X.K X.mg X.base CX j C "__neg__" sp) (hr : Room k X.A) (hjk : j ≤ k) (hx : Passes CX X E) : UnR X (unaryOp .USub) (rUnO C sp E) := by
  obtain ⟨g, F, hm⟩ := M.ex
  intro pins s σ H x v Q I rx h
  obtain ⟨a, dx, fs, rfl, ha, q⟩ := h
  cases (show v = Value.ref a from rx)
  obtain ⟨mA, O, _⟩ := ins_get I.hok ha
  obtain ⟨od, J, _⟩ := O.look
  obtain ⟨mm, hF⟩ := I.fr
  exact PySem.W.ksp_neg hF I.ok.mod.kin J hm.at_ hm.fn (runR (us := [.ref a]) (vs := [.ref a]) F hr hjk hx I (.cons rfl .nil) q)
def rAbsO (C : Addr) (sp : Sp) (E : XK) : List V → Hp → VK → Prop := fun xs H Q => ∃ a dx fs, xs = [.ref a] ∧ H a = some (.ins C dx fs) ∧ sp [.ref a] H Q E
theorem run_at {A : Around} {n : Nat} {f : Addr} {pins : List (Addr × Obj)} {σ : L2.St} {H : Hp} {s : Shared} {Q : VK} {us : List Value} {ws : List V} (F : FnR X.prog X.w X.K X.mg X.base CX n f sp) (hr : Room n A) (e0 : Env0 X.prog X.w X.K X.mg X.base A X.stack s H) (hx : Passes CX X E) (I : Inv X pins σ H s) (r : Vals ws us) (h : sp ws H Q E) :
    codeAny (model X.prog X.w) A (.call (.ref f) ⟨us, []⟩) (fun r s' => match r with | .ok (.ret v) => EP X pins σ Q v s' | .ok _ => False | .error e => X.xe e s') s := SlX.run_at F hr e0 hx I r h
theorem cl_abs (M : MethOk X.prog X.w X.K X.mg X.base CX j C "__abs__" sp) (hr : Room k X.A) (hjk : j + 1 ≤ k) (hx : Passes CX X E) : CallR X (.builtin "abs") (rAbsO C sp E) := by
  obtain ⟨g, F, hm⟩ := M.ex
  intro pins s σ H xs us Q I r h
  obtain ⟨a, dx, fs, rfl, ha, q⟩ := h
  have e := Vals.ref1 r
  subst e
  obtain ⟨mA, O, _⟩ := ins_get I.hok ha
  obtain ⟨od, J, _⟩ := O.look
  have hr1 : Room j X.A.in1 := (hr.mono hjk).in1
  refine Calls.call_function_entry kind_abs plain_abs entry_abs (args_abs _) ?_
  unfold Builtin.«abs»
  refine wpAny_bind (m := oneArg "abs" _) (wpAny_pure ?_)
  refine wpAny_bind (m := callSpecial? (.ref a) (Str.ofString "__abs__")) (PySem.W.special_fn I.kIn J hm.at_ (beq_iff_eq.mp hm.fn) ?_)
  refine wpAny_mono (wpAny_call (run_at (us := [.ref a]) (ws := [.ref a]) F hr1 I.env0.in1 hx I (.cons rfl .nil) q)) (fun w s' z => ?_) fun _ _ x => x
  exact wpAny_pure ⟨_, rfl, z⟩
end
end Com
namespace Com
open PySem PySem.Spec PyProof.Rows L2
theorem UnR.or {X : Cx} {f : Value → Sem Value} {r r' : V → Hp → VK → Prop} (h : UnR X f r) (h' : UnR X f r') : UnR X f (fun x H Q => r x H Q ∨ r' x H Q) := by
  intro pins s σ H x v Q I rx q
  rcases q with q | q
  · exact h pins s σ H x v Q I rx q
  · exact h' pins s σ H x v Q I rx q
/-- // by any divisor but 0 below 2 ^ 9000 -/
def CDivX (_ j : Int) : Prop := j ≠ 0 ∧ j.natAbs < 2 ^ 9000
theorem fdivX {X : Cx} : OpR X (binaryOp .FloorDiv) (rI CDivX fun i j => .int (i.fdiv j)) := opI fun i j _ _ _ _ _ hc q =>
  floordiv_int hc.1 q (.inl (PyProof.noPylong_of_log2 (PySem.Flt.log2_lt_of (by decide) hc.2)))
theorem pgT {X : Cx} (K : PySem.W.Frag) {es : List Expr} {k : Nat} {t : TGs} {n : Nat} {pos : Pos} (h : PGs X es t) (hc : X.calm = true := by rfl)
    (hn : (assignEach es X.env).length = n := by rfl) (hst : (assignEach es X.env).findIdx? (·.1) = none := by rfl) (hK : X.K = K := by rfl) : PG X (.Tuple es k pos) (gTup K n t) := by subst hK; exact pg_tup hc h hn hst
theorem pe_gbfn {X : Cx} {x : Str} {p pos : Pos} {e : Expr} {es : List Expr} {t : TA} {id : String} {r : List V → Hp → VK → Prop} (hc : CallR X (.builtin id) r) (hm : X.mg x = some (.builtin id)) (ha : PA X (e :: es) t) (hg : Gl X x := by rfl) (hdb : (x == ("__debug__" : Str)) = false := by decide)
    (he : starEach (e :: es) X.env = (false, eval e X.env) :: starEach es X.env := by rfl) (hpl : (backTo pos (starEach es X.env)).any (·.1) = false := by rfl) : PE X (.Call (.Name x p) (e :: es) [] pos) (tCB r t) := pe_callBfun hc hg hm ha hdb he hpl
theorem small_n {x : Int} {n : Nat} (h : x.natAbs ≤ n) {b : Nat} (hb : n < 2 ^ b) : x.natAbs < 2 ^ b := Nat.lt_of_le_of_lt h hb
end Com
namespace Com
open PySem PySem.Spec PyProof.Rows L2
/-! ### sizes -/
def B (x : Int) (n : Nat) : Prop := x.natAbs < 2 ^ n
theorem B.mono {x : Int} {m n : Nat} (h : B x m) (hm : m ≤ n) : B x n := Nat.lt_of_lt_of_le h (Nat.pow_le_pow_right (by decide) hm)
theorem B.mul {x y : Int} {m n : Nat} (hx : B x m) (hy : B y n) : B (x * y) (m + n) := wide_lt hx hy
theorem B.add {x y : Int} {n : Nat} (hx : B x n) (hy : B y n) : B (x + y) (n + 1) := by
  unfold B at *
  have : (x + y).natAbs ≤ x.natAbs + y.natAbs := Int.natAbs_add_le x y
  rw [Nat.pow_succ]
  omega
theorem B.neg {x : Int} {n : Nat} (h : B x n) : B (-x) n := by
  unfold B at *
  rwa [Int.natAbs_neg]
theorem B.sub {x y : Int} {n : Nat} (hx : B x n) (hy : B y n) : B (x - y) (n + 1) := by
  have := hx.add hy.neg
  rwa [← Int.sub_eq_add_neg] at this
theorem B.abs {x : Int} {n : Nat} (h : B x n) : B (if x < 0 then -x else x) n := by
  split
  · exact h.neg
  · exact h
theorem B.le {x : Int} {y : Int} {n : Nat} (h : B y n) (hl : x.natAbs ≤ y.natAbs) : B x n := Nat.lt_of_le_of_lt hl h
theorem B.of {x : Int} {n : Nat} {k : Nat} (h : x.natAbs ≤ k) (hk : k < 2 ^ n) : B x n := Nat.lt_of_le_of_lt h hk
theorem mulB {x y : Int} {m n : Nat} (hx : B x m) (hy : B y n) (h0 : 0 < m := by decide) (h1 : 0 < n := by decide) (h : m + n ≤ 1000000 := by decide) : CMulW x y := wide_mul hx hy h0 h1 h
end Com
set_option Elab.async false
set_option linter.all false
set_option maxRecDepth 100000
set_option maxHeartbeats 4000000
namespace K01
open PySem PySem.Spec PyProof.Rows L2 Com
def top (i : Nat) : Stmt := PySem.Challenge.pw_callsthrough_k01_share_arithmetic.main.body.getD i (.Pass ⟨0, 0, 0, 0⟩)
local macro_rules | `(tactic| walk_at "rd1") => `(tactic| (first
  | refine ⟨_, rfl, ?_⟩
  | refine ⟨_, _, rfl, rfl, ?_⟩
  | refine ⟨.inl ⟨by decide, by decide⟩, ?_⟩
  | refine ⟨.inr ⟨by decide, by decide⟩, ?_⟩
  | refine ⟨(by decide : (0 : Int) < _), ?_⟩
  | refine ⟨⟨by decide, by decide⟩, ?_⟩
  | refine ⟨⟨by decide, by decide, by decide⟩, ?_⟩
  | refine ⟨rfl, ?_⟩
  | refine .inl ⟨_, rfl, ?_⟩
  | refine .inr ⟨_, rfl, ?_⟩
  | refine ⟨_, _, _, _, rfl, rfl, SqL.of upd_same, rfl, ?_⟩
  | refine ⟨_, _, _, _, rfl, rfl, upd_same, rfl, ?_⟩
  | refine ⟨mulm (by decide) (by decide), ?_⟩
  | refine ⟨_, _, _, _, rfl, rfl, SqL.of (by assumption), rfl, ?_⟩
  | refine ⟨_, _, _, _, rfl, rfl, (by assumption), rfl, ?_⟩))
local macro_rules | `(tactic| walk_at "rd") => `(tactic| repeat (walk_at "rd1"))
/-- the module's names that are built-ins -/
structure Blt (mg : Str → Option Value) : Prop where
  z_len : mg "len" = none
  z_abs : mg "abs" = none
  z_int : mg "int" = none
  z_bool : mg "bool" = none
  z_isinstance : mg "isinstance" = none
  z_all : mg "all" = none
  z_range : mg "range" = none
  g_gcd : mg "gcd" = some (.builtin "math.gcd")
/-! ### the draws -/
def spFlow (K : PySem.W.Frag) : Sp := fun vs H Q _ => ∃ (a : Addr) (ns : List Int) (k : Nat), vs = [.ref a, .int (k : Int)] ∧ SqL K H a (ns.map V.int) ∧ ns.length ≤ 63 ∧ k ≤ 1000 ∧
  ∀ p H', H p = none → FlowAt H' p → But p H H' → Q (.ref p) H'
def spPick : Sp := fun vs H Q _ => ∃ (a : Addr) (size : Int), vs = [.ref a, .int size] ∧ FlowAt H a ∧ 1 ≤ size ∧ size < 2 ^ 200 ∧
  ∀ d H', 0 ≤ d → d < size → FlowAt H' a → But a H H' → Q (.int d) H'
section
variable {P : Program} {w : World} {K : PySem.W.Frag} {mg : Str → Option Value} {base : Heap}
abbrev s_flow : Stmt := top 11
abbrev N_flow : List Str := ["_law_script", "_law_k", "_law_cell", "_law_number"]
theorem sc_flow : FnScope N_flow ["_law_script", "_law_k"] (defScope s_flow) := ⟨rfl, rfl, rfl, by decide +kernel, rfl, by decide +kernel, by decide +kernel⟩
theorem ok_flow (T : Blt mg) (D : DefAt K mg "_law_flow" s_flow ["_law_script", "_law_k"]) : DefOk P w K mg base CX0 1 "_law_flow" (spFlow K) := by
  refine D.ok sc_flow (fun vs H Q E h => ?_) (fun f cdv A outer s H vs Q E hr h => ?_)
  · obtain ⟨a, ns, k, rfl, _⟩ := h
    rfl
  obtain ⟨a, ns, k, rfl, hS, hl, hk, q⟩ := h
  refine ⟨_, (pss_cons (ps_set (i := 2) sc_flow.nd rfl (Or.inl rfl) pe_int)
  (pss_cons (ps_if (pt_cmpR op_lt (pv 1) (pe_callB (cl_len K) (by rfl) T.z_len (by decide +kernel) (pa_cons (pv 0) pa_nil)) (nomark _))
    (pss_one (ps_set (i := 2) sc_flow.nd rfl (Or.inl rfl) (pe_ix (ixL K) (pv 0) (pv 1) (fun _ _ => rfl))))
    pss_nil)
  (pss_cons (ps_set (i := 3) sc_flow.nd rfl (Or.inl rfl) (pe_op op_add (pe_op op_mul pe_int (pe_callB call_abs (by rfl) T.z_abs (by decide +kernel) (pa_cons (pv 2) pa_nil))) (pe_callTy call_int1 (by rfl) T.z_int (by decide +kernel) (pa_cons (pe_cmpR op_lt (pv 2) pe_int (nomark _)) pa_nil))))
  (pss_cons (ps_if (pt_cmpR op_ge (pv 3) (pe_op op_pow pe_int pe_int) (nomark _))
    (pss_one (ps_ret (pe_lst (pa_cons (pv 3) (pa_cons pe_int (pa_cons (pe_op op_mod (pe_callTy call_int1 (by rfl) T.z_int (by decide +kernel) (pa_cons (pv 3) pa_nil)) pe_int) pa_nil))))))
    pss_nil)
  (pss_one (ps_ret (pe_lst (pa_cons pe_int (pa_cons pe_int (pa_cons (pe_op op_mod (pe_callTy call_int1 (by rfl) T.z_int (by decide +kernel) (pa_cons (pe_op op_add (pe_op op_add (pv 3) (pe_op op_mul pe_int (pv 1))) pe_int) pa_nil)) pe_int) pa_nil)))))))))), ?_⟩
  refine ⟨_, rfl, _, rfl, a, _, rfl, .inl hS, _, _, rfl, rfl, _, rfl, ?_⟩
  refine ifB (fun c => ?_) (fun c => ?_)
  · have hk' : k < ns.length := by
      have c' := of_decide_eq_true c
      rw [List.length_map] at c'
      omega
    refine ⟨_, rfl, _, rfl, a, _, _, _, rfl, rfl, hS, atI_nat (j := k) (v := V.int ns[k]) (by rw [List.getElem?_map, List.getElem?_eq_getElem hk']; rfl), ?_⟩
    walk_at "rd"
    refine ifB (fun _ => ?_) (fun _ => ?_) <;> walk_at "rd" <;> exact ⟨by show 3 ≤ sizeLine; decide, fun p hp => q p _ hp .new .upd⟩
  · walk_at "rd"
    exact ⟨by show 3 ≤ sizeLine; decide, fun p hp => q p _ hp .new .upd⟩
abbrev s_pick : Stmt := top 12
abbrev N_pick : List Str := ["_law_flow_here", "_law_size", "_law_digit", "_law_number"]
theorem sc_pick : FnScope N_pick ["_law_flow_here", "_law_size"] (defScope s_pick) := ⟨rfl, rfl, rfl, by decide +kernel, rfl, by decide +kernel, by decide +kernel⟩
theorem ok_pick (T : Blt mg) (D : DefAt K mg "_law_pick" s_pick ["_law_flow_here", "_law_size"]) : DefOk P w K mg base CX0 1 "_law_pick" spPick := by
  refine D.ok sc_pick (fun vs H Q E h => ?_) (fun f cdv A outer s H vs Q E hr h => ?_)
  · obtain ⟨a, size, rfl, _⟩ := h
    rfl
  obtain ⟨a, size, rfl, ⟨n, c, r, h0⟩, s1, s2, q⟩ := h
  refine ⟨_, (pss_cons (ps_if (PW.pt (pw_and (pt_cmpR op_ge (pe_ix (ixL K) (pv 0) pe_int (fun _ _ => rfl)) (pv 1) (nomark _)) (pw_and1 (pt_cmpR op_gt (pe_ix (ixL K) (pv 0) pe_int (fun _ _ => rfl)) pe_int (nomark _)))))
    (pss_cons (ps_set (i := 2) sc_pick.nd rfl (Or.inl rfl) (pe_op op_mod (pe_callTy call_int1 (by rfl) T.z_int (by decide +kernel) (pa_cons (pe_ix (ixL K) (pv 0) pe_int (fun _ _ => rfl)) pa_nil)) (pv 1)))
    (pss_cons (ps_asg (pe_op op_fdivW (pe_ix (ixL K) (pv 0) pe_int (fun _ _ => rfl)) (pv 1)) (pg_sub (pv 0) pe_int set_list))
    (pss_one (ps_ret (pv 2)))))
    pss_nil)
  (pss_cons (ps_augS (pv 0) pe_int (getL K) pe_int ip_add set_list)
  (pss_cons (ps_set (i := 3) sc_pick.nd rfl (Or.inl rfl) (pe_op op_mod (pe_callTy call_int1 (by rfl) T.z_int (by decide +kernel) (pa_cons (pe_op op_mul (pe_op op_add (pe_op op_add (pe_ix (ixL K) (pv 0) pe_int (fun _ _ => rfl)) (pe_op op_mul pe_int (pe_ix (ixL K) (pv 0) pe_int (fun _ _ => rfl)))) pe_int) pe_int) pa_nil)) pe_int))
  (pss_cons (ps_set (i := 3) sc_pick.nd rfl (Or.inl rfl) (pe_op op_mod (pe_callTy call_int1 (by rfl) T.z_int (by decide +kernel) (pa_cons (pe_op op_mul (pv 3) (pe_op op_add (pe_op op_fdiv (pv 3) pe_int) pe_int)) pa_nil)) pe_int))
  (pss_cons (ps_set (i := 3) sc_pick.nd rfl (Or.inl rfl) (pe_op op_mod (pe_callTy call_int1 (by rfl) T.z_int (by decide +kernel) (pa_cons (pe_op op_mul (pv 3) (pe_op op_add (pe_op op_fdiv (pv 3) pe_int) pe_int)) pa_nil)) pe_int))
  (pss_one (ps_ret (pe_op op_mod (pe_op op_fdiv (pv 3) pe_int) (pv 1))))))))), ?_⟩
  walk_at "rd"
  refine ifB (fun c1 => ?_) (fun c1 => ?_)
  · walk_at "rd"
    refine ifB (fun c2 => ?_) (fun c2 => ?_)
    · walk_at "rd"
      refine ⟨(by show 0 < size; omega), ?_⟩
      walk_at "rd"
      refine ⟨divW s1 s2, ?_⟩
      walk_at "rd"
      exact q _ _ (Int.emod_nonneg _ (by omega)) (Int.emod_lt_of_pos _ (by omega)) .new .upd
    · walk_at "rd"
      refine ⟨(by show 0 < size; omega), ?_⟩
      exact q _ _ (Int.emod_nonneg _ (by omega)) (Int.emod_lt_of_pos _ (by omega)) .new .upd
  · walk_at "rd"
    refine ⟨(by show 0 < size; omega), ?_⟩
    exact q _ _ (Int.emod_nonneg _ (by omega)) (Int.emod_lt_of_pos _ (by omega)) .new .upd
end
/-! ### kinds -/
def spPlain (K : PySem.W.Frag) : Sp := fun vs H Q _ => ∃ x b, vs = [x] ∧ PlainI K H x b ∧ Q (.bl b) H
section
variable {P : Program} {w : World} {K : PySem.W.Frag} {mg : Str → Option Value} {base : Heap}
abbrev s_is_plain_int : Stmt := top 5
abbrev N_is_plain_int : List Str := ["value"]
theorem sc_is_plain_int : FnScope N_is_plain_int ["value"] (defScope s_is_plain_int) := ⟨rfl, rfl, rfl, by decide +kernel, rfl, by decide +kernel, by decide +kernel⟩
theorem ok_is_plain_int (T : Blt mg) (D : DefAt K mg "is_plain_int" s_is_plain_int ["value"]) : DefOk P w K mg base CX0 1 "is_plain_int" (spPlain K) := by
  refine D.ok sc_is_plain_int (fun vs H Q E h => ?_) (fun f cdv A outer s H vs Q E hr h => ?_)
  · obtain ⟨x, b, rfl, _⟩ := h
    rfl
  obtain ⟨x, b, rfl, ⟨t, b1, ty, k1, kF, kT⟩, q⟩ := h
  refine ⟨_, (pss_one (ps_ret (pe_and (pe_callB (cl_isi K) (by rfl) T.z_isinstance (by decide +kernel) (pa_cons (pv 0) (pa_cons (pe_bltn (v := .ty "int") (by rfl) T.z_int (by decide +kernel) rfl) pa_nil))) (pe_one (pe_not (pe_callB (cl_isi K) (by rfl) T.z_isinstance (by decide +kernel) (pa_cons (pv 0) (pa_cons (pe_bltn (v := .ty "bool") (by rfl) T.z_bool (by decide +kernel) rfl) pa_nil)))))))), ?_⟩
  refine ⟨_, rfl, x, _, t, _, b1, rfl, .ty "int", ty, k1, _, rfl, ?_⟩
  refine ifB (fun c => ?_) (fun c => ?_)
  · obtain ⟨b2, k2, rfl⟩ := kT c
    exact ⟨_, rfl, x, _, t, _, b2, rfl, .ty "bool", ty, k2, _, rfl, q⟩
  · rw [kF c] at q
    exact q
end
/-! ### shares, by good arguments -/
def shF (n d : Int) : List (Str × V) := [("top", .int n), ("bottom", .int d)]
def ShO (C : Addr) (H : Hp) (p : Addr) (n d : Int) : Prop := ∃ dx, H p = some (.ins C dx (shF n d))
theorem ShO.same {C : Addr} {H H' : Hp} {p : Addr} {n d : Int} (s : Same H H') (h : ShO C H p n d) : ShO C H' p n d := let ⟨dx, e⟩ := h; ⟨dx, s _ _ e⟩
theorem tb : ¬ (("top" : Str) = "bottom") := by decide +kernel
theorem shF_put (n d : Int) : putF "bottom" (.int d) (putF "top" (.int n) []) = shF n d := by
  rw [putF_nil, putF_ne tb, putF_nil]
  rfl
theorem shF_top (n d : Int) : (shF n d).lookup ("top" : Str) = some (.int n) := lk_eq
theorem shF_bottom (n d : Int) : (shF n d).lookup ("bottom" : Str) = some (.int d) := by
  unfold shF
  rw [lk_ne (by decide +kernel), lk_eq]
theorem shF_no (n d : Int) {f : Str} (h1 : (f == ("top" : Str)) = false) (h2 : (f == ("bottom" : Str)) = false) : (shF n d).lookup f = none := by
  unfold shF
  rw [lk_ne h1, lk_ne h2]
  rfl
/-- what the top has made of the class -/
structure ShT (K : PySem.W.Frag) (mg : Str → Option Value) (C : Addr) : Prop where
  cl : Cls K C
  nT : NoAttr K C "top"
  nB : NoAttr K C "bottom"
  ca : PySem.W.findIn K (.ref C) "__class__" = some (some (.builtin "object.__class__"))
  cn : PySem.W.specialIn K (.builtin "object.__class__") "__get__" = some (some (.builtin "getset_descriptor.__get__"))
  ct : PySem.W.takesIn K (.builtin "object.__class__") = some true
  cm : PySem.W.mroIn K C (.type "object") = some true
  kI : PySem.W.kitOne K (.type "int") (.ref C) = some false
  fS : PySem.W.notFirst K C (.ref C) = true
  g_Share : mg "Share" = some (.ref C)
theorem shTy {K : PySem.W.Frag} {mg : Str → Option Value} {C : Addr} (T : ShT K mg C) {H : Hp} {p dx : Addr} {fs : List (Str × V)} (h : H p = some (.ins C dx fs)) : TyX K H (.ref p) (.ref C) := .base (.ins h T.cl T.ca T.cn T.ct T.cm)
def Old (p : Addr) (H H' : Hp) : Prop := ∀ b o, H b = some o → b ≠ p → H' b = some o
def spInit (C : Addr) : Sp := fun vs H Q _ => ∃ (p dx : Addr) (t b : Int), vs = [.ref p, .int t, .int b] ∧ H p = some (.ins C dx []) ∧ b ≠ 0 ∧ B b 8000 ∧ ∀ H', ShO C H' p (Num.nt t b) (Num.nb t b) → Old p H H' → Q .non H'
/-- an operand: a share, or an int -/
def Opd (C : Addr) (H : Hp) (x : V) (n d : Int) : Prop := (∃ p, x = .ref p ∧ ShO C H p n d) ∨ (x = .int n ∧ d = 1)
theorem Opd.same {C : Addr} {H H' : Hp} {x : V} {n d : Int} (s : Same H H') (h : Opd C H x n d) : Opd C H' x n d := h.elim (fun ⟨p, e, z⟩ => .inl ⟨p, e, z.same s⟩) .inr
def spOpd (C : Addr) : Sp := fun vs H Q _ => ∃ x n d, vs = [x] ∧ Opd C H x n d ∧ Q (.bl true) H
def spParts (C : Addr) : Sp := fun vs H Q _ => ∃ x n d, vs = [x] ∧ Opd C H x n d ∧ ∀ t H', H' t = some (.tup [.int n, .int d]) → Same H H' → Q (.ref t) H'
/-- p op x: the answer is the share f n1 d1 n2 d2 / g .. -/
def spBin (C : Addr) (f g : Int → Int → Int → Int → Int) : Sp := fun vs H Q _ => ∃ (p : Addr) (x : V) (n d n2 d2 : Int), vs = [.ref p, x] ∧ ShO C H p n d ∧ Opd C H x n2 d2 ∧ 0 < d ∧ 0 < d2 ∧ B n 1000 ∧ B d 1000 ∧ B n2 1000 ∧ B d2 1000 ∧
  ∀ q H', ShO C H' q (Num.nt (f n d n2 d2) (g n d n2 d2)) (Num.nb (f n d n2 d2) (g n d n2 d2)) → Same H H' → Q (.ref q) H'
def fAdd (n d n2 d2 : Int) : Int := n * d2 + n2 * d
def fSub (n d n2 d2 : Int) : Int := n * d2 + -n2 * d
def fMul (n _ n2 _ : Int) : Int := n * n2
def gMul (_ d _ d2 : Int) : Int := d * d2
def spUn (C : Addr) (f : Int → Int) : Sp := fun vs H Q _ => ∃ (p : Addr) (n d : Int), vs = [.ref p] ∧ ShO C H p n d ∧ 0 < d ∧ B n 1000 ∧ B d 1000 ∧ ∀ q H', ShO C H' q (Num.nt (f n) d) (Num.nb (f n) d) → Same H H' → Q (.ref q) H'
def absI (n : Int) : Int := if n < 0 then -n else n
def spBelow (C : Addr) : Sp := fun vs H Q _ => ∃ (p : Addr) (x : V) (n d n2 d2 : Int), vs = [.ref p, x] ∧ ShO C H p n d ∧ Opd C H x n2 d2 ∧ B n 1000 ∧ B d 1000 ∧ B n2 1000 ∧ B d2 1000 ∧ ∀ H', Same H H' → Q (.bl (decide (n * d2 < n2 * d))) H'
def spEq (C : Addr) : Sp := fun vs H Q _ => ∃ (p q : Addr) (n d n2 d2 : Int), vs = [.ref p, .ref q] ∧ ShO C H p n d ∧ ShO C H q n2 d2 ∧ Q (.bl (decide (n = n2) && decide (d = d2))) H
theorem new_sh {C : Addr} {H : Hp} {R : VK} {E : XK} {x dx : Addr} {t b : Int} (hb : b ≠ 0) (hB : B b 8000) (hx : H x = none) (hdx : H dx = none) (q : ∀ H', ShO C H' x (Num.nt t b) (Num.nb t b) → Same H H' → R .non H') :
    spInit C (.ref x :: [.int t, .int b]) (upd (upd H dx (.own x)) x (.ins C dx [])) R E := ⟨x, dx, t, b, rfl, upd_same, hb, hB, fun H' e old => q H' e (Same.made hx hdx old)⟩
theorem dec_int (i j : Int) : decide (V.int i = V.int j) = decide (i = j) := by simp
section
variable {P : Program} {w : World} {K : PySem.W.Frag} {mg : Str → Option Value} {base : Heap} {C : Addr}
abbrev s_is_operand : Stmt := top 7
abbrev N_is_operand : List Str := ["value"]
theorem sc_is_operand : FnScope N_is_operand ["value"] (defScope s_is_operand) := ⟨rfl, rfl, rfl, by decide +kernel, rfl, by decide +kernel, by decide +kernel⟩
theorem ok_is_operand (T : Blt mg) (X : ShT K mg C) (D_is_plain_int : DefOk P w K mg base CX0 1 "is_plain_int" (spPlain K)) (D : DefAt K mg "_is_operand" s_is_operand ["value"]) : DefOk P w K mg base CX0 2 "_is_operand" (spOpd C) := by
  refine D.ok sc_is_operand (fun vs H Q E h => ?_) (fun f cdv A outer s H vs Q E hr h => ?_)
  · obtain ⟨x, n, d, rfl, _⟩ := h
    rfl
  obtain ⟨x, n, d, rfl, hx, q⟩ := h
  have g_Share := X.g_Share
  refine ⟨_, (pss_one (ps_ret (pe_or (pe_callB (cl_isi K) (by rfl) T.z_isinstance (by decide +kernel) (pa_cons (pv 0) (pa_cons (pe_gcls (by rfl) g_Share) pa_nil))) (pe_one (pe_def D_is_plain_int hr (by decide) pass0 (pa_cons (pv 0) pa_nil)))))), ?_⟩
  rcases hx with ⟨p, rfl, dx, hp⟩ | ⟨rfl, rfl⟩
  · exact ⟨_, rfl, _, .ref C, _, .ref C, true, rfl, .own C, shTy X hp, kit_self, _, rfl, q⟩
  · exact ⟨_, rfl, _, .ref C, _, .ref C, false, rfl, .own C, .base (.int _), X.kI, _, rfl, _, rfl, _, true, rfl, PlainI.int _, q⟩
abbrev s_parts : Stmt := top 8
abbrev N_parts : List Str := ["value"]
theorem sc_parts : FnScope N_parts ["value"] (defScope s_parts) := ⟨rfl, rfl, rfl, by decide +kernel, rfl, by decide +kernel, by decide +kernel⟩
theorem ok_parts (T : Blt mg) (X : ShT K mg C) (D : DefAt K mg "_parts" s_parts ["value"]) : DefOk P w K mg base CX0 1 "_parts" (spParts C) := by
  refine D.ok sc_parts (fun vs H Q E h => ?_) (fun f cdv A outer s H vs Q E hr h => ?_)
  · obtain ⟨x, n, d, rfl, _⟩ := h
    rfl
  obtain ⟨x, n, d, rfl, hx, q⟩ := h
  have g_Share := X.g_Share
  refine ⟨_, (pss_cons (ps_if (pt_val (pe_callB (cl_isi K) (by rfl) T.z_isinstance (by decide +kernel) (pa_cons (pv 0) (pa_cons (pe_gcls (by rfl) g_Share) pa_nil))))
    (pss_one (ps_ret (pe_tup (pa_cons (pe_fldK K (pv 0)) (pa_cons (pe_fldK K (pv 0)) pa_nil)))))
    pss_nil)
  (pss_one (ps_ret (pe_tup (pa_cons (pv 0) (pa_cons pe_int pa_nil)))))), ?_⟩
  rcases hx with ⟨p, rfl, dx, hp⟩ | ⟨rfl, rfl⟩
  · refine ⟨_, rfl, _, .ref C, _, .ref C, true, rfl, .own C, shTy X hp, kit_self, _, rfl, ?_⟩
    exact ⟨_, rfl, p, C, dx, _, _, rfl, hp, X.cl, X.nT, shF_top _ _, _, rfl, p, C, dx, _, _, rfl, hp, X.cl, X.nB, shF_bottom _ _, (by show 2 ≤ sizeLine; decide), fun t ht => q t _ upd_same (Com.Same.upd ht)⟩
  · refine ⟨_, rfl, _, .ref C, _, .ref C, false, rfl, .own C, .base (.int _), X.kI, _, rfl, ?_⟩
    exact ⟨_, rfl, (by show 2 ≤ sizeLine; decide), fun t ht => q t _ upd_same (Com.Same.upd ht)⟩
abbrev s_Share___init : Stmt := inClass (top 9) 0
abbrev N_Share___init : List Str := ["self", "top", "bottom", "common"]
theorem sc_Share___init : FnScope N_Share___init ["self", "top", "bottom"] (defScope s_Share___init) := ⟨rfl, rfl, rfl, by decide +kernel, rfl, by decide +kernel, by decide +kernel⟩
theorem ok_init (T : Blt mg) (X : ShT K mg C) (D_is_plain_int : DefOk P w K mg base CX0 1 "is_plain_int" (spPlain K)) {f : Addr} {fd : FuncData} (F : FunD K "__init__" "Share.__init__" (defArgs s_Share___init) (defBody s_Share___init) (defScope s_Share___init) [.int 1] [] f fd) : FnOk P w K mg base CX0 2 f fd ["self", "top", "bottom"] (spInit C) := by
  refine F.ok sc_Share___init (fun vs H Q E h => ?_) (fun cdv A outer s H vs Q E hr h => ?_)
  · obtain ⟨p, dx, t, b, rfl, _⟩ := h
    rfl
  obtain ⟨p, dx, t, b, rfl, hp, hb, hB, q⟩ := h
  refine ⟨_, (pss_cons (ps_if (pt_not (pt_val (pe_def D_is_plain_int hr (by decide) pass0 (pa_cons (pv 1) pa_nil))))
    (pss_one ps_never)
    pss_nil)
  (pss_cons (ps_if (PW.pt (pw_or (pt_not (pt_val (pe_def D_is_plain_int hr (by decide) pass0 (pa_cons (pv 2) pa_nil)))) (pw_or1 (pt_cmpR op_eq (pv 2) pe_int (nomark _)))))
    (pss_one ps_never)
    pss_nil)
  (pss_cons (ps_set (i := 3) sc_Share___init.nd rfl (Or.inl rfl) (pe_gbfn cr_gcd T.g_gcd (pa_cons (pv 1) (pa_cons (pv 2) pa_nil))))
  (pss_cons (ps_if (pt_cmpR op_lt (pv 2) pe_int (nomark _))
    (pss_one (ps_set (i := 3) sc_Share___init.nd rfl (Or.inl rfl) (pe_un un_neg (pv 3))))
    pss_nil)
  (pss_cons (ps_fldK K (pv 0) (pe_op fdivX (pv 1) (pv 3)))
  (pss_one (ps_fldK K (pv 0) (pe_op fdivX (pv 2) (pv 3))))))))), ?_⟩
  refine ⟨_, rfl, _, true, rfl, PlainI.int t, _, rfl, ?_⟩
  refine ⟨_, rfl, _, true, rfl, PlainI.int b, _, rfl, ?_⟩
  refine ⟨_, rfl, rfl, _, rfl, ?_⟩
  have e0 : decide (V.int b = V.int 0) = false := by rw [dec_int]; exact decide_eq_false hb
  rw [e0]
  refine ⟨_, rfl, _, rfl, t, b, rfl, ?_⟩
  refine ⟨_, rfl, _, _, rfl, rfl, _, rfl, ?_⟩
  have hc : CDivX t (Num.cm t b) ∧ CDivX b (Num.cm t b) := ⟨⟨Num.cm_ne hb, (B.le hB (Num.cm_le t b hb)).mono (by decide)⟩, ⟨Num.cm_ne hb, (B.le hB (Num.cm_le t b hb)).mono (by decide)⟩⟩
  have fin : ∀ H', H' = upd (upd H p (.ins C dx (putF "top" (.int (Num.nt t b)) []))) p (.ins C dx (putF "bottom" (.int (Num.nb t b)) (putF "top" (.int (Num.nt t b)) []))) → Q .non H' := fun H' e => by
    subst e
    refine q _ ⟨dx, by rw [upd_same, shF_put]⟩ fun z u hz ne => ?_
    rw [upd_ne ne, upd_ne ne]
    exact hz
  refine ifB (fun c => ?_) (fun c => ?_)
  · have ec : Num.cm t b = -Num.gc t b := by unfold Num.cm; rw [if_pos (of_decide_eq_true c)]
    rw [ec] at hc
    refine ⟨_, rfl, _, rfl, ?_⟩
    refine ⟨_, rfl, _, rfl, _, _, rfl, rfl, hc.1, _, rfl, p, C, dx, [], rfl, hp, X.cl, X.nT, (by show 0 < 1000; decide), ?_⟩
    refine ⟨_, rfl, _, rfl, _, _, rfl, rfl, hc.2, _, rfl, p, C, dx, _, rfl, upd_same, X.cl, X.nB, (by rw [putF_nil]; show 1 < 1000; decide), ?_⟩
    refine fin _ ?_
    unfold Num.nt Num.nb
    rw [ec]
    rfl
  · have ec : Num.cm t b = Num.gc t b := by unfold Num.cm; rw [if_neg (of_decide_eq_false c)]
    rw [ec] at hc
    refine ⟨_, rfl, _, rfl, _, _, rfl, rfl, hc.1, _, rfl, p, C, dx, [], rfl, hp, X.cl, X.nT, (by show 0 < 1000; decide), ?_⟩
    refine ⟨_, rfl, _, rfl, _, _, rfl, rfl, hc.2, _, rfl, p, C, dx, _, rfl, upd_same, X.cl, X.nB, (by rw [putF_nil]; show 1 < 1000; decide), ?_⟩
    refine fin _ ?_
    unfold Num.nt Num.nb
    rw [ec]
    rfl
end
end K01
set_option Elab.async false
set_option linter.all false
set_option maxRecDepth 100000
set_option maxHeartbeats 4000000
namespace K01
open PySem PySem.Spec PyProof.Rows L2 Com
local macro_rules | `(tactic| walk_at "rd1") => `(tactic| (first
  | refine ⟨_, rfl, ?_⟩
  | refine ⟨_, _, rfl, rfl, ?_⟩
  | refine ⟨.inl ⟨by decide, by decide⟩, ?_⟩
  | refine ⟨.inr ⟨by decide, by decide⟩, ?_⟩
  | refine ⟨(by decide : (0 : Int) < _), ?_⟩
  | refine ⟨⟨by decide, by decide⟩, ?_⟩
  | refine ⟨⟨by decide, by decide, by decide⟩, ?_⟩
  | refine ⟨rfl, ?_⟩
  | refine .inl ⟨_, rfl, ?_⟩
  | refine .inr ⟨_, rfl, ?_⟩
  | refine ⟨_, _, _, _, rfl, rfl, SqL.of upd_same, rfl, ?_⟩
  | refine ⟨_, _, _, _, rfl, rfl, upd_same, rfl, ?_⟩
  | refine ⟨mulm (by decide) (by decide), ?_⟩
  | refine ⟨_, _, _, _, rfl, rfl, SqL.of (by assumption), rfl, ?_⟩
  | refine ⟨_, _, _, _, rfl, rfl, (by assumption), rfl, ?_⟩))
local macro_rules | `(tactic| walk_at "rd") => `(tactic| repeat (walk_at "rd1"))
section
variable {P : Program} {w : World} {K : PySem.W.Frag} {mg : Str → Option Value} {base : Heap} {C : Addr}
abbrev s_Share___eq : Stmt := inClass (top 9) 1
abbrev N_Share___eq : List Str := ["self", "other"]
theorem sc_Share___eq : FnScope N_Share___eq ["self", "other"] (defScope s_Share___eq) := ⟨rfl, rfl, rfl, by decide +kernel, rfl, by decide +kernel, by decide +kernel⟩
theorem ok_eq (T : Blt mg) (X : ShT K mg C) (D : MethAt K C "__eq__" "Share.__eq__" s_Share___eq ["self", "other"]) : MethOk P w K mg base CX0 1 C "__eq__" (spEq C) := by
  refine D.fn sc_Share___eq (fun vs H Q E h => ?_) (fun f cdv A outer s H vs Q E hr h => ?_)
  · obtain ⟨p, q, n, d, n2, d2, rfl, _⟩ := h
    rfl
  obtain ⟨p, p', n, d, n2, d2, rfl, ⟨dx, hp⟩, ⟨dy, hp'⟩, q⟩ := h
  have g_Share := X.g_Share
  refine ⟨_, (pss_one (ps_ret (pe_and (pe_callB (cl_isi K) (by rfl) T.z_isinstance (by decide +kernel) (pa_cons (pv 1) (pa_cons (pe_gcls (by rfl) g_Share) pa_nil))) (pe_and (pe_cmpR op_eq (pe_fldK K (pv 0)) (pe_fldK K (pv 1)) (nomark _)) (pe_one (pe_cmpR op_eq (pe_fldK K (pv 0)) (pe_fldK K (pv 1)) (nomark _))))))), ?_⟩
  refine ⟨_, rfl, _, .ref C, _, .ref C, true, rfl, .own C, shTy X hp', kit_self, _, rfl, ?_⟩
  refine ⟨_, rfl, p, C, dx, _, _, rfl, hp, X.cl, X.nT, shF_top _ _, _, rfl, p', C, dy, _, _, rfl, hp', X.cl, X.nT, shF_top _ _, rfl, _, rfl, ?_⟩
  rw [dec_int]
  refine ifB (fun c => ?_) (fun c => ?_)
  · refine ⟨_, rfl, p, C, dx, _, _, rfl, hp, X.cl, X.nB, shF_bottom _ _, _, rfl, p', C, dy, _, _, rfl, hp', X.cl, X.nB, shF_bottom _ _, rfl, ?_⟩
    rw [dec_int]
    rw [c, Bool.true_and] at q
    exact q
  · rw [c, Bool.false_and] at q
    exact q
theorem gMul_pos {d d2 : Int} (h : 0 < d) (h2 : 0 < d2) : d * d2 ≠ 0 := by
  have := Int.mul_pos h h2
  omega
abbrev s_Share___add : Stmt := inClass (top 9) 2
abbrev N_Share___add : List Str := ["self", "other", "top", "bottom"]
theorem sc_Share___add : FnScope N_Share___add ["self", "other"] (defScope s_Share___add) := ⟨rfl, rfl, rfl, by decide +kernel, rfl, by decide +kernel, by decide +kernel⟩
theorem ok_add (X : ShT K mg C) (D_is_operand : DefOk P w K mg base CX0 2 "_is_operand" (spOpd C)) (D_parts : DefOk P w K mg base CX0 1 "_parts" (spParts C)) (M_Share : NewOk P w K mg base CX0 2 "Share" C (spInit C)) (D : MethAt K C "__add__" "Share.__add__" s_Share___add ["self", "other"]) : MethOk P w K mg base CX0 4 C "__add__" (spBin C fAdd gMul) := by
  refine D.fn sc_Share___add (fun vs H Q E h => ?_) (fun f cdv A outer s H vs Q E hr h => ?_)
  · obtain ⟨p, x, n, d, n2, d2, rfl, _⟩ := h
    rfl
  obtain ⟨p, x, n, d, n2, d2, rfl, hp, hx, h1, h2, b1, b2, b3, b4, q⟩ := h
  refine ⟨_, (pss_cons (ps_if (pt_not (pt_val (pe_def D_is_operand hr (by decide) pass0 (pa_cons (pv 1) pa_nil))))
    (pss_one ps_never)
    pss_nil)
  (pss_cons (ps_asg (pe_def D_parts hr (by decide) pass0 (pa_cons (pv 1) pa_nil)) (pgT K (pgs_cons (pg_name (i := 2) sc_Share___add.nd rfl (Or.inl rfl)) (pgs_cons (pg_name (i := 3) sc_Share___add.nd rfl (Or.inl rfl)) pgs_nil))))
  (pss_one (ps_ret (pe_new M_Share hr (by decide) pass0 (pa_cons (pe_op op_add (pe_op op_mulW (pe_fldK K (pv 0)) (pv 3)) (pe_op op_mulW (pv 2) (pe_fldK K (pv 0)))) (pa_cons (pe_op op_mulW (pe_fldK K (pv 0)) (pv 3)) pa_nil))))))), ?_⟩
  refine ⟨_, rfl, x, n2, d2, rfl, hx, _, rfl, ?_⟩
  refine ⟨_, rfl, x, n2, d2, rfl, hx, fun t H1 ht s1 => ⟨t, _, rfl, SqT.of ht, rfl, _, _, rfl, _, _, rfl, rfl, ?_⟩⟩
  obtain ⟨dx, hp1⟩ := hp.same s1
  refine ⟨_, rfl, p, C, dx, _, _, rfl, hp1, X.cl, X.nT, shF_top _ _, _, rfl, _, _, rfl, rfl, mulB b1 b4, _, rfl, _, rfl, p, C, dx, _, _, rfl, hp1, X.cl, X.nB, shF_bottom _ _, _, _, rfl, rfl, mulB b3 b2, _, _, rfl, rfl, ?_⟩
  refine ⟨_, rfl, p, C, dx, _, _, rfl, hp1, X.cl, X.nB, shF_bottom _ _, _, rfl, _, _, rfl, rfl, mulB b2 b4, fun y dy ny ndy _ => new_sh (gMul_pos h1 h2) ((b2.mul b4).mono (by decide)) ny ndy fun H' e s2 => ⟨rfl, ?_⟩⟩
  exact q y H' e (s1.trans s2)
abbrev s_Share___mul : Stmt := inClass (top 9) 5
abbrev N_Share___mul : List Str := ["self", "other", "top", "bottom"]
theorem sc_Share___mul : FnScope N_Share___mul ["self", "other"] (defScope s_Share___mul) := ⟨rfl, rfl, rfl, by decide +kernel, rfl, by decide +kernel, by decide +kernel⟩
theorem ok_mul (X : ShT K mg C) (D_is_operand : DefOk P w K mg base CX0 2 "_is_operand" (spOpd C)) (D_parts : DefOk P w K mg base CX0 1 "_parts" (spParts C)) (M_Share : NewOk P w K mg base CX0 2 "Share" C (spInit C)) (D : MethAt K C "__mul__" "Share.__mul__" s_Share___mul ["self", "other"]) : MethOk P w K mg base CX0 4 C "__mul__" (spBin C fMul gMul) := by
  refine D.fn sc_Share___mul (fun vs H Q E h => ?_) (fun f cdv A outer s H vs Q E hr h => ?_)
  · obtain ⟨p, x, n, d, n2, d2, rfl, _⟩ := h
    rfl
  obtain ⟨p, x, n, d, n2, d2, rfl, hp, hx, h1, h2, b1, b2, b3, b4, q⟩ := h
  refine ⟨_, (pss_cons (ps_if (pt_not (pt_val (pe_def D_is_operand hr (by decide) pass0 (pa_cons (pv 1) pa_nil))))
    (pss_one ps_never)
    pss_nil)
  (pss_cons (ps_asg (pe_def D_parts hr (by decide) pass0 (pa_cons (pv 1) pa_nil)) (pgT K (pgs_cons (pg_name (i := 2) sc_Share___mul.nd rfl (Or.inl rfl)) (pgs_cons (pg_name (i := 3) sc_Share___mul.nd rfl (Or.inl rfl)) pgs_nil))))
  (pss_one (ps_ret (pe_new M_Share hr (by decide) pass0 (pa_cons (pe_op op_mulW (pe_fldK K (pv 0)) (pv 2)) (pa_cons (pe_op op_mulW (pe_fldK K (pv 0)) (pv 3)) pa_nil))))))), ?_⟩
  refine ⟨_, rfl, x, n2, d2, rfl, hx, _, rfl, ?_⟩
  refine ⟨_, rfl, x, n2, d2, rfl, hx, fun t H1 ht s1 => ⟨t, _, rfl, SqT.of ht, rfl, _, _, rfl, _, _, rfl, rfl, ?_⟩⟩
  obtain ⟨dx, hp1⟩ := hp.same s1
  refine ⟨_, rfl, p, C, dx, _, _, rfl, hp1, X.cl, X.nT, shF_top _ _, _, rfl, _, _, rfl, rfl, mulB b1 b3, ?_⟩
  refine ⟨_, rfl, p, C, dx, _, _, rfl, hp1, X.cl, X.nB, shF_bottom _ _, _, rfl, _, _, rfl, rfl, mulB b2 b4, fun y dy ny ndy _ => new_sh (gMul_pos h1 h2) ((b2.mul b4).mono (by decide)) ny ndy fun H' e s2 => ⟨rfl, ?_⟩⟩
  exact q y H' e (s1.trans s2)
abbrev s_Share___neg : Stmt := inClass (top 9) 7
abbrev N_Share___neg : List Str := ["self"]
theorem sc_Share___neg : FnScope N_Share___neg ["self"] (defScope s_Share___neg) := ⟨rfl, rfl, rfl, by decide +kernel, rfl, by decide +kernel, by decide +kernel⟩
theorem ok_neg (X : ShT K mg C) (M_Share : NewOk P w K mg base CX0 2 "Share" C (spInit C)) (D : MethAt K C "__neg__" "Share.__neg__" s_Share___neg ["self"]) : MethOk P w K mg base CX0 4 C "__neg__" (spUn C fun n => -n) := by
  refine D.fn sc_Share___neg (fun vs H Q E h => ?_) (fun f cdv A outer s H vs Q E hr h => ?_)
  · obtain ⟨p, n, d, rfl, _⟩ := h
    rfl
  obtain ⟨p, n, d, rfl, ⟨dx, hp⟩, h1, b1, b2, q⟩ := h
  refine ⟨_, (pss_one (ps_ret (pe_new M_Share hr (by decide) pass0 (pa_cons (pe_un un_neg (pe_fldK K (pv 0))) (pa_cons (pe_fldK K (pv 0)) pa_nil))))), ?_⟩
  exact ⟨_, rfl, p, C, dx, _, _, rfl, hp, X.cl, X.nT, shF_top _ _, _, rfl, _, rfl, p, C, dx, _, _, rfl, hp, X.cl, X.nB, shF_bottom _ _, fun y dy ny ndy _ => new_sh (by omega) (b2.mono (by decide)) ny ndy fun H' e s2 => ⟨rfl, q y H' e s2⟩⟩
abbrev s_Share___abs : Stmt := inClass (top 9) 8
abbrev N_Share___abs : List Str := ["self"]
theorem sc_Share___abs : FnScope N_Share___abs ["self"] (defScope s_Share___abs) := ⟨rfl, rfl, rfl, by decide +kernel, rfl, by decide +kernel, by decide +kernel⟩
theorem ok_abs (T : Blt mg) (X : ShT K mg C) (M_Share : NewOk P w K mg base CX0 2 "Share" C (spInit C)) (D : MethAt K C "__abs__" "Share.__abs__" s_Share___abs ["self"]) : MethOk P w K mg base CX0 4 C "__abs__" (spUn C absI) := by
  refine D.fn sc_Share___abs (fun vs H Q E h => ?_) (fun f cdv A outer s H vs Q E hr h => ?_)
  · obtain ⟨p, n, d, rfl, _⟩ := h
    rfl
  obtain ⟨p, n, d, rfl, ⟨dx, hp⟩, h1, b1, b2, q⟩ := h
  refine ⟨_, (pss_one (ps_ret (pe_new M_Share hr (by decide) pass0 (pa_cons (pe_callB call_abs (by rfl) T.z_abs (by decide +kernel) (pa_cons (pe_fldK K (pv 0)) pa_nil)) (pa_cons (pe_fldK K (pv 0)) pa_nil))))), ?_⟩
  exact ⟨_, rfl, p, C, dx, _, _, rfl, hp, X.cl, X.nT, shF_top _ _, _, rfl, _, rfl, p, C, dx, _, _, rfl, hp, X.cl, X.nB, shF_bottom _ _, fun y dy ny ndy _ => new_sh (by omega) (b2.mono (by decide)) ny ndy fun H' e s2 => ⟨rfl, q y H' e s2⟩⟩
abbrev s_Share_below : Stmt := inClass (top 9) 9
abbrev N_Share_below : List Str := ["self", "other", "top", "bottom"]
theorem sc_Share_below : FnScope N_Share_below ["self", "other"] (defScope s_Share_below) := ⟨rfl, rfl, rfl, by decide +kernel, rfl, by decide +kernel, by decide +kernel⟩
theorem ok_below (X : ShT K mg C) (D_parts : DefOk P w K mg base CX0 1 "_parts" (spParts C)) (D : MethAt K C "below" "Share.below" s_Share_below ["self", "other"]) : MethOk P w K mg base CX0 2 C "below" (spBelow C) := by
  refine D.fn sc_Share_below (fun vs H Q E h => ?_) (fun f cdv A outer s H vs Q E hr h => ?_)
  · obtain ⟨p, x, n, d, n2, d2, rfl, _⟩ := h
    rfl
  obtain ⟨p, x, n, d, n2, d2, rfl, hp, hx, b1, b2, b3, b4, q⟩ := h
  refine ⟨_, (pss_cons (ps_asg (pe_def D_parts hr (by decide) pass0 (pa_cons (pv 1) pa_nil)) (pgT K (pgs_cons (pg_name (i := 2) sc_Share_below.nd rfl (Or.inl rfl)) (pgs_cons (pg_name (i := 3) sc_Share_below.nd rfl (Or.inl rfl)) pgs_nil))))
  (pss_one (ps_ret (pe_cmpR op_lt (pe_op op_mulW (pe_fldK K (pv 0)) (pv 3)) (pe_op op_mulW (pv 2) (pe_fldK K (pv 0))) (nomark _))))), ?_⟩
  refine ⟨_, rfl, x, n2, d2, rfl, hx, fun t H1 ht s1 => ⟨t, _, rfl, SqT.of ht, rfl, _, _, rfl, _, _, rfl, rfl, ?_⟩⟩
  obtain ⟨dx, hp1⟩ := hp.same s1
  exact ⟨_, rfl, p, C, dx, _, _, rfl, hp1, X.cl, X.nT, shF_top _ _, _, rfl, _, _, rfl, rfl, mulB b1 b4, _, rfl, _, rfl, p, C, dx, _, _, rfl, hp1, X.cl, X.nB, shF_bottom _ _, _, _, rfl, rfl, mulB b3 b2, _, _, rfl, rfl, q H1 s1⟩
end
section
variable {P : Program} {w : World} {K : PySem.W.Frag} {mg : Str → Option Value} {base : Heap} {C : Addr}
theorem Opd.kind {C : Addr} {H : Hp} {x : V} {n d : Int} (h : Opd C H x n d) : (∃ i, x = .int i) ∨ (∃ b dy gs, x = .ref b ∧ H b = some (.ins C dy gs)) :=
  h.elim (fun ⟨p, e, dx, z⟩ => .inr ⟨p, dx, _, e, z⟩) fun ⟨e, _⟩ => .inl ⟨n, e⟩
abbrev s_Share___radd : Stmt := inClass (top 9) 3
abbrev N_Share___radd : List Str := ["self", "other"]
theorem sc_Share___radd : FnScope N_Share___radd ["self", "other"] (defScope s_Share___radd) := ⟨rfl, rfl, rfl, by decide +kernel, rfl, by decide +kernel, by decide +kernel⟩
theorem ok_radd (O : OpFacts K C "add") (M_add : MethOk P w K mg base CX0 4 C "__add__" (spBin C fAdd gMul)) (D : MethAt K C "__radd__" "Share.__radd__" s_Share___radd ["self", "other"]) : MethOk P w K mg base CX0 5 C "__radd__" (spBin C fAdd gMul) := by
  refine D.fn sc_Share___radd (fun vs H Q E h => ?_) (fun f cdv A outer s H vs Q E hr h => ?_)
  · obtain ⟨p, x, n, d, n2, d2, rfl, _⟩ := h
    rfl
  obtain ⟨p, x, n, d, n2, d2, rfl, ⟨dx, hp⟩, hx, r⟩ := h
  refine ⟨_, (pss_one (ps_ret (pe_op (binO O M_add hr (by decide) pass0) (pv 0) (pv 1)))), ?_⟩
  exact ⟨_, rfl, _, rfl, p, dx, _, rfl, hp, hx.kind, p, x, n, d, n2, d2, rfl, ⟨dx, hp⟩, hx, r⟩
abbrev s_Share___rmul : Stmt := inClass (top 9) 6
abbrev N_Share___rmul : List Str := ["self", "other"]
theorem sc_Share___rmul : FnScope N_Share___rmul ["self", "other"] (defScope s_Share___rmul) := ⟨rfl, rfl, rfl, by decide +kernel, rfl, by decide +kernel, by decide +kernel⟩
theorem ok_rmul (O : OpFacts K C "mul") (M_mul : MethOk P w K mg base CX0 4 C "__mul__" (spBin C fMul gMul)) (D : MethAt K C "__rmul__" "Share.__rmul__" s_Share___rmul ["self", "other"]) : MethOk P w K mg base CX0 5 C "__rmul__" (spBin C fMul gMul) := by
  refine D.fn sc_Share___rmul (fun vs H Q E h => ?_) (fun f cdv A outer s H vs Q E hr h => ?_)
  · obtain ⟨p, x, n, d, n2, d2, rfl, _⟩ := h
    rfl
  obtain ⟨p, x, n, d, n2, d2, rfl, ⟨dx, hp⟩, hx, r⟩ := h
  refine ⟨_, (pss_one (ps_ret (pe_op (binO O M_mul hr (by decide) pass0) (pv 0) (pv 1)))), ?_⟩
  exact ⟨_, rfl, _, rfl, p, dx, _, rfl, hp, hx.kind, p, x, n, d, n2, d2, rfl, ⟨dx, hp⟩, hx, r⟩
abbrev s_Share___sub : Stmt := inClass (top 9) 4
abbrev N_Share___sub : List Str := ["self", "other"]
theorem sc_Share___sub : FnScope N_Share___sub ["self", "other"] (defScope s_Share___sub) := ⟨rfl, rfl, rfl, by decide +kernel, rfl, by decide +kernel, by decide +kernel⟩
theorem ok_sub (O : OpFacts K C "add") (D_is_operand : DefOk P w K mg base CX0 2 "_is_operand" (spOpd C)) (M_add : MethOk P w K mg base CX0 4 C "__add__" (spBin C fAdd gMul)) (M_neg : MethOk P w K mg base CX0 4 C "__neg__" (spUn C fun n => -n)) (D : MethAt K C "__sub__" "Share.__sub__" s_Share___sub ["self", "other"]) : MethOk P w K mg base CX0 5 C "__sub__" (spBin C fSub gMul) := by
  refine D.fn sc_Share___sub (fun vs H Q E h => ?_) (fun f cdv A outer s H vs Q E hr h => ?_)
  · obtain ⟨p, x, n, d, n2, d2, rfl, _⟩ := h
    rfl
  obtain ⟨p, x, n, d, n2, d2, rfl, ⟨dx, hp⟩, hx, h1, h2, b1, b2, b3, b4, q⟩ := h
  refine ⟨_, (pss_cons (ps_if (pt_not (pt_val (pe_def D_is_operand hr (by decide) pass0 (pa_cons (pv 1) pa_nil))))
    (pss_one ps_never)
    pss_nil)
  (pss_one (ps_ret (pe_op (binO O M_add hr (by decide) pass0) (pv 0) (pe_un (UnR.or (negO M_neg hr (by decide) pass0) un_neg) (pv 1)))))), ?_⟩
  refine ⟨_, rfl, x, n2, d2, rfl, hx, _, rfl, ?_⟩
  have hd := Num.gc_pos (t := n2) (b := d2) (by omega)
  rcases hx with ⟨p2, rfl, dy, hp2⟩ | ⟨rfl, rfl⟩
  · refine ⟨_, rfl, _, rfl, .inl ⟨p2, dy, _, rfl, hp2, p2, n2, d2, rfl, ⟨dy, hp2⟩, h2, b3, b4, fun r H1 e1 s1 => ?_⟩⟩
    obtain ⟨dr, hr1⟩ := e1
    have k1 := Num.cross (-n2) d2
    have k2 := Num.nb_pos (t := -n2) (b := d2) (by omega)
    refine ⟨p, dx, _, rfl, s1 _ _ hp, .inr ⟨r, dr, _, rfl, hr1⟩, p, _, n, d, _, _, rfl, ⟨dx, s1 _ _ hp⟩, .inl ⟨r, rfl, dr, hr1⟩, h1, k2, b1, b2, (B.le b3.neg (Num.nt_le _ _ (by omega))), (B.le b4 (Num.nb_le _ _ (by omega))), fun q1 H2 e2 s2 => ?_⟩
    have un : Num.nt (fAdd n d (Num.nt (-n2) d2) (Num.nb (-n2) d2)) (gMul n d (Num.nt (-n2) d2) (Num.nb (-n2) d2)) = Num.nt (fSub n d n2 d2) (gMul n d n2 d2) ∧ Num.nb (fAdd n d (Num.nt (-n2) d2) (Num.nb (-n2) d2)) (gMul n d (Num.nt (-n2) d2) (Num.nb (-n2) d2)) = Num.nb (fSub n d n2 d2) (gMul n d n2 d2) :=
      Num.add_of (a := n) (b := d) (c := -n2) (d := d2) h1 h2 h1 k2 (Int.mul_comm _ _) k1
    rw [un.1, un.2] at e2
    exact q q1 H2 e2 (s1.trans s2)
  · refine ⟨_, rfl, _, rfl, .inr ⟨n2, rfl, ?_⟩⟩
    exact ⟨p, dx, _, rfl, hp, .inl ⟨_, rfl⟩, p, _, n, d, _, _, rfl, ⟨dx, hp⟩, .inr ⟨rfl, rfl⟩, h1, h2, b1, b2, b3.neg, b4, q⟩
end
/-! ### the law's own helpers -/
def spSmall : Sp := fun vs H Q _ => ∃ (a : Addr) (bound : Int), vs = [.ref a, .int bound] ∧ FlowAt H a ∧ 7 ≤ bound ∧ bound < 2 ^ 100 ∧ ∀ d H', 0 ≤ d → d < bound → FlowAt H' a → But a H H' → Q (.int d) H'
def spSigned : Sp := fun vs H Q _ => ∃ (a : Addr) (bound : Int), vs = [.ref a, .int bound] ∧ FlowAt H a ∧ 7 ≤ bound ∧ bound < 2 ^ 100 ∧ ∀ d H', B d 101 → FlowAt H' a → But a H H' → Q (.int d) H'
def spFlag : Sp := fun vs H Q _ => ∃ (a b : Bool), vs = [.bl a, .bl b] ∧ Q (.bl (decide (a = b))) H
def spIs (C : Addr) : Sp := fun vs H Q _ => ∃ (q : Addr) (t b : Int), vs = [.ref q, .int t, .int b] ∧ ShO C H q (Num.nt t b) (Num.nb t b) ∧ b ≠ 0 ∧ B t 900 ∧ B b 900 ∧ ∀ H', Same H H' → Q (.bl true) H'
theorem small200 {x : Int} (h : x ≤ 1000) : x < 2 ^ 200 := by
  have : (1000 : Int) < 2 ^ 200 := by decide
  omega
theorem b100 {x : Int} (h : x < 2 ^ 100) : x < 2 ^ 200 := by
  have : (2 : Int) ^ 100 < 2 ^ 200 := by decide
  omega
theorem But.trans {a : Addr} {H H1 H2 : Hp} (h : But a H H1) (g : But a H1 H2) : But a H H2 := fun b ne => (g b ne).trans (h b ne)
section
variable {P : Program} {w : World} {K : PySem.W.Frag} {mg : Str → Option Value} {base : Heap} {C : Addr}
abbrev s_small_or_great : Stmt := top 13
abbrev N_small_or_great : List Str := ["_law_flow_here", "_law_bound"]
theorem sc_small_or_great : FnScope N_small_or_great ["_law_flow_here", "_law_bound"] (defScope s_small_or_great) := ⟨rfl, rfl, rfl, by decide +kernel, rfl, by decide +kernel, by decide +kernel⟩
theorem ok_small (D_pick : DefOk P w K mg base CX0 1 "_law_pick" spPick) (D : DefAt K mg "_law_small_or_great" s_small_or_great ["_law_flow_here", "_law_bound"]) : DefOk P w K mg base CX0 2 "_law_small_or_great" spSmall := by
  refine D.ok sc_small_or_great (fun vs H Q E h => ?_) (fun f cdv A outer s H vs Q E hr h => ?_)
  · obtain ⟨a, b, rfl, _⟩ := h
    rfl
  obtain ⟨a, b, rfl, f0, t1, t2, q⟩ := h
  refine ⟨_, (pss_cons (ps_if (pt_cmpR op_eq (pe_def D_pick hr (by decide) pass0 (pa_cons (pv 0) (pa_cons pe_int pa_nil))) pe_int (nomark _))
    (pss_one (ps_ret (pe_def D_pick hr (by decide) pass0 (pa_cons (pv 0) (pa_cons pe_int pa_nil)))))
    pss_nil)
  (pss_one (ps_ret (pe_def D_pick hr (by decide) pass0 (pa_cons (pv 0) (pa_cons (pv 1) pa_nil)))))), ?_⟩
  refine ⟨_, rfl, a, 2, rfl, f0, by decide, small200 (by decide), fun n H1 n0 n1 f1 b1 => ?_⟩
  refine ⟨rfl, _, rfl, ?_⟩
  refine ifB (fun c => ?_) (fun c => ?_)
  · exact ⟨_, rfl, a, 7, rfl, f1, by decide, small200 (by decide), fun d H2 d0 d1 f2 b2 => q d H2 d0 (by omega) f2 (But.trans b1 b2)⟩
  · exact ⟨_, rfl, _, rfl, a, b, rfl, f1, by omega, b100 t2, fun d H2 d0 d1 f2 b2 => q d H2 d0 d1 f2 (But.trans b1 b2)⟩
abbrev s_signed : Stmt := top 14
abbrev N_signed : List Str := ["_law_flow_here", "_law_bound", "_law_number"]
theorem sc_signed : FnScope N_signed ["_law_flow_here", "_law_bound"] (defScope s_signed) := ⟨rfl, rfl, rfl, by decide +kernel, rfl, by decide +kernel, by decide +kernel⟩
theorem ok_signed (D_pick : DefOk P w K mg base CX0 1 "_law_pick" spPick) (D_small_or_great : DefOk P w K mg base CX0 2 "_law_small_or_great" spSmall) (D : DefAt K mg "_law_signed" s_signed ["_law_flow_here", "_law_bound"]) : DefOk P w K mg base CX0 3 "_law_signed" spSigned := by
  refine D.ok sc_signed (fun vs H Q E h => ?_) (fun f cdv A outer s H vs Q E hr h => ?_)
  · obtain ⟨a, b, rfl, _⟩ := h
    rfl
  obtain ⟨a, b, rfl, f0, t1, t2, q⟩ := h
  refine ⟨_, (pss_cons (ps_set (i := 2) sc_signed.nd rfl (Or.inl rfl) (pe_def D_small_or_great hr (by decide) pass0 (pa_cons (pv 0) (pa_cons (pv 1) pa_nil))))
  (pss_one (ps_ret (pe_op op_mulW (pv 2) (pe_op op_sub pe_int (pe_op op_mul pe_int (pe_def D_pick hr (by decide) pass0 (pa_cons (pv 0) (pa_cons pe_int pa_nil))))))))), ?_⟩
  refine ⟨_, rfl, _, rfl, a, b, rfl, f0, t1, t2, fun n H1 n0 n1 f1 b1 => ?_⟩
  refine ⟨_, rfl, _, rfl, a, 2, rfl, f1, by decide, small200 (by decide), fun m H2 m0 m1 f2 b2 => ?_⟩
  refine ⟨_, _, rfl, rfl, .inl ⟨by decide, by decide⟩, _, _, rfl, rfl, ?_⟩
  have hn : B n 100 := by
    unfold B
    have : ((2 : Int) ^ 100) = (((2 : Nat) ^ 100 : Nat) : Int) := by decide
    omega
  have hm : B (1 - 2 * m) 1 := by
    unfold B
    omega
  refine ⟨_, _, rfl, rfl, mulB hn hm, ?_⟩
  exact q _ H2 (hn.mul hm) f2 (But.trans b1 b2)
abbrev s_is_flag : Stmt := top 15
abbrev N_is_flag : List Str := ["_law_actual", "_law_wanted"]
theorem sc_is_flag : FnScope N_is_flag ["_law_actual", "_law_wanted"] (defScope s_is_flag) := ⟨rfl, rfl, rfl, by decide +kernel, rfl, by decide +kernel, by decide +kernel⟩
theorem ok_is_flag (T : Blt mg) (D : DefAt K mg "_law_is_flag" s_is_flag ["_law_actual", "_law_wanted"]) : DefOk P w K mg base CX0 1 "_law_is_flag" spFlag := by
  refine D.ok sc_is_flag (fun vs H Q E h => ?_) (fun f cdv A outer s H vs Q E hr h => ?_)
  · obtain ⟨a, b, rfl, _⟩ := h
    rfl
  obtain ⟨a, b, rfl, q⟩ := h
  refine ⟨_, (pss_one (ps_ret (pe_and (pe_callB (cl_isi K) (by rfl) T.z_isinstance (by decide +kernel) (pa_cons (pv 0) (pa_cons (pe_bltn (v := .ty "bool") (by rfl) T.z_bool (by decide +kernel) rfl) pa_nil))) (pe_one (pe_cmpR op_eq (pv 0) (pv 1) (nomark _)))))), ?_⟩
  refine ⟨_, rfl, _, _, .type "bool", _, true, rfl, .ty "bool", .base (.bl a), kit_ty (by decide +kernel), _, rfl, ?_⟩
  refine ⟨_, rfl, _, rfl, rfl, ?_⟩
  have e : decide (V.bl a = V.bl b) = decide (a = b) := by simp
  rw [e]
  exact q
abbrev s_is : Stmt := top 16
abbrev N_is : List Str := ["_law_actual", "_law_top", "_law_bottom", "_law_wanted"]
theorem sc_is : FnScope N_is ["_law_actual", "_law_top", "_law_bottom"] (defScope s_is) := ⟨rfl, rfl, rfl, by decide +kernel, rfl, by decide +kernel, by decide +kernel⟩
theorem ok_is (T : Blt mg) (X : ShT K mg C) (M_Share : NewOk P w K mg base CX0 2 "Share" C (spInit C)) (D : DefAt K mg "_law_is" s_is ["_law_actual", "_law_top", "_law_bottom"]) : DefOk P w K mg base CX0 4 "_law_is" (spIs C) := by
  refine D.ok sc_is (fun vs H Q E h => ?_) (fun f cdv A outer s H vs Q E hr h => ?_)
  · obtain ⟨p, t, b, rfl, _⟩ := h
    rfl
  obtain ⟨p, t, b, rfl, ⟨dx, hp⟩, hb, B1, B2, q⟩ := h
  have g_Share := X.g_Share
  refine ⟨_, (pss_cons (ps_if (pt_not (pt_val (pe_callB (cl_isi K) (by rfl) T.z_isinstance (by decide +kernel) (pa_cons (pv 0) (pa_cons (pe_gcls (by rfl) g_Share) pa_nil)))))
    (pss_one (ps_ret pe_bl))
    pss_nil)
  (pss_cons (ps_set (i := 3) sc_is.nd rfl (Or.inl rfl) (pe_new M_Share hr (by decide) pass0 (pa_cons (pv 1) (pa_cons (pv 2) pa_nil))))
  (pss_one (ps_ret (pe_and (pe_cmpR op_eq (pe_fldK K (pv 0)) (pe_fldK K (pv 3)) (nomark _)) (pe_and (pe_cmpR op_eq (pe_fldK K (pv 0)) (pe_fldK K (pv 3)) (nomark _)) (pe_one (pe_cmpR op_eq (pe_op op_mulW (pe_fldK K (pv 0)) (pv 2)) (pe_op op_mulW (pe_fldK K (pv 0)) (pv 1)) (nomark _))))))))), ?_⟩
  refine ⟨_, rfl, _, .ref C, _, .ref C, true, rfl, .own C, shTy X hp, kit_self, _, rfl, ?_⟩
  refine ⟨_, rfl, _, rfl, fun y dy ny ndy _ => new_sh hb (B2.mono (by decide)) ny ndy fun H1 ⟨dz, hz⟩ s1 => ⟨rfl, ?_⟩⟩
  have hp1 := s1 _ _ hp
  refine ⟨_, rfl, p, C, dx, _, _, rfl, hp1, X.cl, X.nT, shF_top _ _, _, rfl, y, C, dz, _, _, rfl, hz, X.cl, X.nT, shF_top _ _, rfl, _, rfl, ?_⟩
  rw [dec_int, decide_eq_true rfl]
  refine ⟨_, rfl, p, C, dx, _, _, rfl, hp1, X.cl, X.nB, shF_bottom _ _, _, rfl, y, C, dz, _, _, rfl, hz, X.cl, X.nB, shF_bottom _ _, rfl, _, rfl, ?_⟩
  rw [dec_int, decide_eq_true rfl]
  refine ⟨_, rfl, p, C, dx, _, _, rfl, hp1, X.cl, X.nT, shF_top _ _, _, rfl, _, _, rfl, rfl, mulB (B.le B1 (Num.nt_le _ _ hb)) B2, _, rfl, p, C, dx, _, _, rfl, hp1, X.cl, X.nB, shF_bottom _ _, _, rfl, _, _, rfl, rfl, mulB (B.le B2 (Num.nb_le _ _ hb)) B1, rfl, ?_⟩
  rw [dec_int, Num.cross, decide_eq_true rfl]
  exact q H1 s1
end
end K01
set_option Elab.async false
set_option linter.all false
set_option maxRecDepth 100000
set_option maxHeartbeats 4000000
namespace K01
open PySem PySem.Spec PyProof.Rows L2 Com
/-! ### the law -/
def spLaw (K : PySem.W.Frag) : Sp := fun vs H Q _ => ∃ (a : Addr) (ns : List Int), vs = [.ref a] ∧ SqL K H a (ns.map V.int) ∧ ns.length ≤ 63 ∧ ∀ H', Q (.bl true) H'
theorem sqlS {K : PySem.W.Frag} {H H' : Hp} {a : Addr} {xs : List V} (h : SqL K H a xs) (e : Same H H') : SqL K H' a xs :=
  h.elim (fun h => .inl (h.elim (fun h => .inl (e _ _ h)) fun ⟨o, h⟩ => .inr ⟨o, e _ _ h⟩)) fun h => .inr h
theorem at_st {t : TS} {D : Ends} {σ σ' : L2.St} {H : Hp} (e : σ = σ') (h : t D σ' H) : t D σ H := by subst e; exact h
theorem at_hp {t : TS} {D : Ends} {σ : L2.St} {H H' : Hp} (e : H = H') (h : t D σ H') : t D σ H := by subst e; exact h
theorem dd (u v : Int) : (decide (u = u) && decide (v = v)) = true := by simp
theorem ten20 : 7 ≤ (10 : Int) ^ (20 : Int).toNat ∧ (10 : Int) ^ (20 : Int).toNat < 2 ^ 100 := by decide
theorem powC : CPow 10 20 := ⟨by decide, by decide, by decide⟩
/-- the facts of the drawn numbers -/
structure Nums (a b c d n : Int) : Prop where
  ba : B a 101
  bb : B b 101
  b0 : 0 < b
  bc : B c 205
  bdd : B d 205
  d0 : 0 < d
  bnn : B n 101
section
variable {a b c d n : Int} (N : Nums a b c d n)
include N
theorem Nums.bn : b ≠ 0 := by have := N.b0; omega
theorem Nums.dn : d ≠ 0 := by have := N.d0; omega
theorem Nums.t1 : B (Num.nt a b) 1000 := (B.le N.ba (Num.nt_le _ _ N.bn)).mono (by decide)
theorem Nums.u1 : B (Num.nb a b) 1000 := (B.le N.bb (Num.nb_le _ _ N.bn)).mono (by decide)
theorem Nums.t2 : B (Num.nt c d) 1000 := (B.le N.bc (Num.nt_le _ _ N.dn)).mono (by decide)
theorem Nums.u2 : B (Num.nb c d) 1000 := (B.le N.bdd (Num.nb_le _ _ N.dn)).mono (by decide)
theorem Nums.p1 : 0 < Num.nb a b := Num.nb_pos N.bn
theorem Nums.p2 : 0 < Num.nb c d := Num.nb_pos N.dn
theorem Nums.bd : b * d ≠ 0 := Num.mul_pos_ne N.b0 N.d0
theorem Nums.ad : B (a * d) 306 := N.ba.mul N.bdd
theorem Nums.cb : B (c * b) 306 := N.bc.mul N.bb
theorem Nums.bdB : B (b * d) 306 := N.bb.mul N.bdd
theorem Nums.nB : B n 1000 := N.bnn.mono (by decide)
theorem Nums.nbB : B (n * b) 202 := N.bnn.mul N.bb
theorem Nums.add : Num.nt (fAdd (Num.nt a b) (Num.nb a b) (Num.nt c d) (Num.nb c d)) (gMul (Num.nt a b) (Num.nb a b) (Num.nt c d) (Num.nb c d)) = Num.nt (a * d + c * b) (b * d) ∧ Num.nb (fAdd (Num.nt a b) (Num.nb a b) (Num.nt c d) (Num.nb c d)) (gMul (Num.nt a b) (Num.nb a b) (Num.nt c d) (Num.nb c d)) = Num.nb (a * d + c * b) (b * d) :=
  Num.add_of N.b0 N.d0 N.p1 N.p2 (Num.cross a b) (Num.cross c d)
theorem Nums.sub : Num.nt (fSub (Num.nt a b) (Num.nb a b) (Num.nt c d) (Num.nb c d)) (gMul (Num.nt a b) (Num.nb a b) (Num.nt c d) (Num.nb c d)) = Num.nt (a * d - c * b) (b * d) ∧ Num.nb (fSub (Num.nt a b) (Num.nb a b) (Num.nt c d) (Num.nb c d)) (gMul (Num.nt a b) (Num.nb a b) (Num.nt c d) (Num.nb c d)) = Num.nb (a * d - c * b) (b * d) := by
  have e : a * d - c * b = a * d + -c * b := by rw [Int.neg_mul, Int.sub_eq_add_neg]
  rw [e]
  refine Num.add_of N.b0 N.d0 N.p1 N.p2 (Num.cross a b) ?_
  rw [Int.neg_mul, Num.cross c d, Int.mul_neg]
theorem Nums.mul : Num.nt (fMul (Num.nt a b) (Num.nb a b) (Num.nt c d) (Num.nb c d)) (gMul (Num.nt a b) (Num.nb a b) (Num.nt c d) (Num.nb c d)) = Num.nt (a * c) (b * d) ∧ Num.nb (fMul (Num.nt a b) (Num.nb a b) (Num.nt c d) (Num.nb c d)) (gMul (Num.nt a b) (Num.nb a b) (Num.nt c d) (Num.nb c d)) = Num.nb (a * c) (b * d) :=
  Num.mul_of N.b0 N.d0 N.p1 N.p2 (Num.cross a b) (Num.cross c d)
theorem Nums.addI : Num.nt (fAdd (Num.nt a b) (Num.nb a b) n 1) (gMul (Num.nt a b) (Num.nb a b) n 1) = Num.nt (a + n * b) b ∧ Num.nb (fAdd (Num.nt a b) (Num.nb a b) n 1) (gMul (Num.nt a b) (Num.nb a b) n 1) = Num.nb (a + n * b) b := by
  have := Num.add_of (a := a) (b := b) (c := n) (d := 1) (n2 := n) (d2 := 1) N.b0 (by decide) N.p1 (by decide) (Num.cross a b) (by rw [Int.mul_one, Int.one_mul])
  rw [Int.mul_one a, Int.mul_one b] at this
  exact this
theorem Nums.subI : Num.nt (fSub (Num.nt a b) (Num.nb a b) n 1) (gMul (Num.nt a b) (Num.nb a b) n 1) = Num.nt (a - n * b) b ∧ Num.nb (fSub (Num.nt a b) (Num.nb a b) n 1) (gMul (Num.nt a b) (Num.nb a b) n 1) = Num.nb (a - n * b) b := by
  have := Num.add_of (a := a) (b := b) (c := -n) (d := 1) (n2 := -n) (d2 := 1) N.b0 (by decide) N.p1 (by decide) (Num.cross a b) (by rw [Int.mul_one, Int.one_mul])
  rw [Int.mul_one a, Int.mul_one b, Int.neg_mul n b, ← Int.sub_eq_add_neg] at this
  exact this
theorem Nums.mulI : Num.nt (fMul (Num.nt a b) (Num.nb a b) n 1) (gMul (Num.nt a b) (Num.nb a b) n 1) = Num.nt (a * n) b ∧ Num.nb (fMul (Num.nt a b) (Num.nb a b) n 1) (gMul (Num.nt a b) (Num.nb a b) n 1) = Num.nb (a * n) b := by
  have := Num.mul_of (a := a) (b := b) (c := n) (d := 1) (n2 := n) (d2 := 1) N.b0 (by decide) N.p1 (by decide) (Num.cross a b) (by rw [Int.mul_one, Int.one_mul])
  rw [Int.mul_one b] at this
  exact this
theorem Nums.lt : decide (Num.nt a b * Num.nb c d < Num.nt c d * Num.nb a b) = decide (a * d < c * b) := decide_eq_decide.mpr (Num.lt_of N.b0 N.d0 N.p1 N.p2 (Num.cross a b) (Num.cross c d))
theorem Nums.gt : decide (Num.nt c d * Num.nb a b < Num.nt a b * Num.nb c d) = decide (c * b < a * d) := decide_eq_decide.mpr (Num.lt_of N.d0 N.b0 N.p2 N.p1 (Num.cross c d) (Num.cross a b))
theorem Nums.ltI : decide (Num.nt a b * 1 < n * Num.nb a b) = decide (a < n * b) := by
  have := Num.lt_of (a := a) (b := b) (c := n) (d := 1) (n2 := n) (d2 := 1) N.b0 (by decide) N.p1 (by decide) (Num.cross a b) (by rw [Int.mul_one, Int.one_mul])
  rw [Int.mul_one a] at this
  exact decide_eq_decide.mpr this
theorem Nums.ltS : decide (Num.nt a b * Num.nb (a + 1) b < Num.nt (a + 1) b * Num.nb a b) = true := by
  refine decide_eq_true ((Num.lt_of N.b0 N.b0 N.p1 (Num.nb_pos N.bn) (Num.cross a b) (Num.cross (a + 1) b)).mpr ?_)
  rw [Int.add_mul, Int.one_mul]
  have := N.b0
  omega
theorem Nums.ng : Num.nt (-(Num.nt a b)) (Num.nb a b) = Num.nt (-a) b ∧ Num.nb (-(Num.nt a b)) (Num.nb a b) = Num.nb (-a) b := Num.neg_of N.b0 N.p1 (Num.cross a b)
theorem Nums.ab : Num.nt (absI (Num.nt a b)) (Num.nb a b) = Num.nt (absI a) b ∧ Num.nb (absI (Num.nt a b)) (Num.nb a b) = Num.nb (absI a) b := Num.abs_of N.b0 N.p1 (Num.cross a b)
end
/-- the five answers -/
def Nums.fl {a b c d n : Int} (_ : Nums a b c d n) : List V := [V.bl (decide (a * d < c * b)), V.bl (decide (c * b < a * d)), V.bl (decide (a < n * b)), V.bl false, V.bl true]
theorem Nums.at {a b c d n : Int} (N : Nums a b c d n) {j : Nat} (hj : j < 5) : ∃ y, N.fl[j]? = some (V.bl y) := by
  match j, hj with
  | 0, _ => exact ⟨_, rfl⟩
  | 1, _ => exact ⟨_, rfl⟩
  | 2, _ => exact ⟨_, rfl⟩
  | 3, _ => exact ⟨_, rfl⟩
  | 4, _ => exact ⟨_, rfl⟩
section
variable {P : Program} {w : World} {K : PySem.W.Frag} {mg : Str → Option Value} {base : Heap} {C : Addr}
abbrev s_law : Stmt := top 17
abbrev N_law : List Str := ["_law_script", "_law_flow_here", "_law_a", "_law_b", "_law_c", "_law_d", "_law_n", "_law_one", "_law_other", "_law_told", "_law_wanted", "_law_k"]
theorem sc_law : FnScope N_law ["_law_script"] (defScope s_law) := ⟨rfl, rfl, rfl, by decide +kernel, rfl, by decide +kernel, by decide +kernel⟩
theorem ok_law_fn (T : Blt mg) (X : ShT K mg C) (O_add : OpFacts K C "add") (O_sub : OpFacts K C "sub") (O_mul : OpFacts K C "mul") (hsi : PySem.W.subIn K (.ref C) (.type "int") = some false)
    (fa : ∃ g : Addr, PySem.W.findIn K (.ref C) (PySem.dunder "add") = some (some (.ref g))) (fm : ∃ g : Addr, PySem.W.findIn K (.ref C) (PySem.dunder "mul") = some (some (.ref g)))
    (D_flow : DefOk P w K mg base CX0 1 "_law_flow" (spFlow K)) (D_pick : DefOk P w K mg base CX0 1 "_law_pick" spPick) (D_small_or_great : DefOk P w K mg base CX0 2 "_law_small_or_great" spSmall) (D_signed : DefOk P w K mg base CX0 3 "_law_signed" spSigned)
    (D_is_flag : DefOk P w K mg base CX0 1 "_law_is_flag" spFlag) (D_is : DefOk P w K mg base CX0 4 "_law_is" (spIs C)) (M_Share : NewOk P w K mg base CX0 2 "Share" C (spInit C)) (M_eq : MethOk P w K mg base CX0 1 C "__eq__" (spEq C))
    (M_add : MethOk P w K mg base CX0 4 C "__add__" (spBin C fAdd gMul)) (M_radd : MethOk P w K mg base CX0 5 C "__radd__" (spBin C fAdd gMul)) (M_sub : MethOk P w K mg base CX0 5 C "__sub__" (spBin C fSub gMul))
    (M_mul : MethOk P w K mg base CX0 4 C "__mul__" (spBin C fMul gMul)) (M_rmul : MethOk P w K mg base CX0 5 C "__rmul__" (spBin C fMul gMul)) (M_neg : MethOk P w K mg base CX0 4 C "__neg__" (spUn C fun n => -n)) (M_abs : MethOk P w K mg base CX0 4 C "__abs__" (spUn C absI))
    (M_below : MethOk P w K mg base CX0 2 C "below" (spBelow C))
    {f : Addr} {fd : FuncData} (FF : Fun K "law" "law" s_law f fd) : FnOk P w K mg base CX0 9 f fd ["_law_script"] (spLaw K) := by
  refine FF.ok sc_law (fun vs H Q E h => ?_) (fun cdv A outer s H vs Q E hr h => ?_)
  · obtain ⟨a, ns, rfl, _⟩ := h
    rfl
  obtain ⟨a0, ns, rfl, hS, hl, q⟩ := h
  have g_Share := X.g_Share
  obtain ⟨ga, fa⟩ := fa
  obtain ⟨gm, fm⟩ := fm
  refine ⟨_, (pss_cons (ps_set (i := 1) sc_law.nd rfl (Or.inl rfl) (pe_def D_flow hr (by decide) pass0 (pa_cons (pv 0) (pa_cons pe_int pa_nil))))
  (pss_cons (ps_set (i := 2) sc_law.nd rfl (Or.inl rfl) (pe_def D_signed hr (by decide) pass0 (pa_cons (pv 1) (pa_cons (pe_op op_pow pe_int pe_int) pa_nil))))
  (pss_cons (ps_set (i := 3) sc_law.nd rfl (Or.inl rfl) (pe_op op_add pe_int (pe_def D_small_or_great hr (by decide) pass0 (pa_cons (pv 1) (pa_cons (pe_op op_pow pe_int pe_int) pa_nil)))))
  (pss_cons (ps_set (i := 1) sc_law.nd rfl (Or.inl rfl) (pe_def D_flow hr (by decide) pass0 (pa_cons (pv 0) (pa_cons pe_int pa_nil))))
  (pss_cons (ps_set (i := 4) sc_law.nd rfl (Or.inl rfl) (pe_def D_signed hr (by decide) pass0 (pa_cons (pv 1) (pa_cons (pe_op op_pow pe_int pe_int) pa_nil))))
  (pss_cons (ps_set (i := 5) sc_law.nd rfl (Or.inl rfl) (pe_op op_add pe_int (pe_def D_small_or_great hr (by decide) pass0 (pa_cons (pv 1) (pa_cons (pe_op op_pow pe_int pe_int) pa_nil)))))
  (pss_cons (ps_if (pt_cmpR op_eq (pe_def D_pick hr (by decide) pass0 (pa_cons (pv 1) (pa_cons pe_int pa_nil))) pe_int (nomark _))
    (pss_cons (ps_set (i := 4) sc_law.nd rfl (Or.inl rfl) (pe_op op_mulW (pv 2) (pv 5)))
    (pss_one (ps_set (i := 5) sc_law.nd rfl (Or.inl rfl) (pe_op op_mulW (pv 3) (pv 5)))))
    pss_nil)
  (pss_cons (ps_set (i := 6) sc_law.nd rfl (Or.inl rfl) (pe_def D_signed hr (by decide) pass0 (pa_cons (pe_def D_flow hr (by decide) pass0 (pa_cons (pv 0) (pa_cons pe_int pa_nil))) (pa_cons (pe_op op_pow pe_int pe_int) pa_nil))))
  (pss_cons (ps_set (i := 7) sc_law.nd rfl (Or.inl rfl) (pe_new M_Share hr (by decide) pass0 (pa_cons (pv 2) (pa_cons (pv 3) pa_nil))))
  (pss_cons (ps_set (i := 8) sc_law.nd rfl (Or.inl rfl) (pe_new M_Share hr (by decide) pass0 (pa_cons (pv 4) (pa_cons (pv 5) pa_nil))))
  (pss_cons (ps_if (PW.pt (pw_or (pt_not (pt_val (pe_def D_is hr (by decide) pass0 (pa_cons (pe_op (binO O_add M_add hr (by decide) pass0) (pv 7) (pv 8)) (pa_cons (pe_op op_add (pe_op op_mulW (pv 2) (pv 5)) (pe_op op_mulW (pv 4) (pv 3))) (pa_cons (pe_op op_mulW (pv 3) (pv 5)) pa_nil)))))) (pw_or1 (pt_not (pt_val (pe_def D_is hr (by decide) pass0 (pa_cons (pe_op (binO O_sub M_sub hr (by decide) pass0) (pv 7) (pv 8)) (pa_cons (pe_op op_sub (pe_op op_mulW (pv 2) (pv 5)) (pe_op op_mulW (pv 4) (pv 3))) (pa_cons (pe_op op_mulW (pv 3) (pv 5)) pa_nil)))))))))
    (pss_one (ps_ret pe_bl))
    pss_nil)
  (pss_cons (ps_if (PW.pt (pw_or (pt_not (pt_val (pe_def D_is hr (by decide) pass0 (pa_cons (pe_op (binO O_mul M_mul hr (by decide) pass0) (pv 7) (pv 8)) (pa_cons (pe_op op_mulW (pv 2) (pv 4)) (pa_cons (pe_op op_mulW (pv 3) (pv 5)) pa_nil)))))) (pw_or (pt_not (pt_val (pe_def D_is hr (by decide) pass0 (pa_cons (pe_un (negO M_neg hr (by decide) pass0) (pv 7)) (pa_cons (pe_un un_neg (pv 2)) (pa_cons (pv 3) pa_nil)))))) (pw_or1 (pt_not (pt_val (pe_def D_is hr (by decide) pass0 (pa_cons (pe_callB (cl_abs M_abs hr (by decide) pass0) (by rfl) T.z_abs (by decide +kernel) (pa_cons (pv 7) pa_nil)) (pa_cons (pe_callB call_abs (by rfl) T.z_abs (by decide +kernel) (pa_cons (pv 2) pa_nil)) (pa_cons (pv 3) pa_nil))))))))))
    (pss_one (ps_ret pe_bl))
    pss_nil)
  (pss_cons (ps_if (PW.pt (pw_or (pt_not (pt_val (pe_def D_is hr (by decide) pass0 (pa_cons (pe_op (binO O_add M_add hr (by decide) pass0) (pv 7) (pv 6)) (pa_cons (pe_op op_add (pv 2) (pe_op op_mulW (pv 6) (pv 3))) (pa_cons (pv 3) pa_nil)))))) (pw_or1 (pt_not (pt_val (pe_def D_is hr (by decide) pass0 (pa_cons (pe_op (Com.binI O_add.sf fa hsi M_radd hr (by decide) pass0 F.fills_int_add F.slot_int_add F.entry_int_add F.args_int_add_2 int_add_ins) (pv 6) (pv 7)) (pa_cons (pe_op op_add (pv 2) (pe_op op_mulW (pv 6) (pv 3))) (pa_cons (pv 3) pa_nil)))))))))
    (pss_one (ps_ret pe_bl))
    pss_nil)
  (pss_cons (ps_if (PW.pt (pw_or (pt_not (pt_val (pe_def D_is hr (by decide) pass0 (pa_cons (pe_op (binO O_sub M_sub hr (by decide) pass0) (pv 7) (pv 6)) (pa_cons (pe_op op_sub (pv 2) (pe_op op_mulW (pv 6) (pv 3))) (pa_cons (pv 3) pa_nil)))))) (pw_or (pt_not (pt_val (pe_def D_is hr (by decide) pass0 (pa_cons (pe_op (binO O_mul M_mul hr (by decide) pass0) (pv 7) (pv 6)) (pa_cons (pe_op op_mulW (pv 2) (pv 6)) (pa_cons (pv 3) pa_nil)))))) (pw_or1 (pt_not (pt_val (pe_def D_is hr (by decide) pass0 (pa_cons (pe_op (Com.binI O_mul.sf fm hsi M_rmul hr (by decide) pass0 F.fills_int_mul F.slot_int_mul F.entry_int_mul F.args_int_mul_2 int_mul_ins) (pv 6) (pv 7)) (pa_cons (pe_op op_mulW (pv 2) (pv 6)) (pa_cons (pv 3) pa_nil))))))))))
    (pss_one (ps_ret pe_bl))
    pss_nil)
  (pss_cons (ps_set (i := 9) sc_law.nd rfl (Or.inr rfl) (pe_lst (pa_cons (pe_mth (pv 7) X.cl M_below hr (by decide) pass0 (pa_cons (pv 8) pa_nil)) (pa_cons (pe_mth (pv 8) X.cl M_below hr (by decide) pass0 (pa_cons (pv 7) pa_nil)) (pa_cons (pe_mth (pv 7) X.cl M_below hr (by decide) pass0 (pa_cons (pv 6) pa_nil)) (pa_cons (pe_mth (pv 7) X.cl M_below hr (by decide) pass0 (pa_cons (pv 7) pa_nil)) (pa_cons (pe_mth (pv 7) X.cl M_below hr (by decide) pass0 (pa_cons (pe_new M_Share hr (by decide) pass0 (pa_cons (pe_op op_add (pv 2) pe_int) (pa_cons (pv 3) pa_nil))) pa_nil)) pa_nil)))))))
  (pss_cons (ps_set (i := 10) sc_law.nd rfl (Or.inr rfl) (pe_lst (pa_cons (pe_cmpR op_lt (pe_op op_mulW (pv 2) (pv 5)) (pe_op op_mulW (pv 4) (pv 3)) (nomark _)) (pa_cons (pe_cmpR op_lt (pe_op op_mulW (pv 4) (pv 3)) (pe_op op_mulW (pv 2) (pv 5)) (nomark _)) (pa_cons (pe_cmpR op_lt (pv 2) (pe_op op_mulW (pv 6) (pv 3)) (nomark _)) (pa_cons pe_bl (pa_cons pe_bl pa_nil)))))))
  (pss_cons (ps_if (pt_not (pt_val (pe_callB (cl_all K) (by rfl) T.z_all (by decide +kernel) (pa_cons (pe_lc (own := [("_law_k", 11)]) (g := gName 11) (tt := tYes) rfl sc_law.nd (pi_range1 (by rfl) T.z_range (pa_cons pe_int pa_nil)) (blkOk_by (N := N_law) (sc := defScope s_law) (by decide +kernel)) (fun _ _ _ _ _ => (pg_name (i := 11) sc_law.nd rfl (Or.inl rfl))) (fun _ _ _ _ _ => pts_nil) (fun _ _ _ _ _ => (pe_def D_is_flag hr (by decide) pass0 (pa_cons (pe_ix (ixL K) (pv 9) (pv 11) (fun _ _ => rfl)) (pa_cons (pe_ix (ixL K) (pv 10) (pv 11) (fun _ _ => rfl)) pa_nil))))) pa_nil))))
    (pss_one (ps_ret pe_bl))
    pss_nil)
  (pss_one (ps_ret (pe_and (pe_cmpR (eqO K M_eq hr (by decide) pass0) (pv 7) (pe_new M_Share hr (by decide) pass0 (pa_cons (pv 2) (pa_cons (pv 3) pa_nil))) (nomark _)) (pe_one (pe_cmpR (eqO K M_eq hr (by decide) pass0) (pv 8) (pe_new M_Share hr (by decide) pass0 (pa_cons (pv 4) (pa_cons (pv 5) pa_nil))) (nomark _))))))))))))))))))))))), ?_⟩
  obtain ⟨z7, z100⟩ := ten20
  refine ⟨_, rfl, a0, ns, 0, rfl, hS, hl, by omega, fun p0 H1 hp0 f1 b1 => ?_⟩
  refine ⟨_, rfl, _, _, rfl, rfl, powC, p0, _, rfl, f1, z7, z100, fun a H2 ha f2 b2 => ?_⟩
  refine ⟨_, rfl, _, _, rfl, rfl, powC, p0, _, rfl, f2, z7, z100, fun b' H3 b0' b1' f3 b3 => ⟨_, _, rfl, rfl, ?_⟩⟩
  have S3 : Same H H3 := (But.trans b1 (But.trans b2 b3)).same hp0
  refine ⟨_, rfl, a0, ns, 1, rfl, sqlS hS S3, hl, by omega, fun p1 H4 hp1 f4 b4 => ?_⟩
  refine ⟨_, rfl, _, _, rfl, rfl, powC, p1, _, rfl, f4, z7, z100, fun c' H5 hc' f5 b5 => ?_⟩
  refine ⟨_, rfl, _, _, rfl, rfl, powC, p1, _, rfl, f5, z7, z100, fun d' H6 d0' d1' f6 b6 => ⟨_, _, rfl, rfl, ?_⟩⟩
  refine ⟨_, rfl, p1, 4, rfl, f6, by decide, small200 (by decide), fun g H7 _ _ f7 b7 => ⟨rfl, _, rfl, ?_⟩⟩
  have S7 : Same H H7 := S3.trans ((But.trans b4 (But.trans b5 (But.trans b6 b7))).same hp1)
  clear b1 b2 b3 b4 b5 b6 b7 f1 f2 f3 f4 f5 f6 f7 S3
  have e100 : ∀ x : Int, 0 ≤ x → x < 10 ^ (20 : Int).toNat → B (1 + x) 100 ∧ 0 < 1 + x := fun x h1 h2 => by
    have k : (10 : Int) ^ (20 : Int).toNat = 100000000000000000000 := by decide
    rw [k] at h2
    refine ⟨?_, by omega⟩
    unfold B
    have : (2 : Nat) ^ 100 = 1267650600228229401496703205376 := by decide
    omega
  obtain ⟨hb, hb0⟩ := e100 b' b0' b1'
  obtain ⟨hd, hd0⟩ := e100 d' d0' d1'
  have NN1 : ∀ n, B n 101 → Nums a (1 + b') (a * (1 + d')) ((1 + b') * (1 + d')) n := fun n hn => ⟨ha, hb.mono (by decide), hb0, (ha.mul hd).mono (by decide), (hb.mul hd).mono (by decide), Int.mul_pos hb0 hd0, hn⟩
  have NN2 : ∀ n, B n 101 → Nums a (1 + b') c' (1 + d') n := fun n hn => ⟨ha, hb.mono (by decide), hb0, hc'.mono (by decide), hd.mono (by decide), hd0, hn⟩
  refine ifB (fun _ => ?_) (fun _ => ?_)
  · refine ⟨_, rfl, _, rfl, _, _, rfl, rfl, mulB ha hd, _, rfl, _, rfl, _, _, rfl, rfl, mulB hb hd, ?_⟩
    have NN := NN1
    refine ⟨_, rfl, a0, ns, 2, rfl, sqlS hS S7, hl, by omega, fun p2 H8 hp2 f8 b8 => ?_⟩
    refine ⟨_, _, rfl, rfl, powC, p2, _, rfl, f8, z7, z100, fun n H9 hn f9 b9 => ?_⟩
    have N := NN n hn
    clear NN NN1 NN2 f8 f9 b8 b9
    refine ⟨_, rfl, _, rfl, fun x dx0 nx ndx _ => new_sh N.bn (N.bb.mono (by decide)) nx ndx fun H10 ⟨dx, hx⟩ s1 => ⟨rfl, ?_⟩⟩
    refine ⟨_, rfl, _, rfl, fun y dy0 ny ndy _ => new_sh N.dn (N.bdd.mono (by decide)) ny ndy fun H11 ⟨dy, hy⟩ s2 => ⟨rfl, ?_⟩⟩
    have hx := s2 _ _ hx
    dsimp only [gName]
    refine at_st (σ' := [some (.ref a0), some (.ref p1), some (.int a), some (.int (1 + b')), some (.int _), some (.int _), some (.int n), some (.ref x), some (.ref y), none, none, none]) rfl ?_
    refine ⟨_, rfl, _, rfl, x, dx, _, rfl, hx, .inr ⟨y, dy, _, rfl, hy⟩, x, _, _, _, _, _, rfl, ⟨dx, hx⟩, .inl ⟨y, rfl, dy, hy⟩, N.p1, N.p2, N.t1, N.u1, N.t2, N.u2, fun r Ha er sr => ?_⟩
    rw [N.add.1, N.add.2] at er
    have hx := sr _ _ hx
    have hy := sr _ _ hy
    refine ⟨_, rfl, _, rfl, ?_⟩
    refine ⟨_, _, rfl, rfl, mulB N.ba N.bdd, ?_⟩
    refine ⟨_, rfl, _, rfl, ?_⟩
    refine ⟨_, _, rfl, rfl, mulB N.bc N.bb, ?_⟩
    refine ⟨_, _, rfl, rfl, ?_⟩
    refine ⟨_, rfl, _, rfl, ?_⟩
    refine ⟨_, _, rfl, rfl, mulB N.bb N.bdd, ?_⟩
    refine ⟨r, _, _, rfl, er, N.bd, (N.ad.add N.cb).mono (by decide), N.bdB.mono (by decide), fun Hb sb => ⟨_, rfl, ?_⟩⟩
    have hx := sb _ _ hx
    have hy := sb _ _ hy
    refine ⟨_, rfl, _, rfl, x, dx, _, rfl, hx, .inr ⟨y, dy, _, rfl, hy⟩, x, _, _, _, _, _, rfl, ⟨dx, hx⟩, .inl ⟨y, rfl, dy, hy⟩, N.p1, N.p2, N.t1, N.u1, N.t2, N.u2, fun r Ha er sr => ?_⟩
    rw [N.sub.1, N.sub.2] at er
    have hx := sr _ _ hx
    have hy := sr _ _ hy
    refine ⟨_, rfl, _, rfl, ?_⟩
    refine ⟨_, _, rfl, rfl, mulB N.ba N.bdd, ?_⟩
    refine ⟨_, rfl, _, rfl, ?_⟩
    refine ⟨_, _, rfl, rfl, mulB N.bc N.bb, ?_⟩
    refine ⟨_, _, rfl, rfl, ?_⟩
    refine ⟨_, rfl, _, rfl, ?_⟩
    refine ⟨_, _, rfl, rfl, mulB N.bb N.bdd, ?_⟩
    refine ⟨r, _, _, rfl, er, N.bd, (N.ad.sub N.cb).mono (by decide), N.bdB.mono (by decide), fun Hb sb => ⟨_, rfl, ?_⟩⟩
    have hx := sb _ _ hx
    have hy := sb _ _ hy
    refine ⟨_, rfl, _, rfl, x, dx, _, rfl, hx, .inr ⟨y, dy, _, rfl, hy⟩, x, _, _, _, _, _, rfl, ⟨dx, hx⟩, .inl ⟨y, rfl, dy, hy⟩, N.p1, N.p2, N.t1, N.u1, N.t2, N.u2, fun r Ha er sr => ?_⟩
    rw [N.mul.1, N.mul.2] at er
    have hx := sr _ _ hx
    have hy := sr _ _ hy
    refine ⟨_, rfl, _, rfl, ?_⟩
    refine ⟨_, _, rfl, rfl, mulB N.ba N.bc, ?_⟩
    refine ⟨_, rfl, _, rfl, ?_⟩
    refine ⟨_, _, rfl, rfl, mulB N.bb N.bdd, ?_⟩
    refine ⟨r, _, _, rfl, er, N.bd, (N.ba.mul N.bc).mono (by decide), N.bdB.mono (by decide), fun Hb sb => ⟨_, rfl, ?_⟩⟩
    have hx := sb _ _ hx
    have hy := sb _ _ hy
    refine ⟨_, rfl, x, dx, _, rfl, hx, x, _, _, rfl, ⟨dx, hx⟩, N.p1, N.t1, N.u1, fun r Ha er sr => ?_⟩
    dsimp only at er
    rw [N.ng.1, N.ng.2] at er
    have hx := sr _ _ hx
    have hy := sr _ _ hy
    refine ⟨_, rfl, _, rfl, _, rfl, r, _, _, rfl, er, N.bn, N.ba.neg.mono (by decide), N.bb.mono (by decide), fun Hb sb => ⟨_, rfl, ?_⟩⟩
    have hx := sb _ _ hx
    have hy := sb _ _ hy
    refine ⟨_, rfl, x, dx, _, rfl, hx, x, _, _, rfl, ⟨dx, hx⟩, N.p1, N.t1, N.u1, fun r Ha er sr => ?_⟩
    rw [N.ab.1, N.ab.2] at er
    have hx := sr _ _ hx
    have hy := sr _ _ hy
    refine ⟨_, rfl, _, rfl, _, rfl, r, _, _, rfl, er, N.bn, N.ba.abs.mono (by decide), N.bb.mono (by decide), fun Hb sb => ⟨_, rfl, ?_⟩⟩
    have hx := sb _ _ hx
    have hy := sb _ _ hy
    refine ⟨_, rfl, _, rfl, x, dx, _, rfl, hx, .inl ⟨_, rfl⟩, x, _, _, _, n, 1, rfl, ⟨dx, hx⟩, .inr ⟨rfl, rfl⟩, N.p1, by decide, N.t1, N.u1, N.nB, B.of (k := 1) (by decide) (by decide), fun r Ha er sr => ?_⟩
    rw [N.addI.1, N.addI.2] at er
    have hx := sr _ _ hx
    have hy := sr _ _ hy
    refine ⟨_, rfl, ?_⟩
    refine ⟨_, rfl, _, rfl, ?_⟩
    refine ⟨_, _, rfl, rfl, mulB N.bnn N.bb, ?_⟩
    refine ⟨_, _, rfl, rfl, _, rfl, r, _, _, rfl, er, N.bn, ((N.ba.mono (by decide)).add N.nbB).mono (by decide), N.bb.mono (by decide), fun Hb sb => ⟨_, rfl, ?_⟩⟩
    have hx := sb _ _ hx
    have hy := sb _ _ hy
    refine ⟨_, rfl, _, rfl, n, x, dx, _, rfl, rfl, hx, x, _, _, _, n, 1, rfl, ⟨dx, hx⟩, .inr ⟨rfl, rfl⟩, N.p1, by decide, N.t1, N.u1, N.nB, B.of (k := 1) (by decide) (by decide), fun r Ha er sr => ?_⟩
    rw [N.addI.1, N.addI.2] at er
    have hx := sr _ _ hx
    have hy := sr _ _ hy
    refine ⟨_, rfl, ?_⟩
    refine ⟨_, rfl, _, rfl, ?_⟩
    refine ⟨_, _, rfl, rfl, mulB N.bnn N.bb, ?_⟩
    refine ⟨_, _, rfl, rfl, _, rfl, r, _, _, rfl, er, N.bn, ((N.ba.mono (by decide)).add N.nbB).mono (by decide), N.bb.mono (by decide), fun Hb sb => ⟨_, rfl, ?_⟩⟩
    have hx := sb _ _ hx
    have hy := sb _ _ hy
    refine ⟨_, rfl, _, rfl, x, dx, _, rfl, hx, .inl ⟨_, rfl⟩, x, _, _, _, n, 1, rfl, ⟨dx, hx⟩, .inr ⟨rfl, rfl⟩, N.p1, by decide, N.t1, N.u1, N.nB, B.of (k := 1) (by decide) (by decide), fun r Ha er sr => ?_⟩
    rw [N.subI.1, N.subI.2] at er
    have hx := sr _ _ hx
    have hy := sr _ _ hy
    refine ⟨_, rfl, ?_⟩
    refine ⟨_, rfl, _, rfl, ?_⟩
    refine ⟨_, _, rfl, rfl, mulB N.bnn N.bb, ?_⟩
    refine ⟨_, _, rfl, rfl, _, rfl, r, _, _, rfl, er, N.bn, ((N.ba.mono (by decide)).sub N.nbB).mono (by decide), N.bb.mono (by decide), fun Hb sb => ⟨_, rfl, ?_⟩⟩
    have hx := sb _ _ hx
    have hy := sb _ _ hy
    refine ⟨_, rfl, _, rfl, x, dx, _, rfl, hx, .inl ⟨_, rfl⟩, x, _, _, _, n, 1, rfl, ⟨dx, hx⟩, .inr ⟨rfl, rfl⟩, N.p1, by decide, N.t1, N.u1, N.nB, B.of (k := 1) (by decide) (by decide), fun r Ha er sr => ?_⟩
    rw [N.mulI.1, N.mulI.2] at er
    have hx := sr _ _ hx
    have hy := sr _ _ hy
    refine ⟨_, rfl, _, rfl, ?_⟩
    refine ⟨_, _, rfl, rfl, mulB N.ba N.bnn, ?_⟩
    refine ⟨_, rfl, r, _, _, rfl, er, N.bn, (N.ba.mul N.bnn).mono (by decide), N.bb.mono (by decide), fun Hb sb => ⟨_, rfl, ?_⟩⟩
    have hx := sb _ _ hx
    have hy := sb _ _ hy
    refine ⟨_, rfl, _, rfl, n, x, dx, _, rfl, rfl, hx, x, _, _, _, n, 1, rfl, ⟨dx, hx⟩, .inr ⟨rfl, rfl⟩, N.p1, by decide, N.t1, N.u1, N.nB, B.of (k := 1) (by decide) (by decide), fun r Ha er sr => ?_⟩
    rw [N.mulI.1, N.mulI.2] at er
    have hx := sr _ _ hx
    have hy := sr _ _ hy
    refine ⟨_, rfl, _, rfl, ?_⟩
    refine ⟨_, _, rfl, rfl, mulB N.ba N.bnn, ?_⟩
    refine ⟨_, rfl, r, _, _, rfl, er, N.bn, (N.ba.mul N.bnn).mono (by decide), N.bb.mono (by decide), fun Hb sb => ⟨_, rfl, ?_⟩⟩
    have hx := sb _ _ hx
    have hy := sb _ _ hy
    have nb1 : (shF (Num.nt a (1 + b')) (Num.nb a (1 + b'))).lookup ("below" : Str) = none := shF_no _ _ (by decide +kernel) (by decide +kernel)
    have nb2 : ∀ u v, (shF u v).lookup ("below" : Str) = none := fun u v => shF_no _ _ (by decide +kernel) (by decide +kernel)
    refine ⟨_, rfl, x, dx, _, rfl, hx, nb1, _, rfl, x, _, _, _, _, _, rfl, ⟨dx, hx⟩, .inl ⟨y, rfl, dy, hy⟩, N.t1, N.u1, N.t2, N.u2, fun Hb sb => ?_⟩
    rw [N.lt]
    have hx := sb _ _ hx
    have hy := sb _ _ hy
    refine ⟨_, rfl, y, dy, _, rfl, hy, nb2 _ _, _, rfl, y, _, _, _, _, _, rfl, ⟨dy, hy⟩, .inl ⟨x, rfl, dx, hx⟩, N.t2, N.u2, N.t1, N.u1, fun Hb sb => ?_⟩
    rw [N.gt]
    have hx := sb _ _ hx
    have hy := sb _ _ hy
    refine ⟨_, rfl, x, dx, _, rfl, hx, nb1, _, rfl, x, _, _, _, n, 1, rfl, ⟨dx, hx⟩, .inr ⟨rfl, rfl⟩, N.t1, N.u1, N.nB, B.of (k := 1) (by decide) (by decide), fun Hb sb => ?_⟩
    rw [N.ltI]
    have hx := sb _ _ hx
    have hy := sb _ _ hy
    refine ⟨_, rfl, x, dx, _, rfl, hx, nb1, _, rfl, x, _, _, _, _, _, rfl, ⟨dx, hx⟩, .inl ⟨x, rfl, dx, hx⟩, N.t1, N.u1, N.t1, N.u1, fun Hb sb => ?_⟩
    rw [decide_eq_false (Int.lt_irrefl _)]
    have hx := sb _ _ hx
    have hy := sb _ _ hy
    have ba1 : B (a + 1) 102 := N.ba.add (B.of (k := 1) (by decide) (by decide))
    refine ⟨_, rfl, x, dx, _, rfl, hx, nb1, _, rfl, _, _, rfl, rfl, _, rfl, fun z dz0 nz ndz _ => new_sh N.bn (N.bb.mono (by decide)) nz ndz fun Ha ⟨dz, hz⟩ sr => ⟨rfl, ?_⟩⟩
    have hx := sr _ _ hx
    have hy := sr _ _ hy
    refine ⟨x, _, _, _, _, _, rfl, ⟨dx, hx⟩, .inl ⟨z, rfl, dz, hz⟩, N.t1, N.u1, (B.le ba1 (Num.nt_le _ _ N.bn)).mono (by decide), (B.le N.bb (Num.nb_le _ _ N.bn)).mono (by decide), fun Hb sb => ?_⟩
    rw [N.ltS]
    have hx := sb _ _ hx
    have hy := sb _ _ hy
    refine ⟨(by show 5 ≤ sizeLine; decide), fun L1 hL1 => ?_⟩
    have hx := Com.Same.upd (o := .lst N.fl) hL1 _ _ hx
    have hy := Com.Same.upd (o := .lst N.fl) hL1 _ _ hy
    have hT := upd_same (H := Hb) (a := L1) (o := .lst N.fl)
    dsimp only [gName]
    refine at_st (σ' := [some (.ref a0), some (.ref p1), some (.int a), some (.int (1 + b')), some (.int _), some (.int _), some (.int n), some (.ref x), some (.ref y), some (.ref L1), none, none]) rfl ?_
    refine at_hp (H' := upd Hb L1 (.lst N.fl)) rfl ?_
    generalize upd Hb L1 (.lst N.fl) = Hc at hx hy hT
    refine ⟨_, rfl, _, rfl, ?_⟩
    refine ⟨_, _, rfl, rfl, mulB N.ba N.bdd, ?_⟩
    refine ⟨_, rfl, _, rfl, ?_⟩
    refine ⟨_, _, rfl, rfl, mulB N.bc N.bb, ?_⟩
    refine ⟨_, _, rfl, rfl, ?_⟩
    refine ⟨_, rfl, _, rfl, ?_⟩
    refine ⟨_, _, rfl, rfl, mulB N.bc N.bb, ?_⟩
    refine ⟨_, rfl, _, rfl, ?_⟩
    refine ⟨_, _, rfl, rfl, mulB N.ba N.bdd, ?_⟩
    refine ⟨_, _, rfl, rfl, ?_⟩
    refine ⟨_, rfl, ?_⟩
    refine ⟨_, rfl, _, rfl, ?_⟩
    refine ⟨_, _, rfl, rfl, mulB N.bnn N.bb, ?_⟩
    refine ⟨_, _, rfl, rfl, ?_⟩
    refine ⟨(by show 5 ≤ sizeLine; decide), fun L2 hL2 => ?_⟩
    have hx := Com.Same.upd (o := .lst N.fl) hL2 _ _ hx
    have hy := Com.Same.upd (o := .lst N.fl) hL2 _ _ hy
    have hT := Com.Same.upd (o := .lst N.fl) hL2 _ _ hT
    have hW := upd_same (H := Hc) (a := L2) (o := .lst N.fl)
    dsimp only [gName]
    refine at_st (σ' := [some (.ref a0), some (.ref p1), some (.int a), some (.int (1 + b')), some (.int _), some (.int _), some (.int n), some (.ref x), some (.ref y), some (.ref L1), some (.ref L2), none]) rfl ?_
    refine at_hp (H' := upd Hc L2 (.lst N.fl)) rfl ?_
    generalize upd Hc L2 (.lst N.fl) = Hd at hx hy hT hW
    refine ⟨5, rfl, by omega, by omega, fun D hD => ?_⟩
    refine lp_range (lo := 0) (fun i H' => ∃ bs : List Bool, H' D = some (.lst (bs.map V.bl)) ∧ bs.length = i ∧ bs.all id = true ∧ Same Hd H') ⟨[], upd_same, rfl, rfl, Com.Same.upd hD⟩ ?_ ?_
    · rintro i H' hi ⟨bs, h1, h2, h3, h4⟩
      obtain ⟨v, hv⟩ := N.at hi
      have hv : atI N.fl (0 + (i : Int)) = some (V.bl v) := by rw [Int.zero_add]; exact atI_nat hv
      refine ⟨rfl, ?_⟩
      refine ⟨_, rfl, _, rfl, L1, _, _, _, rfl, rfl, SqL.of (h4 _ _ hT), hv, ?_⟩
      refine ⟨_, rfl, _, rfl, L2, _, _, _, rfl, rfl, SqL.of (h4 _ _ hW), hv, ?_⟩
      refine ⟨v, v, rfl, _, h1, ?_, bs ++ [decide (v = v)], ?_, ?_, ?_, ?_⟩
      · rw [List.length_map]
        exact small1000 (by omega)
      · rw [upd_same, List.map_append]
        rfl
      · rw [List.length_append, h2]
        rfl
      · rw [List.all_append, h3, decide_eq_true rfl]
        rfl
      · intro z o e
        rw [upd_ne (ne_of_none e hD)]
        exact h4 _ _ e
    rintro H' ⟨bs, h1, h2, h3, sr⟩
    refine ⟨D, bs, rfl, SqL.of h1, ?_⟩
    rw [h3]
    have hx := sr _ _ hx
    have hy := sr _ _ hy
    refine ⟨_, rfl, ?_⟩
    refine ⟨_, rfl, _, rfl, _, rfl, fun z dz0 nz ndz _ => new_sh N.bn (N.bb.mono (by decide)) nz ndz fun Ha ⟨dz, hz⟩ sr => ⟨rfl, ?_⟩⟩
    have hx := sr _ _ hx
    have hy := sr _ _ hy
    refine ⟨x, dx, _, .ref C, rfl, hx, shTy X hz, X.fS, x, z, _, _, _, _, rfl, ⟨dx, hx⟩, ⟨dz, hz⟩, ?_⟩
    rw [dd]
    refine ⟨_, rfl, ?_⟩
    refine ⟨_, rfl, _, rfl, _, rfl, fun z2 dz2 nz2 ndz2 _ => new_sh N.dn (N.bdd.mono (by decide)) nz2 ndz2 fun Hf ⟨dw, hw⟩ sr => ⟨rfl, ?_⟩⟩
    have hx := sr _ _ hx
    have hy := sr _ _ hy
    refine ⟨y, dy, _, .ref C, rfl, hy, shTy X hw, X.fS, y, z2, _, _, _, _, rfl, ⟨dy, hy⟩, ⟨dw, hw⟩, ?_⟩
    rw [dd]
    exact q _
  · have NN := NN2
    refine ⟨_, rfl, a0, ns, 2, rfl, sqlS hS S7, hl, by omega, fun p2 H8 hp2 f8 b8 => ?_⟩
    refine ⟨_, _, rfl, rfl, powC, p2, _, rfl, f8, z7, z100, fun n H9 hn f9 b9 => ?_⟩
    have N := NN n hn
    clear NN NN1 NN2 f8 f9 b8 b9
    refine ⟨_, rfl, _, rfl, fun x dx0 nx ndx _ => new_sh N.bn (N.bb.mono (by decide)) nx ndx fun H10 ⟨dx, hx⟩ s1 => ⟨rfl, ?_⟩⟩
    refine ⟨_, rfl, _, rfl, fun y dy0 ny ndy _ => new_sh N.dn (N.bdd.mono (by decide)) ny ndy fun H11 ⟨dy, hy⟩ s2 => ⟨rfl, ?_⟩⟩
    have hx := s2 _ _ hx
    dsimp only [gName]
    refine at_st (σ' := [some (.ref a0), some (.ref p1), some (.int a), some (.int (1 + b')), some (.int _), some (.int _), some (.int n), some (.ref x), some (.ref y), none, none, none]) rfl ?_
    refine ⟨_, rfl, _, rfl, x, dx, _, rfl, hx, .inr ⟨y, dy, _, rfl, hy⟩, x, _, _, _, _, _, rfl, ⟨dx, hx⟩, .inl ⟨y, rfl, dy, hy⟩, N.p1, N.p2, N.t1, N.u1, N.t2, N.u2, fun r Ha er sr => ?_⟩
    rw [N.add.1, N.add.2] at er
    have hx := sr _ _ hx
    have hy := sr _ _ hy
    refine ⟨_, rfl, _, rfl, ?_⟩
    refine ⟨_, _, rfl, rfl, mulB N.ba N.bdd, ?_⟩
    refine ⟨_, rfl, _, rfl, ?_⟩
    refine ⟨_, _, rfl, rfl, mulB N.bc N.bb, ?_⟩
    refine ⟨_, _, rfl, rfl, ?_⟩
    refine ⟨_, rfl, _, rfl, ?_⟩
    refine ⟨_, _, rfl, rfl, mulB N.bb N.bdd, ?_⟩
    refine ⟨r, _, _, rfl, er, N.bd, (N.ad.add N.cb).mono (by decide), N.bdB.mono (by decide), fun Hb sb => ⟨_, rfl, ?_⟩⟩
    have hx := sb _ _ hx
    have hy := sb _ _ hy
    refine ⟨_, rfl, _, rfl, x, dx, _, rfl, hx, .inr ⟨y, dy, _, rfl, hy⟩, x, _, _, _, _, _, rfl, ⟨dx, hx⟩, .inl ⟨y, rfl, dy, hy⟩, N.p1, N.p2, N.t1, N.u1, N.t2, N.u2, fun r Ha er sr => ?_⟩
    rw [N.sub.1, N.sub.2] at er
    have hx := sr _ _ hx
    have hy := sr _ _ hy
    refine ⟨_, rfl, _, rfl, ?_⟩
    refine ⟨_, _, rfl, rfl, mulB N.ba N.bdd, ?_⟩
    refine ⟨_, rfl, _, rfl, ?_⟩
    refine ⟨_, _, rfl, rfl, mulB N.bc N.bb, ?_⟩
    refine ⟨_, _, rfl, rfl, ?_⟩
    refine ⟨_, rfl, _, rfl, ?_⟩
    refine ⟨_, _, rfl, rfl, mulB N.bb N.bdd, ?_⟩
    refine ⟨r, _, _, rfl, er, N.bd, (N.ad.sub N.cb).mono (by decide), N.bdB.mono (by decide), fun Hb sb => ⟨_, rfl, ?_⟩⟩
    have hx := sb _ _ hx
    have hy := sb _ _ hy
    refine ⟨_, rfl, _, rfl, x, dx, _, rfl, hx, .inr ⟨y, dy, _, rfl, hy⟩, x, _, _, _, _, _, rfl, ⟨dx, hx⟩, .inl ⟨y, rfl, dy, hy⟩, N.p1, N.p2, N.t1, N.u1, N.t2, N.u2, fun r Ha er sr => ?_⟩
    rw [N.mul.1, N.mul.2] at er
    have hx := sr _ _ hx
    have hy := sr _ _ hy
    refine ⟨_, rfl, _, rfl, ?_⟩
    refine ⟨_, _, rfl, rfl, mulB N.ba N.bc, ?_⟩
    refine ⟨_, rfl, _, rfl, ?_⟩
    refine ⟨_, _, rfl, rfl, mulB N.bb N.bdd, ?_⟩
    refine ⟨r, _, _, rfl, er, N.bd, (N.ba.mul N.bc).mono (by decide), N.bdB.mono (by decide), fun Hb sb => ⟨_, rfl, ?_⟩⟩
    have hx := sb _ _ hx
    have hy := sb _ _ hy
    refine ⟨_, rfl, x, dx, _, rfl, hx, x, _, _, rfl, ⟨dx, hx⟩, N.p1, N.t1, N.u1, fun r Ha er sr => ?_⟩
    dsimp only at er
    rw [N.ng.1, N.ng.2] at er
    have hx := sr _ _ hx
    have hy := sr _ _ hy
    refine ⟨_, rfl, _, rfl, _, rfl, r, _, _, rfl, er, N.bn, N.ba.neg.mono (by decide), N.bb.mono (by decide), fun Hb sb => ⟨_, rfl, ?_⟩⟩
    have hx := sb _ _ hx
    have hy := sb _ _ hy
    refine ⟨_, rfl, x, dx, _, rfl, hx, x, _, _, rfl, ⟨dx, hx⟩, N.p1, N.t1, N.u1, fun r Ha er sr => ?_⟩
    rw [N.ab.1, N.ab.2] at er
    have hx := sr _ _ hx
    have hy := sr _ _ hy
    refine ⟨_, rfl, _, rfl, _, rfl, r, _, _, rfl, er, N.bn, N.ba.abs.mono (by decide), N.bb.mono (by decide), fun Hb sb => ⟨_, rfl, ?_⟩⟩
    have hx := sb _ _ hx
    have hy := sb _ _ hy
    refine ⟨_, rfl, _, rfl, x, dx, _, rfl, hx, .inl ⟨_, rfl⟩, x, _, _, _, n, 1, rfl, ⟨dx, hx⟩, .inr ⟨rfl, rfl⟩, N.p1, by decide, N.t1, N.u1, N.nB, B.of (k := 1) (by decide) (by decide), fun r Ha er sr => ?_⟩
    rw [N.addI.1, N.addI.2] at er
    have hx := sr _ _ hx
    have hy := sr _ _ hy
    refine ⟨_, rfl, ?_⟩
    refine ⟨_, rfl, _, rfl, ?_⟩
    refine ⟨_, _, rfl, rfl, mulB N.bnn N.bb, ?_⟩
    refine ⟨_, _, rfl, rfl, _, rfl, r, _, _, rfl, er, N.bn, ((N.ba.mono (by decide)).add N.nbB).mono (by decide), N.bb.mono (by decide), fun Hb sb => ⟨_, rfl, ?_⟩⟩
    have hx := sb _ _ hx
    have hy := sb _ _ hy
    refine ⟨_, rfl, _, rfl, n, x, dx, _, rfl, rfl, hx, x, _, _, _, n, 1, rfl, ⟨dx, hx⟩, .inr ⟨rfl, rfl⟩, N.p1, by decide, N.t1, N.u1, N.nB, B.of (k := 1) (by decide) (by decide), fun r Ha er sr => ?_⟩
    rw [N.addI.1, N.addI.2] at er
    have hx := sr _ _ hx
    have hy := sr _ _ hy
    refine ⟨_, rfl, ?_⟩
    refine ⟨_, rfl, _, rfl, ?_⟩
    refine ⟨_, _, rfl, rfl, mulB N.bnn N.bb, ?_⟩
    refine ⟨_, _, rfl, rfl, _, rfl, r, _, _, rfl, er, N.bn, ((N.ba.mono (by decide)).add N.nbB).mono (by decide), N.bb.mono (by decide), fun Hb sb => ⟨_, rfl, ?_⟩⟩
    have hx := sb _ _ hx
    have hy := sb _ _ hy
    refine ⟨_, rfl, _, rfl, x, dx, _, rfl, hx, .inl ⟨_, rfl⟩, x, _, _, _, n, 1, rfl, ⟨dx, hx⟩, .inr ⟨rfl, rfl⟩, N.p1, by decide, N.t1, N.u1, N.nB, B.of (k := 1) (by decide) (by decide), fun r Ha er sr => ?_⟩
    rw [N.subI.1, N.subI.2] at er
    have hx := sr _ _ hx
    have hy := sr _ _ hy
    refine ⟨_, rfl, ?_⟩
    refine ⟨_, rfl, _, rfl, ?_⟩
    refine ⟨_, _, rfl, rfl, mulB N.bnn N.bb, ?_⟩
    refine ⟨_, _, rfl, rfl, _, rfl, r, _, _, rfl, er, N.bn, ((N.ba.mono (by decide)).sub N.nbB).mono (by decide), N.bb.mono (by decide), fun Hb sb => ⟨_, rfl, ?_⟩⟩
    have hx := sb _ _ hx
    have hy := sb _ _ hy
    refine ⟨_, rfl, _, rfl, x, dx, _, rfl, hx, .inl ⟨_, rfl⟩, x, _, _, _, n, 1, rfl, ⟨dx, hx⟩, .inr ⟨rfl, rfl⟩, N.p1, by decide, N.t1, N.u1, N.nB, B.of (k := 1) (by decide) (by decide), fun r Ha er sr => ?_⟩
    rw [N.mulI.1, N.mulI.2] at er
    have hx := sr _ _ hx
    have hy := sr _ _ hy
    refine ⟨_, rfl, _, rfl, ?_⟩
    refine ⟨_, _, rfl, rfl, mulB N.ba N.bnn, ?_⟩
    refine ⟨_, rfl, r, _, _, rfl, er, N.bn, (N.ba.mul N.bnn).mono (by decide), N.bb.mono (by decide), fun Hb sb => ⟨_, rfl, ?_⟩⟩
    have hx := sb _ _ hx
    have hy := sb _ _ hy
    refine ⟨_, rfl, _, rfl, n, x, dx, _, rfl, rfl, hx, x, _, _, _, n, 1, rfl, ⟨dx, hx⟩, .inr ⟨rfl, rfl⟩, N.p1, by decide, N.t1, N.u1, N.nB, B.of (k := 1) (by decide) (by decide), fun r Ha er sr => ?_⟩
    rw [N.mulI.1, N.mulI.2] at er
    have hx := sr _ _ hx
    have hy := sr _ _ hy
    refine ⟨_, rfl, _, rfl, ?_⟩
    refine ⟨_, _, rfl, rfl, mulB N.ba N.bnn, ?_⟩
    refine ⟨_, rfl, r, _, _, rfl, er, N.bn, (N.ba.mul N.bnn).mono (by decide), N.bb.mono (by decide), fun Hb sb => ⟨_, rfl, ?_⟩⟩
    have hx := sb _ _ hx
    have hy := sb _ _ hy
    have nb1 : (shF (Num.nt a (1 + b')) (Num.nb a (1 + b'))).lookup ("below" : Str) = none := shF_no _ _ (by decide +kernel) (by decide +kernel)
    have nb2 : ∀ u v, (shF u v).lookup ("below" : Str) = none := fun u v => shF_no _ _ (by decide +kernel) (by decide +kernel)
    refine ⟨_, rfl, x, dx, _, rfl, hx, nb1, _, rfl, x, _, _, _, _, _, rfl, ⟨dx, hx⟩, .inl ⟨y, rfl, dy, hy⟩, N.t1, N.u1, N.t2, N.u2, fun Hb sb => ?_⟩
    rw [N.lt]
    have hx := sb _ _ hx
    have hy := sb _ _ hy
    refine ⟨_, rfl, y, dy, _, rfl, hy, nb2 _ _, _, rfl, y, _, _, _, _, _, rfl, ⟨dy, hy⟩, .inl ⟨x, rfl, dx, hx⟩, N.t2, N.u2, N.t1, N.u1, fun Hb sb => ?_⟩
    rw [N.gt]
    have hx := sb _ _ hx
    have hy := sb _ _ hy
    refine ⟨_, rfl, x, dx, _, rfl, hx, nb1, _, rfl, x, _, _, _, n, 1, rfl, ⟨dx, hx⟩, .inr ⟨rfl, rfl⟩, N.t1, N.u1, N.nB, B.of (k := 1) (by decide) (by decide), fun Hb sb => ?_⟩
    rw [N.ltI]
    have hx := sb _ _ hx
    have hy := sb _ _ hy
    refine ⟨_, rfl, x, dx, _, rfl, hx, nb1, _, rfl, x, _, _, _, _, _, rfl, ⟨dx, hx⟩, .inl ⟨x, rfl, dx, hx⟩, N.t1, N.u1, N.t1, N.u1, fun Hb sb => ?_⟩
    rw [decide_eq_false (Int.lt_irrefl _)]
    have hx := sb _ _ hx
    have hy := sb _ _ hy
    have ba1 : B (a + 1) 102 := N.ba.add (B.of (k := 1) (by decide) (by decide))
    refine ⟨_, rfl, x, dx, _, rfl, hx, nb1, _, rfl, _, _, rfl, rfl, _, rfl, fun z dz0 nz ndz _ => new_sh N.bn (N.bb.mono (by decide)) nz ndz fun Ha ⟨dz, hz⟩ sr => ⟨rfl, ?_⟩⟩
    have hx := sr _ _ hx
    have hy := sr _ _ hy
    refine ⟨x, _, _, _, _, _, rfl, ⟨dx, hx⟩, .inl ⟨z, rfl, dz, hz⟩, N.t1, N.u1, (B.le ba1 (Num.nt_le _ _ N.bn)).mono (by decide), (B.le N.bb (Num.nb_le _ _ N.bn)).mono (by decide), fun Hb sb => ?_⟩
    rw [N.ltS]
    have hx := sb _ _ hx
    have hy := sb _ _ hy
    refine ⟨(by show 5 ≤ sizeLine; decide), fun L1 hL1 => ?_⟩
    have hx := Com.Same.upd (o := .lst N.fl) hL1 _ _ hx
    have hy := Com.Same.upd (o := .lst N.fl) hL1 _ _ hy
    have hT := upd_same (H := Hb) (a := L1) (o := .lst N.fl)
    dsimp only [gName]
    refine at_st (σ' := [some (.ref a0), some (.ref p1), some (.int a), some (.int (1 + b')), some (.int _), some (.int _), some (.int n), some (.ref x), some (.ref y), some (.ref L1), none, none]) rfl ?_
    refine at_hp (H' := upd Hb L1 (.lst N.fl)) rfl ?_
    generalize upd Hb L1 (.lst N.fl) = Hc at hx hy hT
    refine ⟨_, rfl, _, rfl, ?_⟩
    refine ⟨_, _, rfl, rfl, mulB N.ba N.bdd, ?_⟩
    refine ⟨_, rfl, _, rfl, ?_⟩
    refine ⟨_, _, rfl, rfl, mulB N.bc N.bb, ?_⟩
    refine ⟨_, _, rfl, rfl, ?_⟩
    refine ⟨_, rfl, _, rfl, ?_⟩
    refine ⟨_, _, rfl, rfl, mulB N.bc N.bb, ?_⟩
    refine ⟨_, rfl, _, rfl, ?_⟩
    refine ⟨_, _, rfl, rfl, mulB N.ba N.bdd, ?_⟩
    refine ⟨_, _, rfl, rfl, ?_⟩
    refine ⟨_, rfl, ?_⟩
    refine ⟨_, rfl, _, rfl, ?_⟩
    refine ⟨_, _, rfl, rfl, mulB N.bnn N.bb, ?_⟩
    refine ⟨_, _, rfl, rfl, ?_⟩
    refine ⟨(by show 5 ≤ sizeLine; decide), fun L2 hL2 => ?_⟩
    have hx := Com.Same.upd (o := .lst N.fl) hL2 _ _ hx
    have hy := Com.Same.upd (o := .lst N.fl) hL2 _ _ hy
    have hT := Com.Same.upd (o := .lst N.fl) hL2 _ _ hT
    have hW := upd_same (H := Hc) (a := L2) (o := .lst N.fl)
    dsimp only [gName]
    refine at_st (σ' := [some (.ref a0), some (.ref p1), some (.int a), some (.int (1 + b')), some (.int _), some (.int _), some (.int n), some (.ref x), some (.ref y), some (.ref L1), some (.ref L2), none]) rfl ?_
    refine at_hp (H' := upd Hc L2 (.lst N.fl)) rfl ?_
    generalize upd Hc L2 (.lst N.fl) = Hd at hx hy hT hW
    refine ⟨5, rfl, by omega, by omega, fun D hD => ?_⟩
    refine lp_range (lo := 0) (fun i H' => ∃ bs : List Bool, H' D = some (.lst (bs.map V.bl)) ∧ bs.length = i ∧ bs.all id = true ∧ Same Hd H') ⟨[], upd_same, rfl, rfl, Com.Same.upd hD⟩ ?_ ?_
    · rintro i H' hi ⟨bs, h1, h2, h3, h4⟩
      obtain ⟨v, hv⟩ := N.at hi
      have hv : atI N.fl (0 + (i : Int)) = some (V.bl v) := by rw [Int.zero_add]; exact atI_nat hv
      refine ⟨rfl, ?_⟩
      refine ⟨_, rfl, _, rfl, L1, _, _, _, rfl, rfl, SqL.of (h4 _ _ hT), hv, ?_⟩
      refine ⟨_, rfl, _, rfl, L2, _, _, _, rfl, rfl, SqL.of (h4 _ _ hW), hv, ?_⟩
      refine ⟨v, v, rfl, _, h1, ?_, bs ++ [decide (v = v)], ?_, ?_, ?_, ?_⟩
      · rw [List.length_map]
        exact small1000 (by omega)
      · rw [upd_same, List.map_append]
        rfl
      · rw [List.length_append, h2]
        rfl
      · rw [List.all_append, h3, decide_eq_true rfl]
        rfl
      · intro z o e
        rw [upd_ne (ne_of_none e hD)]
        exact h4 _ _ e
    rintro H' ⟨bs, h1, h2, h3, sr⟩
    refine ⟨D, bs, rfl, SqL.of h1, ?_⟩
    rw [h3]
    have hx := sr _ _ hx
    have hy := sr _ _ hy
    refine ⟨_, rfl, ?_⟩
    refine ⟨_, rfl, _, rfl, _, rfl, fun z dz0 nz ndz _ => new_sh N.bn (N.bb.mono (by decide)) nz ndz fun Ha ⟨dz, hz⟩ sr => ⟨rfl, ?_⟩⟩
    have hx := sr _ _ hx
    have hy := sr _ _ hy
    refine ⟨x, dx, _, .ref C, rfl, hx, shTy X hz, X.fS, x, z, _, _, _, _, rfl, ⟨dx, hx⟩, ⟨dz, hz⟩, ?_⟩
    rw [dd]
    refine ⟨_, rfl, ?_⟩
    refine ⟨_, rfl, _, rfl, _, rfl, fun z2 dz2 nz2 ndz2 _ => new_sh N.dn (N.bdd.mono (by decide)) nz2 ndz2 fun Hf ⟨dw, hw⟩ sr => ⟨rfl, ?_⟩⟩
    have hx := sr _ _ hx
    have hy := sr _ _ hy
    refine ⟨y, dy, _, .ref C, rfl, hy, shTy X hw, X.fS, y, z2, _, _, _, _, rfl, ⟨dy, hy⟩, ⟨dw, hw⟩, ?_⟩
    rw [dd]
    exact q _
end
end K01
set_option Elab.async false
set_option linter.all false
set_option maxRecDepth 100000
set_option maxHeartbeats 4000000
namespace K01
open PySem PySem.Spec PyProof.Rows L2 Com
/-! ### what the top has made; the end -/
theorem all_mk {P : Program} {w : World} {K : PySem.W.Frag} {h : Heap} {mg : Str → Option Value} {fa : Addr} (X : K.In h) (G : h.Ns mainGlobals mg) (hfa : mg "law" = some (.ref fa))
    {f_is_plain_int : Addr} {od_is_plain_int an_is_plain_int : Option Addr} {sl_is_plain_int : Array (Option Value)} {oc_is_plain_int kV_is_plain_int dc_is_plain_int pm_is_plain_int cd_is_plain_int ct_is_plain_int : Value}
    {f_is_operand : Addr} {od_is_operand an_is_operand : Option Addr} {sl_is_operand : Array (Option Value)} {oc_is_operand kV_is_operand dc_is_operand pm_is_operand cd_is_operand ct_is_operand : Value}
    {f_parts : Addr} {od_parts an_parts : Option Addr} {sl_parts : Array (Option Value)} {oc_parts kV_parts dc_parts pm_parts cd_parts ct_parts : Value}
    {f_flow : Addr} {od_flow an_flow : Option Addr} {sl_flow : Array (Option Value)} {oc_flow kV_flow dc_flow pm_flow cd_flow ct_flow : Value}
    {f_pick : Addr} {od_pick an_pick : Option Addr} {sl_pick : Array (Option Value)} {oc_pick kV_pick dc_pick pm_pick cd_pick ct_pick : Value}
    {f_small_or_great : Addr} {od_small_or_great an_small_or_great : Option Addr} {sl_small_or_great : Array (Option Value)} {oc_small_or_great kV_small_or_great dc_small_or_great pm_small_or_great cd_small_or_great ct_small_or_great : Value}
    {f_signed : Addr} {od_signed an_signed : Option Addr} {sl_signed : Array (Option Value)} {oc_signed kV_signed dc_signed pm_signed cd_signed ct_signed : Value}
    {f_is_flag : Addr} {od_is_flag an_is_flag : Option Addr} {sl_is_flag : Array (Option Value)} {oc_is_flag kV_is_flag dc_is_flag pm_is_flag cd_is_flag ct_is_flag : Value}
    {f_is : Addr} {od_is an_is : Option Addr} {sl_is : Array (Option Value)} {oc_is kV_is dc_is pm_is cd_is ct_is : Value}
    {f_law : Addr} {od_law an_law : Option Addr} {sl_law : Array (Option Value)} {oc_law kV_law dc_law pm_law cd_law ct_law : Value}
    {f_Share_eq : Addr} {od_Share_eq an_Share_eq : Option Addr} {sl_Share_eq : Array (Option Value)} {oc_Share_eq kV_Share_eq dc_Share_eq pm_Share_eq cd_Share_eq ct_Share_eq : Value}
    {f_Share_add : Addr} {od_Share_add an_Share_add : Option Addr} {sl_Share_add : Array (Option Value)} {oc_Share_add kV_Share_add dc_Share_add pm_Share_add cd_Share_add ct_Share_add : Value}
    {f_Share_radd : Addr} {od_Share_radd an_Share_radd : Option Addr} {sl_Share_radd : Array (Option Value)} {oc_Share_radd kV_Share_radd dc_Share_radd pm_Share_radd cd_Share_radd ct_Share_radd : Value}
    {f_Share_sub : Addr} {od_Share_sub an_Share_sub : Option Addr} {sl_Share_sub : Array (Option Value)} {oc_Share_sub kV_Share_sub dc_Share_sub pm_Share_sub cd_Share_sub ct_Share_sub : Value}
    {f_Share_mul : Addr} {od_Share_mul an_Share_mul : Option Addr} {sl_Share_mul : Array (Option Value)} {oc_Share_mul kV_Share_mul dc_Share_mul pm_Share_mul cd_Share_mul ct_Share_mul : Value}
    {f_Share_rmul : Addr} {od_Share_rmul an_Share_rmul : Option Addr} {sl_Share_rmul : Array (Option Value)} {oc_Share_rmul kV_Share_rmul dc_Share_rmul pm_Share_rmul cd_Share_rmul ct_Share_rmul : Value}
    {f_Share_neg : Addr} {od_Share_neg an_Share_neg : Option Addr} {sl_Share_neg : Array (Option Value)} {oc_Share_neg kV_Share_neg dc_Share_neg pm_Share_neg cd_Share_neg ct_Share_neg : Value}
    {f_Share_abs : Addr} {od_Share_abs an_Share_abs : Option Addr} {sl_Share_abs : Array (Option Value)} {oc_Share_abs kV_Share_abs dc_Share_abs pm_Share_abs cd_Share_abs ct_Share_abs : Value}
    {f_Share_below : Addr} {od_Share_below an_Share_below : Option Addr} {sl_Share_below : Array (Option Value)} {oc_Share_below kV_Share_below dc_Share_below pm_Share_below cd_Share_below ct_Share_below : Value}
    {C_Share : Addr}
    {f_i T_i : Addr} {od_i an_i odT : Option Addr} {sl_i slT : Array (Option Value)} {oc_i kV_i dc_i pm_i cd_i ct_i ocT : Value} {tk : Tok} {nTt : Nat} {io_add ir_add io_sub ir_sub io_mul ir_mul : Option Value}
    (a_Share : PySem.W.nsIn K mainGlobals "Share" = some (some (.ref C_Share)))
    (a_is_plain_int : PySem.W.nsIn K mainGlobals "is_plain_int" = some (some (.ref f_is_plain_int)))
    (l_is_plain_int : K.lookup f_is_plain_int = some ⟨oc_is_plain_int, od_is_plain_int, .func (PySem.W.fnOf "is_plain_int" "is_plain_int" (defArgs s_is_plain_int) (defBody s_is_plain_int) (defScope s_is_plain_int) .none kV_is_plain_int dc_is_plain_int pm_is_plain_int an_is_plain_int cd_is_plain_int ct_is_plain_int), sl_is_plain_int⟩)
    (c_is_plain_int : PySem.W.codeIn K cd_is_plain_int "is_plain_int" = true)
    (k_is_plain_int : PySem.W.keepIn K (.ref f_is_plain_int) = true)
    (a_is_operand : PySem.W.nsIn K mainGlobals "_is_operand" = some (some (.ref f_is_operand)))
    (l_is_operand : K.lookup f_is_operand = some ⟨oc_is_operand, od_is_operand, .func (PySem.W.fnOf "_is_operand" "_is_operand" (defArgs s_is_operand) (defBody s_is_operand) (defScope s_is_operand) .none kV_is_operand dc_is_operand pm_is_operand an_is_operand cd_is_operand ct_is_operand), sl_is_operand⟩)
    (c_is_operand : PySem.W.codeIn K cd_is_operand "_is_operand" = true)
    (k_is_operand : PySem.W.keepIn K (.ref f_is_operand) = true)
    (a_parts : PySem.W.nsIn K mainGlobals "_parts" = some (some (.ref f_parts)))
    (l_parts : K.lookup f_parts = some ⟨oc_parts, od_parts, .func (PySem.W.fnOf "_parts" "_parts" (defArgs s_parts) (defBody s_parts) (defScope s_parts) .none kV_parts dc_parts pm_parts an_parts cd_parts ct_parts), sl_parts⟩)
    (c_parts : PySem.W.codeIn K cd_parts "_parts" = true)
    (k_parts : PySem.W.keepIn K (.ref f_parts) = true)
    (a_flow : PySem.W.nsIn K mainGlobals "_law_flow" = some (some (.ref f_flow)))
    (l_flow : K.lookup f_flow = some ⟨oc_flow, od_flow, .func (PySem.W.fnOf "_law_flow" "_law_flow" (defArgs s_flow) (defBody s_flow) (defScope s_flow) .none kV_flow dc_flow pm_flow an_flow cd_flow ct_flow), sl_flow⟩)
    (c_flow : PySem.W.codeIn K cd_flow "_law_flow" = true)
    (k_flow : PySem.W.keepIn K (.ref f_flow) = true)
    (a_pick : PySem.W.nsIn K mainGlobals "_law_pick" = some (some (.ref f_pick)))
    (l_pick : K.lookup f_pick = some ⟨oc_pick, od_pick, .func (PySem.W.fnOf "_law_pick" "_law_pick" (defArgs s_pick) (defBody s_pick) (defScope s_pick) .none kV_pick dc_pick pm_pick an_pick cd_pick ct_pick), sl_pick⟩)
    (c_pick : PySem.W.codeIn K cd_pick "_law_pick" = true)
    (k_pick : PySem.W.keepIn K (.ref f_pick) = true)
    (a_small_or_great : PySem.W.nsIn K mainGlobals "_law_small_or_great" = some (some (.ref f_small_or_great)))
    (l_small_or_great : K.lookup f_small_or_great = some ⟨oc_small_or_great, od_small_or_great, .func (PySem.W.fnOf "_law_small_or_great" "_law_small_or_great" (defArgs s_small_or_great) (defBody s_small_or_great) (defScope s_small_or_great) .none kV_small_or_great dc_small_or_great pm_small_or_great an_small_or_great cd_small_or_great ct_small_or_great), sl_small_or_great⟩)
    (c_small_or_great : PySem.W.codeIn K cd_small_or_great "_law_small_or_great" = true)
    (k_small_or_great : PySem.W.keepIn K (.ref f_small_or_great) = true)
    (a_signed : PySem.W.nsIn K mainGlobals "_law_signed" = some (some (.ref f_signed)))
    (l_signed : K.lookup f_signed = some ⟨oc_signed, od_signed, .func (PySem.W.fnOf "_law_signed" "_law_signed" (defArgs s_signed) (defBody s_signed) (defScope s_signed) .none kV_signed dc_signed pm_signed an_signed cd_signed ct_signed), sl_signed⟩)
    (c_signed : PySem.W.codeIn K cd_signed "_law_signed" = true)
    (k_signed : PySem.W.keepIn K (.ref f_signed) = true)
    (a_is_flag : PySem.W.nsIn K mainGlobals "_law_is_flag" = some (some (.ref f_is_flag)))
    (l_is_flag : K.lookup f_is_flag = some ⟨oc_is_flag, od_is_flag, .func (PySem.W.fnOf "_law_is_flag" "_law_is_flag" (defArgs s_is_flag) (defBody s_is_flag) (defScope s_is_flag) .none kV_is_flag dc_is_flag pm_is_flag an_is_flag cd_is_flag ct_is_flag), sl_is_flag⟩)
    (c_is_flag : PySem.W.codeIn K cd_is_flag "_law_is_flag" = true)
    (k_is_flag : PySem.W.keepIn K (.ref f_is_flag) = true)
    (a_is : PySem.W.nsIn K mainGlobals "_law_is" = some (some (.ref f_is)))
    (l_is : K.lookup f_is = some ⟨oc_is, od_is, .func (PySem.W.fnOf "_law_is" "_law_is" (defArgs s_is) (defBody s_is) (defScope s_is) .none kV_is dc_is pm_is an_is cd_is ct_is), sl_is⟩)
    (c_is : PySem.W.codeIn K cd_is "_law_is" = true)
    (k_is : PySem.W.keepIn K (.ref f_is) = true)
    (a_law : PySem.W.nsIn K mainGlobals "law" = some (some (.ref f_law)))
    (l_law : K.lookup f_law = some ⟨oc_law, od_law, .func (PySem.W.fnOf "law" "law" (defArgs s_law) (defBody s_law) (defScope s_law) .none kV_law dc_law pm_law an_law cd_law ct_law), sl_law⟩)
    (c_law : PySem.W.codeIn K cd_law "law" = true)
    (k_law : PySem.W.keepIn K (.ref f_law) = true)
    (a_Share_eq : PySem.W.findIn K (.ref C_Share) "__eq__" = some (some (.ref f_Share_eq)))
    (i_Share_eq : PySem.W.isFn K (.ref f_Share_eq) = true)
    (l_Share_eq : K.lookup f_Share_eq = some ⟨oc_Share_eq, od_Share_eq, .func (PySem.W.fnOf "__eq__" "Share.__eq__" (defArgs s_Share___eq) (defBody s_Share___eq) (defScope s_Share___eq) .none kV_Share_eq dc_Share_eq pm_Share_eq an_Share_eq cd_Share_eq ct_Share_eq), sl_Share_eq⟩)
    (c_Share_eq : PySem.W.codeIn K cd_Share_eq "Share.__eq__" = true)
    (k_Share_eq : PySem.W.keepIn K (.ref f_Share_eq) = true)
    (a_Share_add : PySem.W.findIn K (.ref C_Share) "__add__" = some (some (.ref f_Share_add)))
    (i_Share_add : PySem.W.isFn K (.ref f_Share_add) = true)
    (l_Share_add : K.lookup f_Share_add = some ⟨oc_Share_add, od_Share_add, .func (PySem.W.fnOf "__add__" "Share.__add__" (defArgs s_Share___add) (defBody s_Share___add) (defScope s_Share___add) .none kV_Share_add dc_Share_add pm_Share_add an_Share_add cd_Share_add ct_Share_add), sl_Share_add⟩)
    (c_Share_add : PySem.W.codeIn K cd_Share_add "Share.__add__" = true)
    (k_Share_add : PySem.W.keepIn K (.ref f_Share_add) = true)
    (a_Share_radd : PySem.W.findIn K (.ref C_Share) "__radd__" = some (some (.ref f_Share_radd)))
    (i_Share_radd : PySem.W.isFn K (.ref f_Share_radd) = true)
    (l_Share_radd : K.lookup f_Share_radd = some ⟨oc_Share_radd, od_Share_radd, .func (PySem.W.fnOf "__radd__" "Share.__radd__" (defArgs s_Share___radd) (defBody s_Share___radd) (defScope s_Share___radd) .none kV_Share_radd dc_Share_radd pm_Share_radd an_Share_radd cd_Share_radd ct_Share_radd), sl_Share_radd⟩)
    (c_Share_radd : PySem.W.codeIn K cd_Share_radd "Share.__radd__" = true)
    (k_Share_radd : PySem.W.keepIn K (.ref f_Share_radd) = true)
    (a_Share_sub : PySem.W.findIn K (.ref C_Share) "__sub__" = some (some (.ref f_Share_sub)))
    (i_Share_sub : PySem.W.isFn K (.ref f_Share_sub) = true)
    (l_Share_sub : K.lookup f_Share_sub = some ⟨oc_Share_sub, od_Share_sub, .func (PySem.W.fnOf "__sub__" "Share.__sub__" (defArgs s_Share___sub) (defBody s_Share___sub) (defScope s_Share___sub) .none kV_Share_sub dc_Share_sub pm_Share_sub an_Share_sub cd_Share_sub ct_Share_sub), sl_Share_sub⟩)
    (c_Share_sub : PySem.W.codeIn K cd_Share_sub "Share.__sub__" = true)
    (k_Share_sub : PySem.W.keepIn K (.ref f_Share_sub) = true)
    (a_Share_mul : PySem.W.findIn K (.ref C_Share) "__mul__" = some (some (.ref f_Share_mul)))
    (i_Share_mul : PySem.W.isFn K (.ref f_Share_mul) = true)
    (l_Share_mul : K.lookup f_Share_mul = some ⟨oc_Share_mul, od_Share_mul, .func (PySem.W.fnOf "__mul__" "Share.__mul__" (defArgs s_Share___mul) (defBody s_Share___mul) (defScope s_Share___mul) .none kV_Share_mul dc_Share_mul pm_Share_mul an_Share_mul cd_Share_mul ct_Share_mul), sl_Share_mul⟩)
    (c_Share_mul : PySem.W.codeIn K cd_Share_mul "Share.__mul__" = true)
    (k_Share_mul : PySem.W.keepIn K (.ref f_Share_mul) = true)
    (a_Share_rmul : PySem.W.findIn K (.ref C_Share) "__rmul__" = some (some (.ref f_Share_rmul)))
    (i_Share_rmul : PySem.W.isFn K (.ref f_Share_rmul) = true)
    (l_Share_rmul : K.lookup f_Share_rmul = some ⟨oc_Share_rmul, od_Share_rmul, .func (PySem.W.fnOf "__rmul__" "Share.__rmul__" (defArgs s_Share___rmul) (defBody s_Share___rmul) (defScope s_Share___rmul) .none kV_Share_rmul dc_Share_rmul pm_Share_rmul an_Share_rmul cd_Share_rmul ct_Share_rmul), sl_Share_rmul⟩)
    (c_Share_rmul : PySem.W.codeIn K cd_Share_rmul "Share.__rmul__" = true)
    (k_Share_rmul : PySem.W.keepIn K (.ref f_Share_rmul) = true)
    (a_Share_neg : PySem.W.findIn K (.ref C_Share) "__neg__" = some (some (.ref f_Share_neg)))
    (i_Share_neg : PySem.W.isFn K (.ref f_Share_neg) = true)
    (l_Share_neg : K.lookup f_Share_neg = some ⟨oc_Share_neg, od_Share_neg, .func (PySem.W.fnOf "__neg__" "Share.__neg__" (defArgs s_Share___neg) (defBody s_Share___neg) (defScope s_Share___neg) .none kV_Share_neg dc_Share_neg pm_Share_neg an_Share_neg cd_Share_neg ct_Share_neg), sl_Share_neg⟩)
    (c_Share_neg : PySem.W.codeIn K cd_Share_neg "Share.__neg__" = true)
    (k_Share_neg : PySem.W.keepIn K (.ref f_Share_neg) = true)
    (a_Share_abs : PySem.W.findIn K (.ref C_Share) "__abs__" = some (some (.ref f_Share_abs)))
    (i_Share_abs : PySem.W.isFn K (.ref f_Share_abs) = true)
    (l_Share_abs : K.lookup f_Share_abs = some ⟨oc_Share_abs, od_Share_abs, .func (PySem.W.fnOf "__abs__" "Share.__abs__" (defArgs s_Share___abs) (defBody s_Share___abs) (defScope s_Share___abs) .none kV_Share_abs dc_Share_abs pm_Share_abs an_Share_abs cd_Share_abs ct_Share_abs), sl_Share_abs⟩)
    (c_Share_abs : PySem.W.codeIn K cd_Share_abs "Share.__abs__" = true)
    (k_Share_abs : PySem.W.keepIn K (.ref f_Share_abs) = true)
    (a_Share_below : PySem.W.findIn K (.ref C_Share) "below" = some (some (.ref f_Share_below)))
    (i_Share_below : PySem.W.isFn K (.ref f_Share_below) = true)
    (l_Share_below : K.lookup f_Share_below = some ⟨oc_Share_below, od_Share_below, .func (PySem.W.fnOf "below" "Share.below" (defArgs s_Share_below) (defBody s_Share_below) (defScope s_Share_below) .none kV_Share_below dc_Share_below pm_Share_below an_Share_below cd_Share_below ct_Share_below), sl_Share_below⟩)
    (c_Share_below : PySem.W.codeIn K cd_Share_below "Share.below" = true)
    (k_Share_below : PySem.W.keepIn K (.ref f_Share_below) = true)
    (pg : PySem.W.plainGet K C_Share Str.empty = true)
    (hd : PySem.W.hasDictIn K C_Share = true)
    (po : PySem.W.plainOver K C_Share = true)
    (sa : PySem.W.findIn K (.ref C_Share) "__setattr__" = some (some (.builtin "object.__setattr__")))
    (mk : PySem.W.makesIn K C_Share = true)
    (kc : PySem.W.keepIn K (.ref C_Share) = true)
    (nT : PySem.W.findIn K (.ref C_Share) "top" = some none)
    (nB : PySem.W.findIn K (.ref C_Share) "bottom" = some none)
    (ca : PySem.W.findIn K (.ref C_Share) "__class__" = some (some (.builtin "object.__class__")))
    (cn : PySem.W.specialIn K (.builtin "object.__class__") "__get__" = some (some (.builtin "getset_descriptor.__get__")))
    (ct : PySem.W.takesIn K (.builtin "object.__class__") = some true)
    (cm : PySem.W.mroIn K C_Share (.type "object") = some true)
    (ic : PySem.W.isClsIn K C_Share = true)
    (ty : PySem.W.typeIn K (.ref C_Share) = some (.type "type"))
    (sI : PySem.W.subIn K (.type "int") (.ref C_Share) = some false)
    (fS : PySem.W.notFirst K C_Share (.ref C_Share) = true)
    (i_a : PySem.W.findIn K (.ref C_Share) "__init__" = some (some (.ref f_i)))
    (i_f : PySem.W.isFn K (.ref f_i) = true)
    (i_l : K.lookup f_i = some ⟨oc_i, od_i, .func (PySem.W.fnOf "__init__" "Share.__init__" (defArgs s_Share___init) (defBody s_Share___init) (defScope s_Share___init) (.ref T_i) kV_i dc_i pm_i an_i cd_i ct_i), sl_i⟩)
    (i_c : PySem.W.codeIn K cd_i "Share.__init__" = true)
    (i_k : PySem.W.keepIn K (.ref f_i) = true)
    (i_t : K.lookup T_i = some ⟨ocT, odT, .seq #[.int 1 tk] nTt, slT⟩)
    (sf : PySem.W.selfFirst K C_Share = true)
    (r_sub : PySem.W.findIn K (.ref C_Share) "__rsub__" = some none)
    (x_add : PySem.W.findIn K (.type "int") "__add__" = some io_add)
    (y_add : PySem.W.findIn K (.type "int") "__radd__" = some ir_add)
    (x_sub : PySem.W.findIn K (.type "int") "__sub__" = some io_sub)
    (y_sub : PySem.W.findIn K (.type "int") "__rsub__" = some ir_sub)
    (x_mul : PySem.W.findIn K (.type "int") "__mul__" = some io_mul)
    (y_mul : PySem.W.findIn K (.type "int") "__rmul__" = some ir_mul)
    (hsi : PySem.W.subIn K (.ref C_Share) (.type "int") = some false)
    (g_gcd : PySem.W.nsIn K mainGlobals "gcd" = some (some (.builtin "math.gcd")))
    (z_len : PySem.W.nsIn K mainGlobals "len" = some none)
    (z_abs : PySem.W.nsIn K mainGlobals "abs" = some none)
    (z_int : PySem.W.nsIn K mainGlobals "int" = some none)
    (z_bool : PySem.W.nsIn K mainGlobals "bool" = some none)
    (z_isinstance : PySem.W.nsIn K mainGlobals "isinstance" = some none)
    (z_all : PySem.W.nsIn K mainGlobals "all" = some none)
    (z_range : PySem.W.nsIn K mainGlobals "range" = some none)
    : ∃ fd : FuncData, (∀ (s : Shared) (v : Value), BindsTo s fd ⟨[v], []⟩ [("_law_script", v)]) ∧ ∀ base : Heap, K.In base → base.Ns mainGlobals mg → FnOk P w K mg base CX0 9 fa fd ["_law_script"] (spLaw K) := by
  have efa := hfa.symm.trans (PySem.W.mg_of X G a_law)
  cases efa
  have D_is_plain_int : DefAt K mg "is_plain_int" s_is_plain_int ["value"] := DefAt.of X G a_is_plain_int l_is_plain_int c_is_plain_int k_is_plain_int fun _ _ _ _ _ _ us hl => match us, hl with | [_], _ => rfl
  have D_is_operand : DefAt K mg "_is_operand" s_is_operand ["value"] := DefAt.of X G a_is_operand l_is_operand c_is_operand k_is_operand fun _ _ _ _ _ _ us hl => match us, hl with | [_], _ => rfl
  have D_parts : DefAt K mg "_parts" s_parts ["value"] := DefAt.of X G a_parts l_parts c_parts k_parts fun _ _ _ _ _ _ us hl => match us, hl with | [_], _ => rfl
  have D_flow : DefAt K mg "_law_flow" s_flow ["_law_script", "_law_k"] := DefAt.of X G a_flow l_flow c_flow k_flow fun _ _ _ _ _ _ us hl => match us, hl with | [_, _], _ => rfl
  have D_pick : DefAt K mg "_law_pick" s_pick ["_law_flow_here", "_law_size"] := DefAt.of X G a_pick l_pick c_pick k_pick fun _ _ _ _ _ _ us hl => match us, hl with | [_, _], _ => rfl
  have D_small_or_great : DefAt K mg "_law_small_or_great" s_small_or_great ["_law_flow_here", "_law_bound"] := DefAt.of X G a_small_or_great l_small_or_great c_small_or_great k_small_or_great fun _ _ _ _ _ _ us hl => match us, hl with | [_, _], _ => rfl
  have D_signed : DefAt K mg "_law_signed" s_signed ["_law_flow_here", "_law_bound"] := DefAt.of X G a_signed l_signed c_signed k_signed fun _ _ _ _ _ _ us hl => match us, hl with | [_, _], _ => rfl
  have D_is_flag : DefAt K mg "_law_is_flag" s_is_flag ["_law_actual", "_law_wanted"] := DefAt.of X G a_is_flag l_is_flag c_is_flag k_is_flag fun _ _ _ _ _ _ us hl => match us, hl with | [_, _], _ => rfl
  have D_is : DefAt K mg "_law_is" s_is ["_law_actual", "_law_top", "_law_bottom"] := DefAt.of X G a_is l_is c_is k_is fun _ _ _ _ _ _ us hl => match us, hl with | [_, _, _], _ => rfl
  have D_law : DefAt K mg "law" s_law ["_law_script"] := DefAt.of X G a_law l_law c_law k_law fun _ _ _ _ _ _ us hl => match us, hl with | [_], _ => rfl
  have D_Share_eq : MethAt K C_Share "__eq__" "Share.__eq__" s_Share___eq ["self", "other"] := MethAt.of a_Share_eq i_Share_eq l_Share_eq c_Share_eq k_Share_eq fun _ _ _ _ _ _ us hl => match us, hl with | [_, _], _ => rfl
  have D_Share_add : MethAt K C_Share "__add__" "Share.__add__" s_Share___add ["self", "other"] := MethAt.of a_Share_add i_Share_add l_Share_add c_Share_add k_Share_add fun _ _ _ _ _ _ us hl => match us, hl with | [_, _], _ => rfl
  have D_Share_radd : MethAt K C_Share "__radd__" "Share.__radd__" s_Share___radd ["self", "other"] := MethAt.of a_Share_radd i_Share_radd l_Share_radd c_Share_radd k_Share_radd fun _ _ _ _ _ _ us hl => match us, hl with | [_, _], _ => rfl
  have D_Share_sub : MethAt K C_Share "__sub__" "Share.__sub__" s_Share___sub ["self", "other"] := MethAt.of a_Share_sub i_Share_sub l_Share_sub c_Share_sub k_Share_sub fun _ _ _ _ _ _ us hl => match us, hl with | [_, _], _ => rfl
  have D_Share_mul : MethAt K C_Share "__mul__" "Share.__mul__" s_Share___mul ["self", "other"] := MethAt.of a_Share_mul i_Share_mul l_Share_mul c_Share_mul k_Share_mul fun _ _ _ _ _ _ us hl => match us, hl with | [_, _], _ => rfl
  have D_Share_rmul : MethAt K C_Share "__rmul__" "Share.__rmul__" s_Share___rmul ["self", "other"] := MethAt.of a_Share_rmul i_Share_rmul l_Share_rmul c_Share_rmul k_Share_rmul fun _ _ _ _ _ _ us hl => match us, hl with | [_, _], _ => rfl
  have D_Share_neg : MethAt K C_Share "__neg__" "Share.__neg__" s_Share___neg ["self"] := MethAt.of a_Share_neg i_Share_neg l_Share_neg c_Share_neg k_Share_neg fun _ _ _ _ _ _ us hl => match us, hl with | [_], _ => rfl
  have D_Share_abs : MethAt K C_Share "__abs__" "Share.__abs__" s_Share___abs ["self"] := MethAt.of a_Share_abs i_Share_abs l_Share_abs c_Share_abs k_Share_abs fun _ _ _ _ _ _ us hl => match us, hl with | [_], _ => rfl
  have D_Share_below : MethAt K C_Share "below" "Share.below" s_Share_below ["self", "other"] := MethAt.of a_Share_below i_Share_below l_Share_below c_Share_below k_Share_below fun _ _ _ _ _ _ us hl => match us, hl with | [_, _], _ => rfl
  have T : Blt mg := ⟨PySem.W.mg_none_of X G z_len, PySem.W.mg_none_of X G z_abs, PySem.W.mg_none_of X G z_int, PySem.W.mg_none_of X G z_bool, PySem.W.mg_none_of X G z_isinstance, PySem.W.mg_none_of X G z_all, PySem.W.mg_none_of X G z_range, PySem.W.mg_of X G g_gcd⟩
  have XT : ShT K mg C_Share := ⟨⟨pg, hd, po, sa⟩, nT, nB, ca, cn, ct, cm, kit_own ic ty sI rfl, fS, PySem.W.mg_of X G a_Share⟩
  have FI : FunD K "__init__" "Share.__init__" (defArgs s_Share___init) (defBody s_Share___init) (defScope s_Share___init) [.int 1] [] f_i _ := ⟨⟨oc_i, od_i, .ref T_i, kV_i, dc_i, pm_i, an_i, cd_i, ct_i, sl_i, rfl, i_l, i_c, .inr ⟨(fun h => nomatch h), T_i, _, [.int 1 tk], nTt, rfl, i_t, rfl, .cons ⟨tk, rfl⟩ .nil⟩, .inl rfl⟩, i_k⟩
  obtain ⟨dsI, rI, bI⟩ := FI.binds1 (ps := ["self", "top", "bottom"]) 3 1 (fun h => nomatch h) rfl fun _ _ _ _ _ _ _ us its hu hi => match us, its, hu, hi with | [_, _, _], [_], _, _ => ⟨_, rfl, rfl⟩
  have eI : dsI = [] := by cases rI; rfl
  subst eI
  have Oa : OpFacts K C_Share "add" := ⟨sf, ⟨f_Share_radd, .inl a_Share_radd⟩, ⟨_, x_add⟩, ⟨_, y_add⟩, sI⟩
  have Os : OpFacts K C_Share "sub" := ⟨sf, ⟨f_i, .inr r_sub⟩, ⟨_, x_sub⟩, ⟨_, y_sub⟩, sI⟩
  have Om : OpFacts K C_Share "mul" := ⟨sf, ⟨f_Share_rmul, .inl a_Share_rmul⟩, ⟨_, x_mul⟩, ⟨_, y_mul⟩, sI⟩
  refine ⟨PySem.W.fnOf "law" "law" (defArgs s_law) (defBody s_law) (defScope s_law) .none kV_law dc_law pm_law an_law cd_law ct_law, fun s v => .of_eq rfl, fun base _ _ => ?_⟩
  have O1 : DefOk P w K mg base CX0 1 "is_plain_int" (spPlain K) := ok_is_plain_int T D_is_plain_int
  have N1 : NewOk P w K mg base CX0 2 "Share" C_Share (spInit C_Share) := ⟨⟨f_i, raw0 (ok_init T XT O1 FI) bI, ⟨mk, i_a, i_f, kc⟩⟩, PySem.W.mg_of X G a_Share⟩
  have O2 : DefOk P w K mg base CX0 2 "_is_operand" (spOpd C_Share) := ok_is_operand T XT O1 D_is_operand
  have O3 : DefOk P w K mg base CX0 1 "_parts" (spParts C_Share) := ok_parts T XT D_parts
  have A1 := ok_add (P := P) (w := w) (base := base) XT O2 O3 N1 D_Share_add
  have A2 := ok_mul (P := P) (w := w) (base := base) XT O2 O3 N1 D_Share_mul
  have A3 := ok_neg (P := P) (w := w) (base := base) XT N1 D_Share_neg
  have PI : DefOk P w K mg base CX0 1 "_law_pick" spPick := ok_pick T D_pick
  have SM := ok_small (P := P) (w := w) (base := base) PI D_small_or_great
  exact ok_law_fn T XT Oa Os Om hsi ⟨_, a_Share_add⟩ ⟨_, a_Share_mul⟩ (ok_flow T D_flow) PI SM (ok_signed PI SM D_signed) (ok_is_flag T D_is_flag) (ok_is T XT N1 D_is) N1 (ok_eq T XT D_Share_eq) A1 (ok_radd Oa A1 D_Share_radd) (ok_sub Oa O2 A1 A3 D_Share_sub)
    A2 (ok_rmul Om A2 D_Share_rmul) A3 (ok_abs T XT N1 D_Share_abs) (ok_below XT O3 D_Share_below) (fun_mk (st := s_law) l_law c_law k_law)
theorem walk {l : PySem.W.OpenLaw} {q : Program} {loose : List Str} {XP : (Str → Option Value) → Heap → Prop} {YP : World → Heap → Prop} {d : DefRec} {K : Params → PySem.W.Frag} (hn : l.most = some 63) (hdf : d.params.defaults = [])
    (hY : ∀ (w : World) (h : Heap), YP w h → (K w.params).In h)
    (F : ∀ (w : World) (mg : Str → Option Value) (fa : Addr) (h : Heap), (K w.params).In h → h.Ns mainGlobals mg → mg d.name = some (.ref fa) →
      ∃ fd : FuncData, (∀ (s : Shared) (u : Value), BindsTo s fd ⟨[u], []⟩ [("_law_script", u)]) ∧ ∀ base : Heap, (K w.params).In base → base.Ns mainGlobals mg → FnOk l.prog w (K w.params) mg base CX0 9 fa fd ["_law_script"] (spLaw (K w.params))) :
    PySem.W.WalkO q loose XP YP l.row.toRowW d [] (fun f vs => PySem.call f vs) :=
  L2.walk_of (n := 63) (k := 9) (x := "_law_script") (CX := fun _ => CX0) (sp := fun w => spLaw (K w.params)) hn (by decide) hdf ⟨rfl, by decide, by decide⟩ hY F (fun _ _ a ns hl _ hS => ⟨a, ns, rfl, hS, hl, fun _ => rfl⟩) fun _ _ _ _ _ z => z
end K01
open PySem PySem.W PyProof.Rows
set_option maxRecDepth 100000 in
set_option maxHeartbeats 0 in
theorem PySem.Challenge.cw_callsthrough_k01_share_arithmetic_holds : PySem.Challenge.rw_callsthrough_k01_share_arithmetic.Holds := by
  w_on; o_law; k_head; (case hw => w_witness2)
  k_fill
  refine K01.walk (l := PySem.Challenge.rw_callsthrough_k01_share_arithmetic) rfl rfl (fun w h Y => PySem.W.kIn_of Y) ?F
  case F =>
    intro w mg fa h KX G hmg
    refine' K01.all_mk KX G hmg ?a_Share ?a_is_plain_int ?l_is_plain_int ?c_is_plain_int ?k_is_plain_int ?a_is_operand ?l_is_operand ?c_is_operand ?k_is_operand ?a_parts ?l_parts ?c_parts ?k_parts ?a_flow ?l_flow ?c_flow ?k_flow ?a_pick ?l_pick ?c_pick ?k_pick ?a_small_or_great ?l_small_or_great ?c_small_or_great ?k_small_or_great ?a_signed ?l_signed ?c_signed ?k_signed ?a_is_flag ?l_is_flag ?c_is_flag ?k_is_flag ?a_is ?l_is ?c_is ?k_is ?a_law ?l_law ?c_law ?k_law ?a_Share_eq ?i_Share_eq ?l_Share_eq ?c_Share_eq ?k_Share_eq ?a_Share_add ?i_Share_add ?l_Share_add ?c_Share_add ?k_Share_add ?a_Share_radd ?i_Share_radd ?l_Share_radd ?c_Share_radd ?k_Share_radd ?a_Share_sub ?i_Share_sub ?l_Share_sub ?c_Share_sub ?k_Share_sub ?a_Share_mul ?i_Share_mul ?l_Share_mul ?c_Share_mul ?k_Share_mul ?a_Share_rmul ?i_Share_rmul ?l_Share_rmul ?c_Share_rmul ?k_Share_rmul ?a_Share_neg ?i_Share_neg ?l_Share_neg ?c_Share_neg ?k_Share_neg ?a_Share_abs ?i_Share_abs ?l_Share_abs ?c_Share_abs ?k_Share_abs ?a_Share_below ?i_Share_below ?l_Share_below ?c_Share_below ?k_Share_below ?pg ?hd ?po ?sa ?mk ?kc ?nT ?nB ?ca ?cn ?ct ?cm ?ic ?ty ?sI ?fS ?i_a ?i_f ?i_l ?i_c ?i_k ?i_t ?sf ?r_sub ?x_add ?y_add ?x_sub ?y_sub ?x_mul ?y_mul ?hsi ?g_gcd ?z_len ?z_abs ?z_int ?z_bool ?z_isinstance ?z_all ?z_range
    (case a_Share => k_is)
    (case a_is_plain_int => k_is)
    (case l_is_plain_int => k_is)
    (case c_is_plain_int => k_is)
    (case k_is_plain_int => k_is)
    (case a_is_operand => k_is)
    (case l_is_operand => k_is)
    (case c_is_operand => k_is)
    (case k_is_operand => k_is)
    (case a_parts => k_is)
    (case l_parts => k_is)
    (case c_parts => k_is)
    (case k_parts => k_is)
    (case a_flow => k_is)
    (case l_flow => k_is)
    (case c_flow => k_is)
    (case k_flow => k_is)
    (case a_pick => k_is)
    (case l_pick => k_is)
    (case c_pick => k_is)
    (case k_pick => k_is)
    (case a_small_or_great => k_is)
    (case l_small_or_great => k_is)
    (case c_small_or_great => k_is)
    (case k_small_or_great => k_is)
    (case a_signed => k_is)
    (case l_signed => k_is)
    (case c_signed => k_is)
    (case k_signed => k_is)
    (case a_is_flag => k_is)
    (case l_is_flag => k_is)
    (case c_is_flag => k_is)
    (case k_is_flag => k_is)
    (case a_is => k_is)
    (case l_is => k_is)
    (case c_is => k_is)
    (case k_is => k_is)
    (case a_law => k_is)
    (case l_law => k_is)
    (case c_law => k_is)
    (case k_law => k_is)
    (case a_Share_eq => k_is)
    (case i_Share_eq => k_is)
    (case l_Share_eq => k_is)
    (case c_Share_eq => k_is)
    (case k_Share_eq => k_is)
    (case a_Share_add => k_is)
    (case i_Share_add => k_is)
    (case l_Share_add => k_is)
    (case c_Share_add => k_is)
    (case k_Share_add => k_is)
    (case a_Share_radd => k_is)
    (case i_Share_radd => k_is)
    (case l_Share_radd => k_is)
    (case c_Share_radd => k_is)
    (case k_Share_radd => k_is)
    (case a_Share_sub => k_is)
    (case i_Share_sub => k_is)
    (case l_Share_sub => k_is)
    (case c_Share_sub => k_is)
    (case k_Share_sub => k_is)
    (case a_Share_mul => k_is)
    (case i_Share_mul => k_is)
    (case l_Share_mul => k_is)
    (case c_Share_mul => k_is)
    (case k_Share_mul => k_is)
    (case a_Share_rmul => k_is)
    (case i_Share_rmul => k_is)
    (case l_Share_rmul => k_is)
    (case c_Share_rmul => k_is)
    (case k_Share_rmul => k_is)
    (case a_Share_neg => k_is)
    (case i_Share_neg => k_is)
    (case l_Share_neg => k_is)
    (case c_Share_neg => k_is)
    (case k_Share_neg => k_is)
    (case a_Share_abs => k_is)
    (case i_Share_abs => k_is)
    (case l_Share_abs => k_is)
    (case c_Share_abs => k_is)
    (case k_Share_abs => k_is)
    (case a_Share_below => k_is)
    (case i_Share_below => k_is)
    (case l_Share_below => k_is)
    (case c_Share_below => k_is)
    (case k_Share_below => k_is)
    (case pg => k_is)
    (case hd => k_is)
    (case po => k_is)
    (case sa => k_is)
    (case mk => k_is)
    (case kc => k_is)
    (case nT => k_is)
    (case nB => k_is)
    (case ca => k_is)
    (case cn => k_is)
    (case ct => k_is)
    (case cm => k_is)
    (case ic => k_is)
    (case ty => k_is)
    (case sI => k_is)
    (case fS => k_is)
    (case i_a => k_is)
    (case i_f => k_is)
    (case i_l => k_is)
    (case i_c => k_is)
    (case i_k => k_is)
    (case i_t => k_is)
    (case sf => k_is)
    (case r_sub => k_is)
    (case x_add => k_is)
    (case y_add => k_is)
    (case x_sub => k_is)
    (case y_sub => k_is)
    (case x_mul => k_is)
    (case y_mul => k_is)
    (case hsi => k_is)
    (case g_gcd => k_is)
    (case z_len => k_is)
    (case z_abs => k_is)
    (case z_int => k_is)
    (case z_bool => k_is)
    (case z_isinstance => k_is)
    (case z_all => k_is)
    (case z_range => k_is)
