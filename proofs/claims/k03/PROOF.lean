import PyProof.Rows.All
import Wide.All
import OpenK.AllK
import Wide.FinOn
import HandS.ForMost
import HandS.IsInst
import HandS.Wide
import HandS.More
import HandS.SlotsOwn
import HandS.ClsMeth
import HandS.TupMul
import HandS.TupAny
import PySem.Challenge.RW_callsthrough_k03_exchange_turned
set_option Elab.async false
set_option linter.all false
set_option maxRecDepth 100000
set_option maxHeartbeats 4000000
/-! Words of our own over the hand layer: a def by its name, its promise, its call; an own == . -/
namespace Com
open PySem PySem.Spec PyProof.Rows L2
/-! ### a def of the module, a method, a class, by their names -/
/-- the module has the name x of the def st -/
structure DefAt (K : PySem.W.Frag) (mg : Str → Option Value) (x : Str) (st : Stmt) (ps : List Str) : Prop where
  ex : ∃ (f : Addr) (fd : FuncData), Fun K x x st f fd ∧ mg x = some (.ref f) ∧ Binds K fd ps []
/-- the class at C has the method m, the def st -/
structure MethAt (K : PySem.W.Frag) (C : Addr) (m qual : Str) (st : Stmt) (ps : List Str) : Prop where
  ex : ∃ (f : Addr) (fd : FuncData), Fun K m qual st f fd ∧ Meth K C m f ∧ Binds K fd ps []
/-- the promises -/
structure DefOk (P : Program) (w : World) (K : PySem.W.Frag) (mg : Str → Option Value) (base : Heap) (CX : CXT) (k : Nat) (x : Str) (sp : Sp) : Prop where
  ex : ∃ f : Addr, FnR P w K mg base CX k f sp ∧ mg x = some (.ref f) ∧ PySem.W.keepIn K (.ref f) = true
structure MethOk (P : Program) (w : World) (K : PySem.W.Frag) (mg : Str → Option Value) (base : Heap) (CX : CXT) (k : Nat) (C : Addr) (m : Str) (sp : Sp) : Prop where
  ex : ∃ f : Addr, FnR P w K mg base CX k f sp ∧ Meth K C m f
structure NewOk (P : Program) (w : World) (K : PySem.W.Frag) (mg : Str → Option Value) (base : Heap) (CX : CXT) (k : Nat) (x : Str) (C : Addr) (sp : Sp) : Prop where
  ex : ∃ f : Addr, FnR P w K mg base CX k f sp ∧ Mk K C f
  mg : mg x = some (.ref C)
theorem DefAt.of {K : PySem.W.Frag} {mg : Str → Option Value} {h : Heap} {x : Str} {st : Stmt} {ps : List Str} {f : Addr} {oc : Value} {od an : Option Addr} {osl : Array (Option Value)} {kV doc pm cdv ct : Value}
    (X : K.In h) (G : h.Ns mainGlobals mg) (a : PySem.W.nsIn K mainGlobals x = some (some (.ref f)))
    (l : K.lookup f = some ⟨oc, od, .func (PySem.W.fnOf x x (defArgs st) (defBody st) (defScope st) .none kV doc pm an cdv ct), osl⟩) (c : PySem.W.codeIn K cdv x = true) (k : PySem.W.keepIn K (.ref f) = true)
    (b : ∀ (kV doc pm : Value) (an : Option Addr) (cdv ct : Value) (us : List Value), us.length = ps.length → bindArgs (PySem.W.fnOf x x (defArgs st) (defBody st) (defScope st) .none kV doc pm an cdv ct) ⟨us, []⟩ = pure (ps.zip us)) :
    DefAt K mg x st ps := ⟨f, _, fun_mk l c k, PySem.W.mg_of X G a, (fun_mk l c k).binds b⟩
theorem MethAt.of {K : PySem.W.Frag} {C : Addr} {m qual : Str} {st : Stmt} {ps : List Str} {f : Addr} {oc : Value} {od an : Option Addr} {osl : Array (Option Value)} {kV doc pm cdv ct : Value}
    (a : PySem.W.findIn K (.ref C) m = some (some (.ref f))) (i : PySem.W.isFn K (.ref f) = true)
    (l : K.lookup f = some ⟨oc, od, .func (PySem.W.fnOf m qual (defArgs st) (defBody st) (defScope st) .none kV doc pm an cdv ct), osl⟩) (c : PySem.W.codeIn K cdv qual = true) (k : PySem.W.keepIn K (.ref f) = true)
    (b : ∀ (kV doc pm : Value) (an : Option Addr) (cdv ct : Value) (us : List Value), us.length = ps.length → bindArgs (PySem.W.fnOf m qual (defArgs st) (defBody st) (defScope st) .none kV doc pm an cdv ct) ⟨us, []⟩ = pure (ps.zip us)) :
    MethAt K C m qual st ps := ⟨f, _, fun_mk l c k, ⟨a, i, k⟩, (fun_mk l c k).binds b⟩
theorem raw0 {P : Program} {w : World} {K : PySem.W.Frag} {mg : Str → Option Value} {base : Heap} {CX : CXT} {k : Nat} {f : Addr} {fd : FuncData} {ps : List Str} {sp : Sp} (F : FnOk P w K mg base CX k f fd ps sp) (b : Binds K fd ps []) : FnR P w K mg base CX k f sp :=
  (F.raw (ds := []) (dvs := []) b .nil).imp fun vs H Q E h => by rw [List.append_nil]; exact h
section
variable {P : Program} {w : World} {K : PySem.W.Frag} {mg : Str → Option Value} {base : Heap} {x qual : Str} {C : Addr} {st : Stmt} {ps N : List Str} {k : Nat} {sp : Sp}
theorem DefAt.ok (D : DefAt K mg x st ps) (S : FnScope N ps (defScope st)) (len : ∀ vs H Q E, sp vs H Q E → vs.length = ps.length)
    (hbody : ∀ (f : Addr) (cdv : Value) (A : Around) (outer : List Env) (s : Shared) (H : Hp) (vs : List V) (Q : VK) (E : XK), Room k (A.deeper (envOfC x (defScope st) s.heap.objs.size f cdv)) → sp vs H Q E →
      ∃ t, PSs (cxOf CX0 P w K mg base N x (defScope st) f cdv A outer s H E).nox (defBody st) t ∧ t { nx := fun _ H' => Q .non H', rt := Q } (start N vs) H) : DefOk P w K mg base CX0 (k + 1) x sp := by
  obtain ⟨f, fd, F, m, b⟩ := D.ex
  exact ⟨f, raw0 (F.ok S len (fun cdv A outer s H vs Q E hr h => hbody f cdv A outer s H vs Q E hr h)) b, m, F.kp⟩
theorem MethAt.fn (D : MethAt K C x qual st ps) (S : FnScope N ps (defScope st)) (len : ∀ vs H Q E, sp vs H Q E → vs.length = ps.length)
    (hbody : ∀ (f : Addr) (cdv : Value) (A : Around) (outer : List Env) (s : Shared) (H : Hp) (vs : List V) (Q : VK) (E : XK), Room k (A.deeper (envOfC qual (defScope st) s.heap.objs.size f cdv)) → sp vs H Q E →
      ∃ t, PSs (cxOf CX0 P w K mg base N qual (defScope st) f cdv A outer s H E).nox (defBody st) t ∧ t { nx := fun _ H' => Q .non H', rt := Q } (start N vs) H) : MethOk P w K mg base CX0 (k + 1) C x sp := by
  obtain ⟨f, fd, F, m, b⟩ := D.ex
  exact ⟨f, raw0 (F.ok S len (fun cdv A outer s H vs Q E hr h => hbody f cdv A outer s H vs Q E hr h)) b, m⟩
theorem DefOk.mono {CX : CXT} {j : Nat} (D : DefOk P w K mg base CX j x sp) (h : j ≤ k) : DefOk P w K mg base CX k x sp := let ⟨f, F, m, kp⟩ := D.ex; ⟨f, F.mono h, m, kp⟩
theorem MethOk.mono {CX : CXT} {j : Nat} (D : MethOk P w K mg base CX j C x sp) (h : j ≤ k) : MethOk P w K mg base CX k C x sp := let ⟨f, F, m⟩ := D.ex; ⟨f, F.mono h, m⟩
/-- an __init__ makes its class makeable -/
theorem MethOk.new {CX : CXT} (D : MethOk P w K mg base CX k C "__init__" sp) (mk : PySem.W.makesIn K C = true) (kc : PySem.W.keepIn K (.ref C) = true) (hm : mg x = some (.ref C)) : NewOk P w K mg base CX k x C sp :=
  let ⟨f, F, m⟩ := D.ex; ⟨⟨f, F, ⟨mk, m.at_, m.fn, kc⟩⟩, hm⟩
end
/-! ### calls -/
def tDef (sp : Sp) (E : XK) (t : TA) : TE := fun σ H Q => t σ H fun vs H1 => sp vs H1 Q E
def tNew (C : Addr) (sp : Sp) (E : XK) (t : TA) : TE := fun σ H Q => t σ H fun vs H1 => ∀ x dx, H1 x = none → H1 dx = none → dx ≠ x →
  sp (.ref x :: vs) (upd (upd H1 dx (.own x)) x (.ins C dx [])) (fun v H2 => v = .non ∧ Q (.ref x) H2) E
def tMth (C : Addr) (m : Str) (sp : Sp) (E : XK) (ta : TE) (t : TA) : TE := fun σ H Q => ta σ H fun x H1 => ∃ a dx fs, x = .ref a ∧ H1 a = some (.ins C dx fs) ∧ fs.lookup m = none ∧ t σ H1 fun vs H2 => sp (x :: vs) H2 Q E
section
variable {X : Cx} {CX : CXT} {k j : Nat} {C f : Addr} {sp : Sp} {E : XK} {x m : Str} {p pos apos : Pos} {o e : Expr} {es : List Expr} {ta : TE} {t : TA} {i : Nat}
theorem runR {pins : List (Addr × Obj)} {σ : L2.St} {H : Hp} {s : Shared} {Q : VK} {us : List Value} {vs : List V} (F : FnR X.prog X.w X.K X.mg X.base CX j f sp) (hr : Room k X.A) (hjk : j ≤ k) (hx : Passes CX X E) (I : Inv X pins σ H s) (r : Vals vs us) (h : sp vs H Q E) :
    wpAny (model X.prog X.w) X.A (call (.ref f) us) (EP X pins σ Q) X.xe s := wpAny_call (run_fnR F (hr.mono hjk) hx I r h)
theorem pe_def (D : DefOk X.prog X.w X.K X.mg X.base CX j x sp) (hr : Room k X.A) (hjk : j ≤ k) (hx : Passes CX X E) (ha : PA X (e :: es) t) (hg : Gl X x := by rfl) (hdb : (x == ("__debug__" : Str)) = false := by decide)
    (he : starEach (e :: es) X.env = (false, eval e X.env) :: starEach es X.env := by rfl) (hpl : (backTo pos (starEach es X.env)).any (·.1) = false := by rfl) :
    PE X (.Call (.Name x p) (e :: es) [] pos) (tDef sp E t) := by
  obtain ⟨f, F, m, kp⟩ := D.ex
  refine ⟨fun pins s σ H Q I h => ?_⟩
  refine wpAny_Call_Name_kw (ld_glob I hg m ?_ hdb)
  refine PySem.W.callWith_K (h₀ := X.base) I.ok.mod.kin kp (thn (ha.run pos pins s σ H _ I h) fun us s1 ⟨vs, H1, I1, r, q⟩ => ⟨I1.kIn, ?_⟩) he hpl
  exact runR F hr hjk hx I1 r q
theorem runNew {pins : List (Addr × Obj)} {σ : L2.St} {H : Hp} {s : Shared} {Q : VK} {us : List Value} {vs : List V} (M : Mk X.K C f) (F : FnR X.prog X.w X.K X.mg X.base CX j f sp) (hr : Room (k + 1) X.A) (hjk : j ≤ k)
    (hx : Passes CX X E) (I : Inv X pins σ H s) (r : Vals vs us)
    (h : ∀ x dx, H x = none → H dx = none → dx ≠ x → sp (.ref x :: vs) (upd (upd H dx (.own x)) x (.ins C dx [])) (fun v H2 => v = .non ∧ Q (.ref x) H2) E) :
    wpAny (model X.prog X.w) X.A (call (.ref C) us) (EP X pins σ Q) X.xe s := by
  have hq := h (s.heap.objs.size + 1) s.heap.objs.size (I.hok.fresh (Nat.le_succ _)) (I.hok.fresh (Nat.le_refl _)) (Nat.ne_of_lt (Nat.lt_succ_self _))
  have I2 := Inv.made (C := C) I
  have r2 : Vals (V.ref (s.heap.objs.size + 1) :: vs) (Value.ref (s.heap.objs.size + 1) :: us) := .cons rfl r
  refine wpAny_call (make_map (f := f) I.kIn M.makes M.init (beq_iff_eq.mp M.fn) (codeAny_mono (F _ X.stack _ _ (Value.ref (s.heap.objs.size + 1) :: us) _ _ E ((hr.make C us []).mono hjk)
    (I2.env0.make C us []) r2 hq) fun r s' hq' => ?_))
  cases r with
  | error e => exact hx pins σ _ _ e s' I2 hq'
  | ok fl =>
    cases fl with
    | ret u =>
      obtain ⟨v, H', I3, rv, ev, q3⟩ := I2.after hq'
      subst ev
      exact ⟨rv, ⟨V.ref (s.heap.objs.size + 1), H', I3, rfl, q3⟩⟩
    | next => exact False.elim hq'
    | brk => exact False.elim hq'
    | cont => exact False.elim hq'
theorem pe_new (M : NewOk X.prog X.w X.K X.mg X.base CX j x C sp) (hr : Room (k + 1) X.A) (hjk : j ≤ k) (hx : Passes CX X E) (ha : PA X (e :: es) t) (hg : Gl X x := by rfl) (hdb : (x == ("__debug__" : Str)) = false := by decide)
    (he : starEach (e :: es) X.env = (false, eval e X.env) :: starEach es X.env := by rfl) (hpl : (backTo pos (starEach es X.env)).any (·.1) = false := by rfl) :
    PE X (.Call (.Name x p) (e :: es) [] pos) (tNew C sp E t) := by
  obtain ⟨f, F, M1⟩ := M.ex
  refine ⟨fun pins s σ H Q I h => ?_⟩
  refine wpAny_Call_Name_kw (ld_glob I hg M.mg ?_ hdb)
  refine PySem.W.callWith_K (h₀ := X.base) I.ok.mod.kin M1.kp (thn (ha.run pos pins s σ H _ I h) fun us s1 ⟨vs, H1, I1, r, q⟩ => ⟨I1.kIn, ?_⟩) he hpl
  exact runNew M1 F hr hjk hx I1 r q
/-- the class stands in the i-th slot (cls of a classmethod) -/
def tNewL (i : Nat) (C : Addr) (sp : Sp) (E : XK) (t : TA) : TE := fun σ H Q => σ[i]? = some (some (.ref C)) ∧ tNew C sp E t σ H Q
theorem pe_newL {y : Str} (M : NewOk X.prog X.w X.K X.mg X.base CX j y C sp) (hr : Room (k + 1) X.A) (hjk : j ≤ k) (hx : Passes CX X E) (ha : PA X (e :: es) t) (hN : X.N[i]? = some x := by rfl) (hv : Vis X.env.scope x := by first | exact Or.inl rfl | exact Or.inr (Or.inl rfl) | exact Or.inr (Or.inr rfl))
    (hdb : (x == ("__debug__" : Str)) = false := by decide) (hcd : (x == ("__classdict__" : Str)) = false := by decide)
    (he : starEach (e :: es) X.env = (false, eval e X.env) :: starEach es X.env := by rfl) (hpl : (backTo pos (starEach es X.env)).any (·.1) = false := by rfl) :
    PE X (.Call (.Name x p) (e :: es) [] pos) (tNewL i C sp E t) := by
  obtain ⟨f, F, M1⟩ := M.ex
  refine ⟨fun pins s σ H Q I h => ?_⟩
  obtain ⟨hs, ht⟩ := h
  refine wpAny_Call_Name_kw (thn ((pe_var (pos := p) hN hv hdb hcd).run pins s σ H (fun v H1 => v = .ref C ∧ H1 = H) I ⟨.ref C, hs, rfl, rfl⟩) fun u s1 ⟨v, H1, I1, r1, q1⟩ => ?_)
  obtain ⟨rfl, rfl⟩ := q1
  cases r1
  refine PySem.W.callWith_K (h₀ := X.base) I.ok.mod.kin M1.kp (thn (ha.run pos pins s1 σ _ _ I1 ht) fun us s2 ⟨vs, H2, I2, r, q⟩ => ⟨I2.kIn, ?_⟩) he hpl
  exact runNew M1 F hr hjk hx I2 r q
theorem pe_mth {pl : Sem Bool} (he : PE X o ta) (c : Cls X.K C) (M : MethOk X.prog X.w X.K X.mg X.base CX j C m sp) (hr : Room k X.A) (hjk : j ≤ k) (hx : Passes CX X E) (ha : PA X (e :: es) t)
    (hst : starEach (e :: es) X.env = (false, eval e X.env) :: starEach es X.env := by rfl) (hpl : (backTo pos (starEach es X.env)).any (·.1) = false := by rfl)
    (ht : eval (.Call (.Attribute o m apos) (e :: es) [] pos) X.env = (do
      let ov ← eval o X.env
      standAt apos.atName
      let (f, first) ← holding [ov] (getMethod ov m pl)
      callWith pos f first (backTo pos (starEach (e :: es) X.env)) (backToKw pos (keywordEach [] X.env))) := by rfl) :
    PE X (.Call (.Attribute o m apos) (e :: es) [] pos) (tMth C m sp E ta t) := by
  obtain ⟨g, F, hm⟩ := M.ex
  refine ⟨fun pins s σ H Q I h => ?_⟩
  refine PySem.W.methodCall_KW (pl := pl) (thn (he.run pins s σ H _ I h) fun u s1 ⟨x, H1, I1, rx, a, dx, fs, ex, ea, l, q⟩ => ?_) ht
  subst ex
  obtain rfl : u = Value.ref a := rx
  refine getmeth_ok I1 ea c hm l ?_
  refine PySem.W.callWith_K (first := [.ref a]) (h₀ := X.base) I.ok.mod.kin hm.kp (thn (ha.run pos pins s1 σ H1 _ I1 q) fun us s2 ⟨vs, H2, I2, r, q2⟩ => ⟨I2.kIn, ?_⟩) hst hpl
  exact runR (us := .ref a :: us) (vs := .ref a :: vs) F hr hjk hx I2 (.cons rfl r) q2
theorem pe_mth0 {pl : Sem Bool} (he : PE X o ta) (c : Cls X.K C) (M : MethOk X.prog X.w X.K X.mg X.base CX j C m sp) (hr : Room k X.A) (hjk : j ≤ k) (hx : Passes CX X E)
    (ht : eval (.Call (.Attribute o m apos) [] [] pos) X.env = (do
      let ov ← eval o X.env
      standAt apos.atName
      let (f, first) ← holding [ov] (getMethod ov m pl)
      callWith pos f first (backTo pos (starEach [] X.env)) (backToKw pos (keywordEach [] X.env))) := by rfl) :
    PE X (.Call (.Attribute o m apos) [] [] pos) (tMth C m sp E ta tNil) := by
  obtain ⟨g, F, hm⟩ := M.ex
  refine ⟨fun pins s σ H Q I h => ?_⟩
  refine PySem.W.methodCall_KW (pl := pl) (thn (he.run pins s σ H _ I h) fun u s1 ⟨x, H1, I1, rx, a, dx, fs, ex, ea, l, q⟩ => ?_) ht
  subst ex
  obtain rfl : u = Value.ref a := rx
  refine getmeth_ok I1 ea c hm l ?_
  exact PySem.W.callWith_K0 (first := [.ref a]) I1.kIn hm.kp (runR (us := [.ref a]) (vs := [.ref a]) F hr hjk hx I1 (.cons rfl .nil) q)
/-- a classmethod, called on the class -/
structure CMethOk (P : Program) (w : World) (K : PySem.W.Frag) (mg : Str → Option Value) (base : Heap) (CX : CXT) (k : Nat) (C : Addr) (m : Str) (sp : Sp) : Prop where
  ex : ∃ (mc : Value) (p g : Addr), ClX.CRead K C mc ∧ ClX.CMet K C mc m p g ∧ FnR P w K mg base CX k g sp
theorem pe_cls {pl : Sem Bool} (he : PE X o ta) (M : CMethOk X.prog X.w X.K X.mg X.base CX j C m sp) (hr : Room k X.A) (hjk : j ≤ k) (hx : Passes CX X E) (ha : PA X (e :: es) t)
    (hst : starEach (e :: es) X.env = (false, eval e X.env) :: starEach es X.env := by rfl) (hpl : (backTo pos (starEach es X.env)).any (·.1) = false := by rfl)
    (ht : eval (.Call (.Attribute o m apos) (e :: es) [] pos) X.env = (do
      let ov ← eval o X.env
      standAt apos.atName
      let (f, first) ← holding [ov] (getMethod ov m pl)
      callWith pos f first (backTo pos (starEach (e :: es) X.env)) (backToKw pos (keywordEach [] X.env))) := by rfl) :
    PE X (.Call (.Attribute o m apos) (e :: es) [] pos) (ClX.tCMeth C sp E ta t) := by
  obtain ⟨mc, p, g, r, c, F⟩ := M.ex
  exact ClX.pe_cmeth he r c F (hr.mono hjk) hx ha hst hpl ht
end
/-- not e, by its truth as a test -/
def tNotP (t : TT) : TE := fun σ H Q => t σ H fun b H1 => Q (.bl (!b)) H1
/-! ### the places of a list, as op= reads them -/
theorem get_list {X : Cx} : PGet X (rIxL X.K) := by
  intro pins s σ H o i ov iv Q I ro ri h
  obtain ⟨p, xs, i, z, rfl, rfl, hq, he, q⟩ := h
  cases ro
  obtain ⟨t, rfl⟩ := ri
  obtain ⟨its, r, pl, hz⟩ := I.list hq
  obtain ⟨j, h1, h2, h3, h4, h5⟩ := atI_get he
  obtain ⟨w, ew, rw'⟩ := r.get h2
  have hl := r.length
  have hn := line63
  have fin : EP X pins σ Q w s := ⟨z, H, I, rw', q⟩
  by_cases h0 : 0 ≤ i
  · have hj : i.toNat = j := by
      rw [seqIndex_of h0 h5] at h1
      exact Option.some.inj h1
    exact wpAny_getItem_list pl.isList h0 (by omega) (by rw [hj]; simpa using ew) fin
  · have hj : (i + (its.toArray.size : Int)).toNat = j := by
      rw [seqIndex_neg (by omega) h4] at h1
      rw [List.size_toArray, ← hl]
      exact Option.some.inj h1
    exact wpAny_getItem_list_neg pl.isList (by omega) (by rw [List.size_toArray] <;> omega) (by omega) (by rw [hj]; simpa using ew) fin
/-! ### an own == -/
/-- x == y, x an instance of the class at C, whose __eq__ promises sp; y of any kind that is not ahead of C -/
def rEqO (K : PySem.W.Frag) (C : Addr) (sp : Sp) (E : XK) : R2 := fun x y H Q => ∃ a dx fs t, x = .ref a ∧ H a = some (.ins C dx fs) ∧ TyX K H y t ∧ PySem.W.notFirst K C t = true ∧ sp [x, y] H Q E
section
variable {X : Cx} {CX : CXT} {k j : Nat} {C : Addr} {sp : Sp} {E : XK}
theorem op_eqO (M : MethOk X.prog X.w X.K X.mg X.base CX j C "__eq__" sp) (hr : Room k X.A) (hjk : j ≤ k) (hx : Passes CX X E) : OpR X (compareOp .Eq) (rEqO X.K C sp E) := by
  obtain ⟨g, F, hm⟩ := M.ex
  intro pins s σ H x y v u Q I rx ry h
  obtain ⟨a, dx, fs, t, rfl, ha, ty, hn, q⟩ := h
  cases (show v = Value.ref a from rx)
  obtain ⟨mA, O, _⟩ := ins_get I.hok ha
  obtain ⟨od, J, _⟩ := O.look
  obtain ⟨P, Z, p, _⟩ := kit_of I ry ty
  obtain ⟨m, hF⟩ := I.fr
  show wpAny (model X.prog X.w) X.A (richCompare .Eq (.ref a) u) (EP X pins σ Q) X.xe s
  refine PySem.W.cmp_K (op := .Eq) (tb := t) hr.units0 hF I.ok.mod.kin J (Z.ty _ _ I.kIn p) hn hm.at_ hm.fn ?_
  refine wpAny_mono (runR (us := [.ref a, u]) (vs := [.ref a, y]) F hr hjk hx I (.cons rfl (.cons ry .nil)) q) (fun w s' z => ?_) fun _ _ x => x
  obtain ⟨z', H', I', rz, qz⟩ := z
  exact SlX.cmpback rz ⟨z', H', I', rz, qz⟩
end
/-! ### types stay -/
theorem TyOf.same {K : PySem.W.Frag} {H H' : Hp} (s : Same H H') {x : V} {t : Value} (h : TyOf K H x t) : TyOf K H' x t := by
  cases h with
  | non => exact .non
  | bl x => exact .bl x
  | int i => exact .int i
  | str x => exact .str x
  | flt x => exact .flt x
  | lst e => exact .lst (s _ _ e)
  | frz e => exact .frz (s _ _ e)
  | tup e => exact .tup (s _ _ e)
  | dK e => exact .dK (s _ _ e)
  | dT e => exact .dT (s _ _ e)
  | ins e cl ha hn htk hm => exact .ins (s _ _ e) cl ha hn htk hm
theorem TyX.same {K : PySem.W.Frag} {H H' : Hp} (s : Same H H') {x : V} {t : Value} (h : TyX K H x t) : TyX K H' x t := by
  cases h with
  | base h => exact .base (TyOf.same s h)
  | byt b => exact .byt b
  | set e => exact .set (s _ _ e)
  | kList e c => exact .kList e c
  | kTuple e c => exact .kTuple e c
  | kDict e c => exact .kDict e c
  | fTuple e => exact .fTuple (s _ _ e)
  | fDict e => exact .fDict (s _ _ e)
end Com
namespace Com
open PySem PySem.Spec PyProof.Rows L2
/-! ### tuples of ints, lists of pairs of ints: as data -/
def tI (ds : List Int) : PyData := .tuple (ds.map .int)
theorem eqvAll_ints : ∀ ds es : List Int, PyData.eqvAll (ds.map .int) (es.map .int) = decide (ds = es)
  | [], [] => rfl
  | [], e :: es => by simp [PyData.eqvAll]
  | d :: ds, [] => by simp [PyData.eqvAll]
  | d :: ds, e :: es => by
    rw [List.map_cons, List.map_cons, PyData.eqvAll, eqvAll_ints ds es, PyData.eqv]
    by_cases h : d = e
    · subst h
      by_cases h2 : ds = es
      · subst h2; simp
      · simp [h2]
    · simp [h]
theorem eqv_tI (ds es : List Int) : PyData.eqv (tI ds) (tI es) = decide (ds = es) := by
  show PyData.eqv (.tuple _) (.tuple _) = _
  rw [PyData.eqv]
  exact eqvAll_ints ds es
theorem lay_ints : ∀ ds : List Int, PyData.canLayAll0 (ds.map .int) = true
  | [] => rfl
  | d :: ds => by rw [List.map_cons, PyData.canLayAll0, PyData.canLay0, lay_ints ds]; rfl
theorem depth_ints : ∀ ds : List Int, PyData.depthAll (ds.map .int) = 0
  | [] => rfl
  | d :: ds => by rw [List.map_cons, PyData.depthAll, PyData.depth, depth_ints ds]; rfl
theorem shaped_tI (ds : List Int) : SeqAt.shaped (tI ds) = true := by
  show (PyData.canLay0 (.tuple _) && decide (PyData.depth (.tuple _) ≤ 64)) = true
  rw [PyData.canLay0, lay_ints, PyData.depth, depth_ints]
  rfl
theorem dpAll_ints {K : PySem.W.Frag} {H : Hp} : ∀ ds : List Int, DpAll K H (ds.map V.int) (ds.map .int)
  | [] => .nil
  | d :: ds => .cons (.int d) (dpAll_ints ds)
theorem dp_tI {K : PySem.W.Frag} {H : Hp} {a : Addr} {ds : List Int} (h : H a = some (.tup (ds.map V.int))) : Dp K H (.ref a) (tI ds) := .tup (SqT.of h) (dpAll_ints ds)
def pD (p : Int × Int) : PyData := tI [p.1, p.2]
def lP (ps : List (Int × Int)) : PyData := .list (ps.map pD)
theorem eqv_pD (p q : Int × Int) : PyData.eqv (pD p) (pD q) = decide (p = q) := by
  unfold pD
  rw [eqv_tI]
  obtain ⟨a, b⟩ := p
  obtain ⟨c, d⟩ := q
  simp
theorem eqvAll_pairs : ∀ ps qs : List (Int × Int), PyData.eqvAll (ps.map pD) (qs.map pD) = decide (ps = qs)
  | [], [] => rfl
  | [], e :: es => by simp [PyData.eqvAll]
  | d :: ds, [] => by simp [PyData.eqvAll]
  | d :: ds, e :: es => by
    rw [List.map_cons, List.map_cons, PyData.eqvAll, eqvAll_pairs ds es, eqv_pD]
    by_cases h : d = e
    · subst h
      by_cases h2 : ds = es
      · subst h2; simp
      · simp [h2]
    · simp [h]
theorem eqv_lP (ps qs : List (Int × Int)) : PyData.eqv (lP ps) (lP qs) = decide (ps = qs) := by
  show PyData.eqv (.list _) (.list _) = _
  rw [PyData.eqv]
  exact eqvAll_pairs ps qs
theorem lay_pairs : ∀ ps : List (Int × Int), PyData.canLayAll0 (ps.map pD) = true
  | [] => rfl
  | d :: ds => by
    rw [List.map_cons, PyData.canLayAll0, lay_pairs ds]
    show (PyData.canLay0 (.tuple _) && true) = true
    rw [PyData.canLay0, lay_ints]
    rfl
theorem depth_pairs : ∀ ps : List (Int × Int), PyData.depthAll (ps.map pD) ≤ 1
  | [] => by rw [List.map_nil, PyData.depthAll]; omega
  | d :: ds => by
    have := depth_pairs ds
    rw [List.map_cons, PyData.depthAll]
    have e : PyData.depth (pD d) = 1 := by
      show PyData.depth (.tuple _) = 1
      rw [PyData.depth, depth_ints]
    omega
theorem shaped_lP (ps : List (Int × Int)) : SeqAt.shaped (lP ps) = true := by
  have h := depth_pairs ps
  show (PyData.canLay0 (.list _) && decide (PyData.depth (.list _) ≤ 64)) = true
  rw [PyData.canLay0, lay_pairs, PyData.depth, Bool.true_and]
  exact decide_eq_true (by omega)
/-- at a list's places tuples of two ints: the pairs ps -/
def PairsV (H : Hp) : List V → List (Int × Int) → Prop := Paired fun v p => ∃ a, v = .ref a ∧ H a = some (.tup [.int p.1, .int p.2])
theorem PairsV.dp {K : PySem.W.Frag} {H : Hp} : ∀ {vs : List V} {ps : List (Int × Int)}, PairsV H vs ps → DpAll K H vs (ps.map pD)
  | _, _, .nil => .nil
  | _, _, .cons ⟨a, e, h⟩ t => by
    subst e
    exact .cons (dp_tI (ds := [_, _]) h) (PairsV.dp t)
theorem PairsV.same {H H' : Hp} (s : Same H H') : ∀ {vs : List V} {ps : List (Int × Int)}, PairsV H vs ps → PairsV H' vs ps
  | _, _, .nil => .nil
  | _, _, .cons ⟨a, e, h⟩ t => .cons ⟨a, e, s _ _ h⟩ (PairsV.same s t)
theorem PairsV.mono {H H' : Hp} (s : ∀ b xs, H b = some (.tup xs) → H' b = some (.tup xs)) : ∀ {vs : List V} {ps : List (Int × Int)}, PairsV H vs ps → PairsV H' vs ps
  | _, _, .nil => .nil
  | _, _, .cons ⟨a, e, h⟩ t => .cons ⟨a, e, s _ _ h⟩ (PairsV.mono s t)
theorem dp_lP {K : PySem.W.Frag} {H : Hp} {a : Addr} {vs : List V} {ps : List (Int × Int)} (h : H a = some (.lst vs)) (p : PairsV H vs ps) : Dp K H (.ref a) (lP ps) := .lst (SqL.of h) p.dp
/-! ### fields -/
theorem putF_nil {f : Str} {v : V} : putF f v [] = [(f, v)] := rfl
theorem putF_ne {f g : Str} {v w : V} {fs : List (Str × V)} (h : ¬ g = f) : putF f v ((g, w) :: fs) = (g, w) :: putF f v fs := by
  show (if g = f then _ else _) = _
  rw [if_neg h]
theorem putF_eq {f : Str} {v w : V} {fs : List (Str × V)} : putF f v ((f, w) :: fs) = (f, v) :: fs := by
  show (if f = f then _ else _) = _
  rw [if_pos rfl]
theorem lk_eq {f : Str} {v : V} {fs : List (Str × V)} : List.lookup f ((f, v) :: fs) = some v := by simp [List.lookup]
theorem lk_ne {f g : Str} {v : V} {fs : List (Str × V)} (h : (f == g) = false) : List.lookup f ((g, v) :: fs) = List.lookup f fs := by simp [List.lookup, h]
theorem ifB {b : Bool} {A B : Prop} (h1 : b = true → A) (h2 : b = false → B) : if b = true then A else B := by
  cases b with
  | true => exact iteT (h1 rfl)
  | false => exact iteF (h2 rfl)
theorem mulm {x m y : Int} (h0 : 0 < m) (h : m < 2 ^ 64) : CMul (x % m) y :=
  .inl ⟨by have := Int.emod_nonneg x (show m ≠ 0 by omega); omega, by have := Int.emod_lt_of_pos x h0; omega⟩
theorem len1 {n : Nat} (h : n ≤ 1000) : n ≤ sizeLine := Nat.le_of_lt (small1000 h)
theorem divW {n size : Int} (h1 : 1 ≤ size) (h2 : size < 2 ^ 200) : CDivW n size := wide_div (b := 200) (by omega) (by
  have : ((2 : Int) ^ 200) = (((2 : Nat) ^ 200 : Nat) : Int) := by decide
  omega) (by decide) (by decide)
/-- all that stood but what stood at a stands; nothing new but .. -/
def But (a : Addr) (H H' : Hp) : Prop := ∀ b, b ≠ a → H' b = H b
theorem But.upd {H : Hp} {p : Addr} {o : HO} : But p H (upd H p o) := fun b hb => upd_ne hb
theorem But.same {H H' : Hp} {p : Addr} (h : But p H H') (n : H p = none) : Same H H' := fun b o e => by rw [h b (ne_of_none e n)]; exact e
theorem Same.upd {H : Hp} {p : Addr} {o : HO} (n : H p = none) : Same H (upd H p o) := fun b u e => by rw [upd_ne (ne_of_none e n)]; exact e
/-- at a the three numbers of a flow of draws -/
def FlowAt (H : Hp) (a : Addr) : Prop := ∃ n c r : Int, H a = some (.lst [.int n, .int c, .int r])
theorem FlowAt.new {H : Hp} {p : Addr} {n c r : Int} : FlowAt (upd H p (.lst [.int n, .int c, .int r])) p := ⟨n, c, r, upd_same⟩
end Com
namespace Com
open PySem PySem.Spec PyProof.Rows L2
/-! ### walks of a comprehension, by an invariant of the heap -/
theorem lp_range {lo : Int} {n : Nat} {H0 : Hp} {Qd : Hp → Prop} {B : V → Hp → (Hp → Prop) → Prop} (Pv : Nat → Hp → Prop) (h0 : Pv 0 H0) (hs : ∀ i H, i < n → Pv i H → B (.int (lo + i)) H (Pv (i + 1))) (hd : ∀ H, Pv n H → Qd H) :
    ∃ W : Nat → Nat → Hp → Prop, (∃ m, W 0 m H0) ∧ ∀ i m H, W i m H → ((Itr lo n).stop i H ∧ Qd H) ∨ ((Itr lo n).go i H ∧ ∃ Nx : Hp → Prop, (∀ H', Nx H' → ∃ m', m' < m ∧ W (i + 1) m' H') ∧ ∀ x H', (Itr lo n).yld i H x H' → B x H' Nx) := by
  refine ⟨fun i m H => m = n - i ∧ i ≤ n ∧ Pv i H, ⟨n, by simp, Nat.zero_le _, h0⟩, ?_⟩
  rintro i m H ⟨rfl, hi, p⟩
  by_cases hlt : i < n
  · refine .inr ⟨hlt, Pv (i + 1), fun H' p' => ⟨n - (i + 1), by omega, rfl, hlt, p'⟩, fun x H' y => ?_⟩
    obtain ⟨e, y⟩ := y
    subst e y
    exact hs i _ hlt p
  · have e : i = n := by omega
    subst e
    exact .inl ⟨Nat.le_refl _, hd H p⟩
theorem lp_tup {K : PySem.W.Frag} {a : Addr} {xs : List V} {H0 : Hp} {Qd : Hp → Prop} {B : V → Hp → (Hp → Prop) → Prop} (Pv : Nat → Hp → Prop) (h0 : Pv 0 H0) (hl : ∀ i H, i ≤ xs.length → Pv i H → SqT K H a xs) (hs : ∀ i x H, xs[i]? = some x → Pv i H → B x H (Pv (i + 1))) (hd : ∀ H, Pv xs.length H → Qd H) :
    ∃ W : Nat → Nat → Hp → Prop, (∃ m, W 0 m H0) ∧ ∀ i m H, W i m H → ((Itt K a).stop i H ∧ Qd H) ∨ ((Itt K a).go i H ∧ ∃ Nx : Hp → Prop, (∀ H', Nx H' → ∃ m', m' < m ∧ W (i + 1) m' H') ∧ ∀ x H', (Itt K a).yld i H x H' → B x H' Nx) := by
  refine ⟨fun i m H => m = xs.length - i ∧ i ≤ xs.length ∧ Pv i H, ⟨xs.length, by simp, Nat.zero_le _, h0⟩, ?_⟩
  rintro i m H ⟨rfl, hi, p⟩
  have q := hl i H hi p
  by_cases hlt : i < xs.length
  · refine .inr ⟨⟨xs, xs[i], q, by simp [hlt]⟩, Pv (i + 1), fun H' p' => ⟨xs.length - (i + 1), by omega, rfl, hlt, p'⟩, fun x H' y => ?_⟩
    obtain ⟨e, y⟩ := y
    subst e
    exact hs i x _ (y xs q) p
  · have e : i = xs.length := by omega
    subst e
    exact .inl ⟨⟨xs, q, Nat.le_refl _⟩, hd H p⟩
theorem lp_list {K : PySem.W.Frag} {a : Addr} {xs : List V} {H0 : Hp} {Qd : Hp → Prop} {B : V → Hp → (Hp → Prop) → Prop} (Pv : Nat → Hp → Prop) (h0 : Pv 0 H0) (hl : ∀ i H, i ≤ xs.length → Pv i H → SqL K H a xs) (hs : ∀ i x H, xs[i]? = some x → Pv i H → B x H (Pv (i + 1))) (hd : ∀ H, Pv xs.length H → Qd H) :
    ∃ W : Nat → Nat → Hp → Prop, (∃ m, W 0 m H0) ∧ ∀ i m H, W i m H → ((Itl K a).stop i H ∧ Qd H) ∨ ((Itl K a).go i H ∧ ∃ Nx : Hp → Prop, (∀ H', Nx H' → ∃ m', m' < m ∧ W (i + 1) m' H') ∧ ∀ x H', (Itl K a).yld i H x H' → B x H' Nx) := by
  refine ⟨fun i m H => m = xs.length - i ∧ i ≤ xs.length ∧ Pv i H, ⟨xs.length, by simp, Nat.zero_le _, h0⟩, ?_⟩
  rintro i m H ⟨rfl, hi, p⟩
  have q := hl i H hi p
  by_cases hlt : i < xs.length
  · refine .inr ⟨⟨xs, xs[i], q, by simp [hlt]⟩, Pv (i + 1), fun H' p' => ⟨xs.length - (i + 1), by omega, rfl, hlt, p'⟩, fun x H' y => ?_⟩
    obtain ⟨e, y⟩ := y
    subst e
    exact hs i x _ (y xs q) p
  · have e : i = xs.length := by omega
    subst e
    exact .inl ⟨⟨xs, q, Nat.le_refl _⟩, hd H p⟩
/-! ### kinds -/
/-- isinstance(x, int) and not isinstance(x, bool): its answer -/
def PlainI (K : PySem.W.Frag) (H : Hp) (x : V) (b : Bool) : Prop := ∃ t b1, TyX K H x t ∧ PySem.W.kitOne K t (.type "int") = some b1 ∧ (b1 = false → b = false) ∧ (b1 = true → ∃ b2, PySem.W.kitOne K t (.type "bool") = some b2 ∧ b = !b2)
theorem PlainI.int {K : PySem.W.Frag} {H : Hp} (i : Int) : PlainI K H (.int i) true := ⟨.type "int", true, .base (.int i), kit_ty (by decide +kernel), (fun h => nomatch h), fun _ => ⟨false, kit_ty (by decide +kernel), rfl⟩⟩
theorem PlainI.same {K : PySem.W.Frag} {H H' : Hp} (s : Same H H') {x : V} {b : Bool} (h : PlainI K H x b) : PlainI K H' x b := let ⟨t, b1, ty, r⟩ := h; ⟨t, b1, TyX.same s ty, r⟩
/-- is x an integer from lo to hi: the answer -/
def InR (K : PySem.W.Frag) (H : Hp) (x : V) (lo hi : Int) (b : Bool) : Prop := (∃ i, x = .int i ∧ b = (decide (lo ≤ i) && decide (i ≤ hi))) ∨ (PlainI K H x false ∧ b = false)
theorem InR.same {K : PySem.W.Frag} {H H' : Hp} (s : Same H H') {x : V} {lo hi : Int} {b : Bool} (h : InR K H x lo hi b) : InR K H' x lo hi b := h.elim .inl fun ⟨p, e⟩ => .inr ⟨p.same s, e⟩
theorem InR.good {K : PySem.W.Frag} {H : Hp} {i lo hi : Int} (h1 : lo ≤ i) (h2 : i ≤ hi) : InR K H (.int i) lo hi true := .inl ⟨i, rfl, by rw [decide_eq_true h1, decide_eq_true h2]; rfl⟩
end Com
namespace Com
open PySem PySem.Spec PyProof.Rows L2
theorem pe_gint {X : Cx} {x : Str} {i : Int} {t : Tok} {pos : Pos} (hg : Gl X x) (hm : X.mg x = some (.int i t)) (hd : (x == ("__debug__" : Str)) = false := by decide) : PE X (.Name x pos) (tC (.int i)) := pe_glob (v := .int i) hg hm ⟨t, rfl⟩ hd
end Com
namespace Com
open PySem PySem.Spec PyProof.Rows L2
theorem pe_gcls {X : Cx} {x : Str} {C : Addr} {pos : Pos} (hg : Gl X x) (hm : X.mg x = some (.ref C)) (hd : (x == ("__debug__" : Str)) = false := by decide) : PE X (.Name x pos) (tC (.ref C)) := pe_glob (v := .ref C) hg hm rfl hd
end Com
namespace Com
open PySem PySem.Spec PyProof.Rows L2
/-- all pairs, ascending -/
def rowL (i m : Nat) : List (Int × Int) := (List.range m).map fun (j : Nat) => ((i : Int), (j : Int))
def pairsL (n m : Nat) : List (Int × Int) := (List.range n).flatMap fun i => rowL i m
theorem rowL_succ (i m : Nat) : rowL i (m + 1) = rowL i m ++ [((i : Int), (m : Int))] := by
  unfold rowL
  rw [List.range_succ, List.map_append]
  rfl
theorem pairsL_succ (n m : Nat) : pairsL (n + 1) m = pairsL n m ++ rowL n m := by
  unfold pairsL
  rw [List.range_succ, List.flatMap_append]
  simp
theorem rowL_len (i m : Nat) : (rowL i m).length = m := by simp [rowL]
theorem pairsL_len (n m : Nat) : (pairsL n m).length = n * m := by
  induction n with
  | zero => simp [pairsL]
  | succ n ih => rw [pairsL_succ, List.length_append, ih, rowL_len, Nat.succ_mul]
end Com
namespace Com
open PySem PySem.Spec PyProof.Rows L2
/-! ### the rules whose readings name the written part, with that part a letter of ours -/
def rLen (K : PySem.W.Frag) : List V → Hp → VK → Prop := fun xs H Q => ∃ p ys, xs = [.ref p] ∧ (SqL K H p ys ∨ SqT K H p ys) ∧ Q (.int (ys.length : Nat)) H
def rListOf (K : PySem.W.Frag) : List V → Hp → VK → Prop := fun xs H Q => ∃ p ys, xs = [.ref p] ∧ (SqL K H p ys ∨ SqT K H p ys) ∧ ∀ l, H l = none → Q (.ref l) (upd H l (.lst ys))
def rTupleOf (K : PySem.W.Frag) : List V → Hp → VK → Prop := fun xs H Q => ∃ p ys, xs = [.ref p] ∧ ((SqL K H p ys ∧ ∀ l, H l = none → Q (.ref l) (upd H l (.tup ys))) ∨ (SqT K H p ys ∧ Q (.ref p) H))
section
variable {X : Cx} {K : PySem.W.Frag} {e o value : Expr} {f : Str} {pos pos' : Pos} {ta tv tl : TE} {tg : Expr}
theorem pe_fldK (K : PySem.W.Frag) (he : PE X e ta) (hb : attributeBase e f X.env (eval e X.env) = eval e X.env := by rfl) (hK : X.K = K := by rfl) : PE X (.Attribute e f pos) (tFld K ta f) := by subst hK; exact pe_fld he hb
theorem ps_fldK (K : PySem.W.Frag) (ha : PE X o ta) (hv : PE X value tv) (hs : swapsWith value (some (.Attribute o f pos')) pos.line X.env = pure false := by rfl) (hK : X.K = K := by rfl) : PS X (.Assign [.Attribute o f pos'] value pos) (sFld K ta tv f) := by subst hK; exact ps_fld ha hv hs
theorem cl_len (K : PySem.W.Frag) (hK : X.K = K := by rfl) : CallR X (.builtin "len") (rLen K) := by subst hK; exact call_len_seq
theorem cl_isi (K : PySem.W.Frag) (hK : X.K = K := by rfl) : CallR X (.builtin "isinstance") (rIsi K) := by subst hK; exact call_isi
theorem cl_list (K : PySem.W.Frag) (hK : X.K = K := by rfl) : CallR X (.type "list") (rListOf K) := by subst hK; exact call_list_of
theorem cl_tuple (K : PySem.W.Frag) (hK : X.K = K := by rfl) : CallR X (.type "tuple") (rTupleOf K) := by subst hK; exact call_tuple_of
theorem cl_all (K : PySem.W.Frag) (hc : X.calm = true := by rfl) (hK : X.K = K := by rfl) : CallR X (.builtin "all") (rAll K) := by subst hK; exact cr_all hc
theorem cl_any (K : PySem.W.Frag) (hc : X.calm = true := by rfl) (hK : X.K = K := by rfl) : CallR X (.builtin "any") (rAny K) := by subst hK; exact cr_any hc
theorem cl_sum (K : PySem.W.Frag) (hc : X.calm = true := by rfl) (hK : X.K = K := by rfl) : CallR X (.builtin "sum") (rSum K) := by subst hK; exact cr_sum hc
theorem ixL (K : PySem.W.Frag) (hK : X.K = K := by rfl) : IxR X (rIxL K) := by subst hK; exact ix_list
theorem ixT (K : PySem.W.Frag) (hK : X.K = K := by rfl) : IxR X (rIxT K) := by subst hK; exact ix_tup
theorem getL (K : PySem.W.Frag) (hK : X.K = K := by rfl) : PGet X (rIxL K) := by subst hK; exact get_list
theorem eqD (K : PySem.W.Frag) (hu : X.A.units + 64 < cLine) (hK : X.K = K := by rfl) : OpR X (compareOp .Eq) (rEqD K) := by subst hK; exact op_eqD hu
theorem neD (K : PySem.W.Frag) (hu : X.A.units + 64 < cLine) (hK : X.K = K := by rfl) : OpR X (compareOp .NotEq) (rNeD K) := by subst hK; exact op_neD hu
theorem inS (K : PySem.W.Frag) (hK : X.K = K := by rfl) : OpR X (compareOp .In) (rIn K false) := by subst hK; exact op_in_seq
theorem notInS (K : PySem.W.Frag) (hK : X.K = K := by rfl) : OpR X (compareOp .NotIn) (rIn K true) := by subst hK; exact op_notIn_seq
theorem piL (K : PySem.W.Frag) {l : Expr} (hl : PE X l tl) (hK : X.K = K := by rfl) : PI X tg l (iList K tl) := by subst hK; exact pi_list hl
theorem piT (K : PySem.W.Frag) {l : Expr} (hl : PE X l tl) (hK : X.K = K := by rfl) : PI X tg l (iTup K tl) := by subst hK; exact pi_tup hl
theorem slA (K : PySem.W.Frag) (hK : X.K = K := by rfl) : SlR X (rSlA K) := by subst hK; exact sl_tupA
theorem slL (K : PySem.W.Frag) (hK : X.K = K := by rfl) : SlR X (rSlL K) := by subst hK; exact sl_list
theorem catA (K : PySem.W.Frag) (hK : X.K = K := by rfl) : OpR X (binaryOp .Add) (rCatA K) := by subst hK; exact op_catA
theorem repT (K : PySem.W.Frag) (hK : X.K = K := by rfl) : OpR X (binaryOp .Mult) (rRepT K) := by subst hK; exact op_repT
theorem eqO (K : PySem.W.Frag) {CX : CXT} {k j : Nat} {C : Addr} {sp : Sp} {E : XK} (M : MethOk X.prog X.w X.K X.mg X.base CX j C "__eq__" sp) (hr : Room k X.A) (hjk : j ≤ k) (hx : Passes CX X E) (hK : X.K = K := by rfl) : OpR X (compareOp .Eq) (rEqO K C sp E) := by subst hK; exact op_eqO M hr hjk hx
end
end Com
namespace Com
open PySem PySem.Spec PyProof.Rows L2
/-! ### tuple * int, any count from 1 on -/
theorem tuple_mul1 (l : Addr) (items : Array Value) (n : Nat) (dd : Option Addr) (sl : Array (Option Value)) (u : Tok) :
    Meets (Builtin.«tuple.__mul__» ⟨[.ref l, .int 1 u], []⟩) (fun _ R s => s.heap.get? l = some { cls := .type "tuple", dict := dd, data := .seq items n, slots := sl } ∧ R (.ok (.ret (.ref l))) s) :=
  .of_wp fun prog w A R s h => by
    obtain ⟨hp, g, d, tk, os⟩ := s
    obtain ⟨hl, h⟩ := h
    have f1 := AutoSeq1.idx_int
    have c1 : (items.isEmpty || (1 : Int) == 1) = true := by simp
    wp_walk using wpAny_loadPart' hl
    repeat (first
      | (refine wpAny_ite_true (decide_eq_true c1) ?_; wp_walk using wpAny_loadPart' hl)
      | (refine wpAny_ite_false (decide_eq_false (by decide)) ?_; wp_walk using wpAny_loadPart' hl))
    exact ⟨_, rfl, h⟩
def rRep1 (K : PySem.W.Frag) : R2 := fun x y H Q => ∃ l xs, x = .ref l ∧ y = .int 1 ∧ SqT K H l xs ∧ Q (.ref l) H
theorem op_rep1 {X : Cx} : OpR X (binaryOp .Mult) (rRep1 X.K) := by
  intro pins s σ H x y v u Q I rx ry h
  obtain ⟨l, xs, rfl, rfl, hT, q⟩ := h
  cases rx
  obtain ⟨t, rfl⟩ := ry
  obtain ⟨its, r, ⟨⟨cls, dd, data, sl⟩, ho, hc, n, hd⟩, hs⟩ := I.tuple hT
  simp only at hc hd
  subst hc hd
  refine wpAny_binaryOp_repeat_ref (T := "tuple") (U := "int") (by decide) ⟨_, ho, rfl⟩ (fun s' => typeIs_int s' 1 t) noFill_tuple_mul F.fills_int_mul F.slot_int_rmul repeat_tuple F.slot_int_index.lookup
    (call_meets F.slot_int_rmul (typeIs_int s 1 t) F.entry_int_rmul (F.args_int_rmul_2 _ _) (int_rmul_tuple 1 t l its.toArray n dd sl)
      ⟨ho, rfl, ⟨_, ho, rfl⟩, call_meets F.slot_tuple_mul ⟨_, ho, rfl⟩ F.entry_tuple_mul (F.args_tuple_mul_2 _ _) (tuple_mul1 l its.toArray n dd sl t) ⟨ho, ?_⟩⟩)
  exact ⟨.ref l, H, I, rfl, q⟩
/-- the repeated tuple stands at p -/
def rRepA (K : PySem.W.Frag) : R2 := fun x y H Q => ∃ l k xs, x = .ref l ∧ y = .int k ∧ H l = some (.tup xs) ∧ xs ≠ [] ∧ 1 ≤ k ∧ k ≤ 1000 ∧ xs.length ≤ 1000 ∧ ∀ p H', (H' p = some (.tup (List.replicate k.toNat xs).flatten)) → Same H H' → Q (.ref p) H'
theorem repA {X : Cx} (K : PySem.W.Frag) (hK : X.K = K := by rfl) : OpR X (binaryOp .Mult) (rRepA K) := by
  subst hK
  intro pins s σ H x y v u Q I rx ry h
  obtain ⟨l, k, xs, e1, e2, hT, hne, h1, h2, hz, q⟩ := h
  by_cases hk : k = 1
  · subst hk
    exact op_rep1 pins s σ H x y v u Q I rx ry ⟨l, xs, e1, e2, SqT.of hT, q l H (by rw [hT]; simp) (Same.refl H)⟩
  · exact op_repT pins s σ H x y v u Q I rx ry ⟨l, k, xs, e1, e2, SqT.of hT, hne, by omega, h2, hz, fun p hp => q p _ upd_same (Com.Same.upd hp)⟩
end Com
namespace Com
open PySem PySem.Spec PyProof.Rows L2
/-! ### tuples: slices, sums, whichever object comes -/
def rCutT : V → Option Int → Option Int → Hp → VK → Prop := fun x lo hi H Q => ∃ a xs, x = .ref a ∧ H a = some (.tup xs) ∧ ∀ p H', H' p = some (.tup (cutV xs lo hi)) → Same H H' → Q (.ref p) H'
theorem slT {X : Cx} : SlR X rCutT := by
  intro x v vl vu lo hi sl Q I rx hs pl pu h
  revert x v vl vu lo hi sl Q I rx hs pl pu h
  intro pins s σ H x v vl vu lo hi sl Q I rx hs pl pu h
  obtain ⟨a, xs, rfl, hx, q⟩ := h
  refine sl_tupA pins s σ H (.ref a) v vl vu lo hi sl Q I rx hs pl pu ⟨a, xs, rfl, SqT.of hx, fun w => q a H ?_ (Same.refl H), fun _ p hp => q p _ upd_same (Com.Same.upd hp)⟩
  have e : cutV xs lo hi = xs := by
    unfold cutV
    rw [w.1, w.2, List.drop_zero, Nat.sub_zero, List.take_length]
  rw [e]
  exact hx
def rCatB : R2 := fun x y H Q => ∃ a b xs ys, x = .ref a ∧ y = .ref b ∧ H a = some (.tup xs) ∧ H b = some (.tup ys) ∧ xs.length + ys.length ≤ 1000 ∧ ∀ p H', H' p = some (.tup (xs ++ ys)) → Same H H' → Q (.ref p) H'
theorem catB {X : Cx} : OpR X (binaryOp .Add) rCatB := by
  intro pins s σ H x y v u Q I rx ry h
  obtain ⟨a, b, xs, ys, e1, e2, ha, hb, hz, q⟩ := h
  refine op_catA pins s σ H x y v u Q I rx ry ⟨a, b, xs, ys, e1, e2, SqT.of ha, SqT.of hb, len1 hz, fun e => q b H ?_ (Same.refl H), fun _ e => q a H ?_ (Same.refl H), fun _ _ p hp => q p _ upd_same (Com.Same.upd hp)⟩
  · rw [e, List.nil_append]; exact hb
  · rw [e, List.append_nil]; exact ha
theorem cut_init (xs : List V) (v : V) : cutV (xs ++ [v]) none (some (-1)) = xs := by
  unfold cutV
  have e : HT.sIx (xs ++ [v]).length (xs ++ [v]).length (some (-1)) = xs.length := by
    show (if (-1 : Int) < 0 then (-1 + ((xs ++ [v]).length : Int)).toNat else min (-1 : Int).toNat (xs ++ [v]).length) = xs.length
    rw [if_pos (by decide), List.length_append, List.length_singleton]
    omega
  rw [e, HT.sIx_none (xs ++ [v]).length 0, List.drop_zero, Nat.sub_zero]
  simp
end Com
namespace Com
open PySem PySem.Spec PyProof.Rows L2
theorem kit_self {K : PySem.W.Frag} {t : Value} : PySem.W.kitOne K t t = some true := by
  unfold PySem.W.kitOne
  rw [if_pos (by simp)]
theorem kit_own {K : PySem.W.Frag} {t : Value} {C : Addr} {b : Bool} (ic : PySem.W.isClsIn K C = true) (ty : PySem.W.typeIn K (.ref C) = some (.type "type")) (s : PySem.W.subIn K t (.ref C) = some b) (ne : (t == Value.ref C) = false) : PySem.W.kitOne K t (.ref C) = some b := by
  unfold PySem.W.kitOne
  rw [ne, if_neg Bool.false_ne_true]
  show (if ((PySem.W.clsIn K C).isSome && PySem.W.typeIn K (.ref C) == some (.type "type")) = true then PySem.W.subIn K t (.ref C) else none) = some b
  have h1 : (PySem.W.clsIn K C).isSome = true := ic
  rw [h1, ty, if_pos (by rfl)]
  exact s
theorem kit_type {K : PySem.W.Frag} {t : Value} {n : String} {b : Bool} (hm : PySem.W.kitMeta n = true) (s : PySem.W.subIn K t (.type n) = some b) (ne : (t == Value.type n) = false) : PySem.W.kitOne K t (.type n) = some b := by
  unfold PySem.W.kitOne
  rw [ne, if_neg Bool.false_ne_true]
  show (if PySem.W.kitMeta n = true then PySem.W.subIn K t (.type n) else none) = some b
  rw [if_pos hm]
  exact s
end Com
set_option Elab.async false
set_option linter.all false
set_option maxRecDepth 100000
set_option maxHeartbeats 4000000
namespace K03
open PySem PySem.Spec PyProof.Rows L2 Com
def top (i : Nat) : Stmt := PySem.Challenge.pw_callsthrough_k03_exchange_turned.main.body.getD i (.Pass ⟨0, 0, 0, 0⟩)
local macro_rules | `(tactic| walk_at "rd1") => `(tactic| (first
  | refine ⟨_, rfl, ?_⟩
  | refine ⟨_, _, rfl, rfl, ?_⟩
  | refine ⟨.inl ⟨by decide, by decide⟩, ?_⟩
  | refine ⟨.inr ⟨by decide, by decide⟩, ?_⟩
  | refine ⟨(by decide : (0 : Int) < _), ?_⟩
  | refine ⟨⟨by decide, by decide⟩, ?_⟩
  | refine ⟨⟨by decide, by decide, by decide⟩, ?_⟩
  | refine ⟨rfl, ?_⟩
  | refine .inl ⟨_, rfl, ?_⟩
  | refine .inr ⟨_, rfl, ?_⟩
  | refine ⟨_, _, _, _, rfl, rfl, SqL.of upd_same, rfl, ?_⟩
  | refine ⟨_, _, _, _, rfl, rfl, upd_same, rfl, ?_⟩
  | refine ⟨mulm (by decide) (by decide), ?_⟩
  | refine ⟨_, _, _, _, rfl, rfl, SqL.of (by assumption), rfl, ?_⟩
  | refine ⟨_, _, _, _, rfl, rfl, (by assumption), rfl, ?_⟩))
local macro_rules | `(tactic| walk_at "rd") => `(tactic| repeat (walk_at "rd1"))
/-- the module's names that are built-ins, its constants -/
structure Blt (mg : Str → Option Value) : Prop where
  z_len : mg "len" = none
  z_abs : mg "abs" = none
  z_int : mg "int" = none
  z_bool : mg "bool" = none
  z_tuple : mg "tuple" = none
  z_list : mg "list" = none
  z_isinstance : mg "isinstance" = none
  z_all : mg "all" = none
  z_range : mg "range" = none
  c_MOST_SWITCHES : ∃ t, mg "MOST_SWITCHES" = some (.int 4 t)
  c_MOST_DOORS : ∃ t, mg "MOST_DOORS" = some (.int 4 t)
  c_MOST_MIDDLES : ∃ t, mg "MOST_MIDDLES" = some (.int 7 t)
/-! ### the draws -/
def spFlow (K : PySem.W.Frag) : Sp := fun vs H Q _ => ∃ (a : Addr) (ns : List Int) (k : Nat), vs = [.ref a, .int (k : Int)] ∧ SqL K H a (ns.map V.int) ∧ ns.length ≤ 63 ∧ k ≤ 1000 ∧
  ∀ p H', H p = none → FlowAt H' p → But p H H' → Q (.ref p) H'
def spPick : Sp := fun vs H Q _ => ∃ (a : Addr) (size : Int), vs = [.ref a, .int size] ∧ FlowAt H a ∧ 1 ≤ size ∧ size < 2 ^ 200 ∧
  ∀ d H', 0 ≤ d → d < size → FlowAt H' a → But a H H' → Q (.int d) H'
section
variable {P : Program} {w : World} {K : PySem.W.Frag} {mg : Str → Option Value} {base : Heap}
abbrev s_flow : Stmt := top 13
abbrev N_flow : List Str := ["_law_script", "_law_k", "_law_cell", "_law_number"]
theorem sc_flow : FnScope N_flow ["_law_script", "_law_k"] (defScope s_flow) := ⟨rfl, rfl, rfl, by decide +kernel, rfl, by decide +kernel, by decide +kernel⟩
theorem ok_flow (T : Blt mg) (D : DefAt K mg "_law_flow" s_flow ["_law_script", "_law_k"]) : DefOk P w K mg base CX0 1 "_law_flow" (spFlow K) := by
  refine D.ok sc_flow (fun vs H Q E h => ?_) (fun f cdv A outer s H vs Q E hr h => ?_)
  · obtain ⟨a, ns, k, rfl, _⟩ := h
    rfl
  obtain ⟨a, ns, k, rfl, hS, hl, hk, q⟩ := h
  refine ⟨_, (pss_cons (ps_set (i := 2) sc_flow.nd rfl (Or.inl rfl) pe_int)
  (pss_cons (ps_if (pt_cmpR op_lt (pv 1) (pe_callB (cl_len K) (by rfl) T.z_len (by decide +kernel) (pa_cons (pv 0) pa_nil)) (nomark _))
    (pss_one (ps_set (i := 2) sc_flow.nd rfl (Or.inl rfl) (pe_ix (ixL K) (pv 0) (pv 1) (fun _ _ => rfl))))
    pss_nil)
  (pss_cons (ps_set (i := 3) sc_flow.nd rfl (Or.inl rfl) (pe_op op_add (pe_op op_mul pe_int (pe_callB call_abs (by rfl) T.z_abs (by decide +kernel) (pa_cons (pv 2) pa_nil))) (pe_callTy call_int1 (by rfl) T.z_int (by decide +kernel) (pa_cons (pe_cmpR op_lt (pv 2) pe_int (nomark _)) pa_nil))))
  (pss_cons (ps_if (pt_cmpR op_ge (pv 3) (pe_op op_pow pe_int pe_int) (nomark _))
    (pss_one (ps_ret (pe_lst (pa_cons (pv 3) (pa_cons pe_int (pa_cons (pe_op op_mod (pe_callTy call_int1 (by rfl) T.z_int (by decide +kernel) (pa_cons (pv 3) pa_nil)) pe_int) pa_nil))))))
    pss_nil)
  (pss_one (ps_ret (pe_lst (pa_cons pe_int (pa_cons pe_int (pa_cons (pe_op op_mod (pe_callTy call_int1 (by rfl) T.z_int (by decide +kernel) (pa_cons (pe_op op_add (pe_op op_add (pv 3) (pe_op op_mul pe_int (pv 1))) pe_int) pa_nil)) pe_int) pa_nil)))))))))), ?_⟩
  refine ⟨_, rfl, _, rfl, a, _, rfl, .inl hS, _, _, rfl, rfl, _, rfl, ?_⟩
  refine ifB (fun c => ?_) (fun c => ?_)
  · have hk' : k < ns.length := by
      have c' := of_decide_eq_true c
      rw [List.length_map] at c'
      omega
    refine ⟨_, rfl, _, rfl, a, _, _, _, rfl, rfl, hS, atI_nat (j := k) (v := V.int ns[k]) (by rw [List.getElem?_map, List.getElem?_eq_getElem hk']; rfl), ?_⟩
    walk_at "rd"
    refine ifB (fun _ => ?_) (fun _ => ?_) <;> walk_at "rd" <;> exact ⟨by show 3 ≤ sizeLine; decide, fun p hp => q p _ hp .new .upd⟩
  · walk_at "rd"
    exact ⟨by show 3 ≤ sizeLine; decide, fun p hp => q p _ hp .new .upd⟩
abbrev s_pick : Stmt := top 14
abbrev N_pick : List Str := ["_law_flow_here", "_law_size", "_law_digit", "_law_number"]
theorem sc_pick : FnScope N_pick ["_law_flow_here", "_law_size"] (defScope s_pick) := ⟨rfl, rfl, rfl, by decide +kernel, rfl, by decide +kernel, by decide +kernel⟩
theorem ok_pick (T : Blt mg) (D : DefAt K mg "_law_pick" s_pick ["_law_flow_here", "_law_size"]) : DefOk P w K mg base CX0 1 "_law_pick" spPick := by
  refine D.ok sc_pick (fun vs H Q E h => ?_) (fun f cdv A outer s H vs Q E hr h => ?_)
  · obtain ⟨a, size, rfl, _⟩ := h
    rfl
  obtain ⟨a, size, rfl, ⟨n, c, r, h0⟩, s1, s2, q⟩ := h
  refine ⟨_, (pss_cons (ps_if (PW.pt (pw_and (pt_cmpR op_ge (pe_ix (ixL K) (pv 0) pe_int (fun _ _ => rfl)) (pv 1) (nomark _)) (pw_and1 (pt_cmpR op_gt (pe_ix (ixL K) (pv 0) pe_int (fun _ _ => rfl)) pe_int (nomark _)))))
    (pss_cons (ps_set (i := 2) sc_pick.nd rfl (Or.inl rfl) (pe_op op_mod (pe_callTy call_int1 (by rfl) T.z_int (by decide +kernel) (pa_cons (pe_ix (ixL K) (pv 0) pe_int (fun _ _ => rfl)) pa_nil)) (pv 1)))
    (pss_cons (ps_asg (pe_op op_fdivW (pe_ix (ixL K) (pv 0) pe_int (fun _ _ => rfl)) (pv 1)) (pg_sub (pv 0) pe_int set_list))
    (pss_one (ps_ret (pv 2)))))
    pss_nil)
  (pss_cons (ps_augS (pv 0) pe_int (getL K) pe_int ip_add set_list)
  (pss_cons (ps_set (i := 3) sc_pick.nd rfl (Or.inl rfl) (pe_op op_mod (pe_callTy call_int1 (by rfl) T.z_int (by decide +kernel) (pa_cons (pe_op op_mul (pe_op op_add (pe_op op_add (pe_ix (ixL K) (pv 0) pe_int (fun _ _ => rfl)) (pe_op op_mul pe_int (pe_ix (ixL K) (pv 0) pe_int (fun _ _ => rfl)))) pe_int) pe_int) pa_nil)) pe_int))
  (pss_cons (ps_set (i := 3) sc_pick.nd rfl (Or.inl rfl) (pe_op op_mod (pe_callTy call_int1 (by rfl) T.z_int (by decide +kernel) (pa_cons (pe_op op_mul (pv 3) (pe_op op_add (pe_op op_fdiv (pv 3) pe_int) pe_int)) pa_nil)) pe_int))
  (pss_cons (ps_set (i := 3) sc_pick.nd rfl (Or.inl rfl) (pe_op op_mod (pe_callTy call_int1 (by rfl) T.z_int (by decide +kernel) (pa_cons (pe_op op_mul (pv 3) (pe_op op_add (pe_op op_fdiv (pv 3) pe_int) pe_int)) pa_nil)) pe_int))
  (pss_one (ps_ret (pe_op op_mod (pe_op op_fdiv (pv 3) pe_int) (pv 1))))))))), ?_⟩
  walk_at "rd"
  refine ifB (fun c1 => ?_) (fun c1 => ?_)
  · walk_at "rd"
    refine ifB (fun c2 => ?_) (fun c2 => ?_)
    · walk_at "rd"
      refine ⟨(by show 0 < size; omega), ?_⟩
      walk_at "rd"
      refine ⟨divW s1 s2, ?_⟩
      walk_at "rd"
      exact q _ _ (Int.emod_nonneg _ (by omega)) (Int.emod_lt_of_pos _ (by omega)) .new .upd
    · walk_at "rd"
      refine ⟨(by show 0 < size; omega), ?_⟩
      exact q _ _ (Int.emod_nonneg _ (by omega)) (Int.emod_lt_of_pos _ (by omega)) .new .upd
  · walk_at "rd"
    refine ⟨(by show 0 < size; omega), ?_⟩
    exact q _ _ (Int.emod_nonneg _ (by omega)) (Int.emod_lt_of_pos _ (by omega)) .new .upd
end
/-! ### kinds -/
def spPlain (K : PySem.W.Frag) : Sp := fun vs H Q _ => ∃ x b, vs = [x] ∧ PlainI K H x b ∧ Q (.bl b) H
section
variable {P : Program} {w : World} {K : PySem.W.Frag} {mg : Str → Option Value} {base : Heap}
abbrev s_is_plain_int : Stmt := top 4
abbrev N_is_plain_int : List Str := ["value"]
theorem sc_is_plain_int : FnScope N_is_plain_int ["value"] (defScope s_is_plain_int) := ⟨rfl, rfl, rfl, by decide +kernel, rfl, by decide +kernel, by decide +kernel⟩
theorem ok_is_plain_int (T : Blt mg) (D : DefAt K mg "is_plain_int" s_is_plain_int ["value"]) : DefOk P w K mg base CX0 1 "is_plain_int" (spPlain K) := by
  refine D.ok sc_is_plain_int (fun vs H Q E h => ?_) (fun f cdv A outer s H vs Q E hr h => ?_)
  · obtain ⟨x, b, rfl, _⟩ := h
    rfl
  obtain ⟨x, b, rfl, ⟨t, b1, ty, k1, kF, kT⟩, q⟩ := h
  refine ⟨_, (pss_one (ps_ret (pe_and (pe_callB (cl_isi K) (by rfl) T.z_isinstance (by decide +kernel) (pa_cons (pv 0) (pa_cons (pe_bltn (v := .ty "int") (by rfl) T.z_int (by decide +kernel) rfl) pa_nil))) (pe_one (pe_not (pe_callB (cl_isi K) (by rfl) T.z_isinstance (by decide +kernel) (pa_cons (pv 0) (pa_cons (pe_bltn (v := .ty "bool") (by rfl) T.z_bool (by decide +kernel) rfl) pa_nil)))))))), ?_⟩
  refine ⟨_, rfl, x, _, t, _, b1, rfl, .ty "int", ty, k1, _, rfl, ?_⟩
  refine ifB (fun c => ?_) (fun c => ?_)
  · obtain ⟨b2, k2, rfl⟩ := kT c
    exact ⟨_, rfl, x, _, t, _, b2, rfl, .ty "bool", ty, k2, _, rfl, q⟩
  · rw [kF c] at q
    exact q
end
/-! ### exchanges -/
def spWithin (K : PySem.W.Frag) : Sp := fun vs H Q _ => ∃ x lo hi b, vs = [x, .int lo, .int hi] ∧ InR K H x lo hi b ∧ Q (.bl b) H
section
variable {P : Program} {w : World} {K : PySem.W.Frag} {mg : Str → Option Value} {base : Heap}
abbrev s_is_int_within : Stmt := top 5
abbrev N_is_int_within : List Str := ["value", "low", "high"]
theorem sc_is_int_within : FnScope N_is_int_within ["value", "low", "high"] (defScope s_is_int_within) := ⟨rfl, rfl, rfl, by decide +kernel, rfl, by decide +kernel, by decide +kernel⟩
theorem ok_is_int_within (T : Blt mg) (D_is_plain_int : DefOk P w K mg base CX0 1 "is_plain_int" (spPlain K)) (D : DefAt K mg "is_int_within" s_is_int_within ["value", "low", "high"]) : DefOk P w K mg base CX0 2 "is_int_within" (spWithin K) := by
  refine D.ok sc_is_int_within (fun vs H Q E h => ?_) (fun f cdv A outer s H vs Q E hr h => ?_)
  · obtain ⟨x, lo, hi, b, rfl, _⟩ := h
    rfl
  obtain ⟨x, lo, hi, b, rfl, hx, q⟩ := h
  refine ⟨_, (pss_one (ps_ret (pe_and (pe_def D_is_plain_int hr (by decide) pass0 (pa_cons (pv 0) pa_nil)) (pe_one (pe_chain op_le op_le (pv 1) (pv 0) (pv 2)))))), ?_⟩
  rcases hx with ⟨i, rfl, rfl⟩ | ⟨hp, rfl⟩
  · refine ⟨_, rfl, _, true, rfl, PlainI.int i, _, rfl, iteT ?_⟩
    walk_at "rd"
    refine ifB (fun c => ?_) (fun c => ?_)
    · walk_at "rd"
      rw [c] at q
      exact q
    · rw [c] at q
      exact q
  · refine ⟨_, rfl, _, false, rfl, hp, _, rfl, iteF ?_⟩
    exact q
end
/-- a side: a tuple of 1 to 4 integers from 1 to 4; the answer for any value -/
def SideV (K : PySem.W.Frag) (H : Hp) (x : V) (b : Bool) : Prop :=
  (∃ (a : Addr) (xs : List V) (bs : List Bool), x = .ref a ∧ H a = some (.tup xs) ∧ bs.length = xs.length ∧ (∀ (i : Nat) v c, xs[i]? = some v → bs[i]? = some c → InR K H v 1 4 c) ∧ b = (decide (1 ≤ xs.length) && decide (xs.length ≤ 4) && bs.all id)) ∨
  (∃ t, TyX K H x t ∧ PySem.W.kitOne K t (.type "tuple") = some false ∧ b = false)
def spSide (K : PySem.W.Frag) : Sp := fun vs H Q _ => ∃ x b, vs = [x] ∧ SideV K H x b ∧ ∀ H', Same H H' → Q (.bl b) H'
section
variable {P : Program} {w : World} {K : PySem.W.Frag} {mg : Str → Option Value} {base : Heap}
abbrev s_is_side : Stmt := top 10
abbrev N_is_side : List Str := ["value", "doors"]
theorem sc_is_side : FnScope N_is_side ["value"] (defScope s_is_side) := ⟨rfl, rfl, rfl, by decide +kernel, rfl, by decide +kernel, by decide +kernel⟩
theorem ok_is_side (T : Blt mg) (D_is_int_within : DefOk P w K mg base CX0 2 "is_int_within" (spWithin K)) (D : DefAt K mg "_is_side" s_is_side ["value"]) : DefOk P w K mg base CX0 3 "_is_side" (spSide K) := by
  refine D.ok sc_is_side (fun vs H Q E h => ?_) (fun f cdv A outer s H vs Q E hr h => ?_)
  · obtain ⟨x, b, rfl, _⟩ := h
    rfl
  obtain ⟨x, b, rfl, hx, q⟩ := h
  obtain ⟨t1, c_MOST_SWITCHES⟩ := T.c_MOST_SWITCHES
  obtain ⟨t2, c_MOST_DOORS⟩ := T.c_MOST_DOORS
  refine ⟨_, (pss_cons (ps_if (PW.pt (pw_or (pt_not (pt_val (pe_callB (cl_isi K) (by rfl) T.z_isinstance (by decide +kernel) (pa_cons (pv 0) (pa_cons (pe_bltn (v := .ty "tuple") (by rfl) T.z_tuple (by decide +kernel) rfl) pa_nil))))) (pw_or1 (pt_not (pt_chain op_le op_le pe_int (pe_callB (cl_len K) (by rfl) T.z_len (by decide +kernel) (pa_cons (pv 0) pa_nil)) (pe_gint (by rfl) c_MOST_SWITCHES))))))
    (pss_one (ps_ret pe_bl))
    pss_nil)
  (pss_one (ps_ret (pe_callB (cl_all K) (by rfl) T.z_all (by decide +kernel) (pa_cons (pe_lc (own := [("doors", 1)]) (g := gName 1) (tt := tYes) rfl sc_is_side.nd (piT K (pv 0)) (blkOk_by (N := N_is_side) (sc := defScope s_is_side) (by decide +kernel)) (fun _ _ _ _ _ => (pg_name (i := 1) sc_is_side.nd rfl (Or.inl rfl))) (fun _ _ _ _ _ => pts_nil) (fun _ _ _ _ _ => (pe_def D_is_int_within hr (by decide) pass0 (pa_cons (pv 1) (pa_cons pe_int (pa_cons (pe_gint (by rfl) c_MOST_DOORS) pa_nil)))))) pa_nil))))), ?_⟩
  rcases hx with ⟨a, xs, bs, rfl, hxs, hl, hin, rfl⟩ | ⟨t, ty, k1, rfl⟩
  · refine ⟨_, rfl, _, _, .type "tuple", _, true, rfl, .ty "tuple", .base (.tup hxs), kit_ty (by decide +kernel), _, rfl, iteF ?_⟩
    walk_at "rd"
    refine ⟨a, xs, rfl, .inr (SqT.of hxs), ?_⟩
    walk_at "rd"
    refine ifB (fun c1 => ?_) (fun c1 => ?_)
    · walk_at "rd"
      have c1' := of_decide_eq_true c1
      by_cases c2 : xs.length ≤ 4
      · rw [show decide ((xs.length : Int) ≤ 4) = true from decide_eq_true (by omega)]
        refine iteF ?_
        refine ⟨_, rfl, a, rfl, ⟨_, SqT.of hxs⟩, fun D hD => lp_tup (K := K) (xs := xs) (fun i H' => H' D = some (.lst ((bs.take i).map V.bl)) ∧ But D H H')
          ⟨upd_same, .upd⟩ (fun i H' _ p => SqT.of (by rw [p.2 a (ne_of_none hxs hD)]; exact hxs)) ?_ ?_⟩
        · rintro i v H' hi ⟨h1, h2⟩
          have hib : i < bs.length := by rw [hl]; exact (List.getElem?_eq_some_iff.mp hi).1
          refine ⟨rfl, ?_⟩
          refine ⟨_, rfl, v, 1, 4, bs[i], rfl, (hin i v _ hi (List.getElem?_eq_getElem hib)).same (h2.same hD), _, h1, ?_, ?_⟩
          · rw [List.length_map, List.length_take]
            exact small1000 (by omega)
          · refine ⟨?_, fun b hb => ?_⟩
            · show upd H' D _ D = _
              rw [upd_same, List.take_add_one, List.map_append, List.getElem?_eq_getElem hib]
              rfl
            · rw [upd_ne hb]
              exact h2 b hb
        · rintro H' ⟨h1, h2⟩
          refine ⟨D, bs, rfl, SqL.of (by rw [h1, List.take_of_length_le (by omega)]), ?_⟩
          have := q H' (h2.same hD)
          rw [decide_eq_true (by omega : 1 ≤ xs.length), decide_eq_true c2] at this
          exact this
      · rw [show decide ((xs.length : Int) ≤ 4) = false from decide_eq_false (by omega)]
        refine iteT ?_
        have := q H (Same.refl H)
        rw [decide_eq_false c2, Bool.and_false, Bool.false_and] at this
        exact this
    · have c1' := of_decide_eq_false c1
      have := q H (Same.refl H)
      rw [decide_eq_false (by omega : ¬ 1 ≤ xs.length), Bool.false_and, Bool.false_and] at this
      exact ⟨_, rfl, this⟩
  · refine ⟨_, rfl, x, _, t, _, false, rfl, .ty "tuple", ty, k1, _, rfl, iteT ?_⟩
    exact q H (Same.refl H)
end
/-! ### the class Exchange, by good arguments -/
def exF (i o : Addr) (m : Int) : List (Str × V) := [("ins", .ref i), ("outs", .ref o), ("middles", .int m)]
/-- an exchange at p: its sides at i, o -/
def ExO (C : Addr) (H : Hp) (p i o : Addr) (m : Int) : Prop := ∃ dx, H p = some (.ins C dx (exF i o m))
def Good (ds : List Int) : Prop := 1 ≤ ds.length ∧ ds.length ≤ 4 ∧ ∀ d ∈ ds, 1 ≤ d ∧ d ≤ 4
def Tup (H : Hp) (i : Addr) (ds : List Int) : Prop := H i = some (.tup (ds.map V.int))
theorem Good.side {K : PySem.W.Frag} {H : Hp} {i : Addr} {ds : List Int} (g : Good ds) (h : Tup H i ds) : SideV K H (.ref i) true := by
  obtain ⟨g1, g2, g3⟩ := g
  refine .inl ⟨i, _, List.replicate ds.length true, rfl, h, by simp, fun j v c h1 h2 => ?_, ?_⟩
  · rw [List.getElem?_map] at h1
    cases e : ds[j]? with
    | none =>
      rw [e] at h1
      cases h1
    | some z =>
      rw [e] at h1
      cases h1
      have hc : c = true := by
        have := List.mem_of_getElem? h2
        exact (List.mem_replicate.mp this).2
      subst hc
      have hz := g3 z (List.mem_of_getElem? e)
      exact InR.good hz.1 hz.2
  · rw [List.length_map, decide_eq_true g1, decide_eq_true g2]
    simp
/-- what the top has made of the class -/
structure ExT (K : PySem.W.Frag) (mg : Str → Option Value) (C : Addr) : Prop where
  cl : Cls K C
  nI : NoAttr K C "ins"
  nO : NoAttr K C "outs"
  nM : NoAttr K C "middles"
  ca : PySem.W.findIn K (.ref C) "__class__" = some (some (.builtin "object.__class__"))
  cn : PySem.W.specialIn K (.builtin "object.__class__") "__get__" = some (some (.builtin "getset_descriptor.__get__"))
  ct : PySem.W.takesIn K (.builtin "object.__class__") = some true
  cm : PySem.W.mroIn K C (.type "object") = some true
  kS : PySem.W.kitOne K (.ref C) (.ref C) = some true
  kT : PySem.W.kitOne K (.type "tuple") (.ref C) = some false
  kI : PySem.W.kitOne K (.type "int") (.ref C) = some false
  fS : PySem.W.notFirst K C (.ref C) = true
  fT : PySem.W.notFirst K C (.type "tuple") = true
  fI : PySem.W.notFirst K C (.type "int") = true
  g_Exchange : mg "Exchange" = some (.ref C)
theorem exTy {K : PySem.W.Frag} {mg : Str → Option Value} {C : Addr} (T : ExT K mg C) {H : Hp} {p dx : Addr} {fs : List (Str × V)} (h : H p = some (.ins C dx fs)) : TyX K H (.ref p) (.ref C) := .base (.ins h T.cl T.ca T.cn T.ct T.cm)
def Old (p : Addr) (H H' : Hp) : Prop := ∀ b o, H b = some o → b ≠ p → H' b = some o
def spInit (C : Addr) : Sp := fun vs H Q _ => ∃ (p dx i o : Addr) (ds es : List Int) (m : Int), vs = [.ref p, .ref i, .ref o, .int m] ∧ H p = some (.ins C dx []) ∧ Tup H i ds ∧ Good ds ∧ Tup H o es ∧ Good es ∧ 1 ≤ m ∧ m ≤ 7 ∧
  ∀ H', ExO C H' p i o m → Old p H H' → Q .non H'
theorem no1 : ¬ (("ins" : Str) = "outs") := by decide +kernel
theorem no2 : ¬ (("ins" : Str) = "middles") := by decide +kernel
theorem no3 : ¬ (("outs" : Str) = "middles") := by decide +kernel
theorem exF_put (i o : Addr) (m : Int) : putF "middles" (.int m) (putF "outs" (.ref o) (putF "ins" (.ref i) [])) = exF i o m := by
  rw [putF_nil, putF_ne no1, putF_nil, putF_ne no2, putF_ne no3, putF_nil]
  rfl
theorem exF_ins (i o : Addr) (m : Int) : (exF i o m).lookup ("ins" : Str) = some (.ref i) := lk_eq
theorem exF_outs (i o : Addr) (m : Int) : (exF i o m).lookup ("outs" : Str) = some (.ref o) := by
  unfold exF
  rw [lk_ne (by decide +kernel), lk_eq]
theorem exF_middles (i o : Addr) (m : Int) : (exF i o m).lookup ("middles" : Str) = some (.int m) := by
  unfold exF
  rw [lk_ne (by decide +kernel), lk_ne (by decide +kernel), lk_eq]
theorem exF_no (i o : Addr) (m : Int) {f : Str} (h1 : (f == ("ins" : Str)) = false) (h2 : (f == ("outs" : Str)) = false) (h3 : (f == ("middles" : Str)) = false) : (exF i o m).lookup f = none := by
  unfold exF
  rw [lk_ne h1, lk_ne h2, lk_ne h3]
  rfl
theorem Same.tup {H H' : Hp} (s : Same H H') {i : Addr} {ds : List Int} (h : Tup H i ds) : Tup H' i ds := s _ _ h
theorem Same.exO {C : Addr} {H H' : Hp} (s : Same H H') {p i o : Addr} {m : Int} (h : ExO C H p i o m) : ExO C H' p i o m := let ⟨dx, e⟩ := h; ⟨dx, s _ _ e⟩
section
variable {P : Program} {w : World} {K : PySem.W.Frag} {mg : Str → Option Value} {base : Heap} {C : Addr}
abbrev s_Exchange___init : Stmt := inClass (top 11) 0
abbrev N_Exchange___init : List Str := ["self", "ins", "outs", "middles"]
theorem sc_Exchange___init : FnScope N_Exchange___init ["self", "ins", "outs", "middles"] (defScope s_Exchange___init) := ⟨rfl, rfl, rfl, by decide +kernel, rfl, by decide +kernel, by decide +kernel⟩
theorem ok_init (T : Blt mg) (X : ExT K mg C) (D_is_side : DefOk P w K mg base CX0 3 "_is_side" (spSide K)) (D_is_int_within : DefOk P w K mg base CX0 2 "is_int_within" (spWithin K))
    (D : MethAt K C "__init__" "Exchange.__init__" s_Exchange___init ["self", "ins", "outs", "middles"]) : MethOk P w K mg base CX0 4 C "__init__" (spInit C) := by
  refine D.fn sc_Exchange___init (fun vs H Q E h => ?_) (fun f cdv A outer s H vs Q E hr h => ?_)
  · obtain ⟨p, dx, i, o, ds, es, m, rfl, _⟩ := h
    rfl
  obtain ⟨p, dx, i, o, ds, es, m, rfl, hp, hi, gi, ho, go, m1, m2, q⟩ := h
  obtain ⟨t1, c_MOST_MIDDLES⟩ := T.c_MOST_MIDDLES
  refine ⟨_, (pss_cons (ps_if (pt_not (pt_val (pe_def D_is_side hr (by decide) pass0 (pa_cons (pv 1) pa_nil))))
    (pss_one ps_never)
    pss_nil)
  (pss_cons (ps_if (pt_not (pt_val (pe_def D_is_side hr (by decide) pass0 (pa_cons (pv 2) pa_nil))))
    (pss_one ps_never)
    pss_nil)
  (pss_cons (ps_if (pt_not (pt_val (pe_def D_is_int_within hr (by decide) pass0 (pa_cons (pv 3) (pa_cons pe_int (pa_cons (pe_gint (by rfl) c_MOST_MIDDLES) pa_nil))))))
    (pss_one ps_never)
    pss_nil)
  (pss_cons (ps_fldK K (pv 0) (pv 1))
  (pss_cons (ps_fldK K (pv 0) (pv 2))
  (pss_one (ps_fldK K (pv 0) (pv 3)))))))), ?_⟩
  refine ⟨_, rfl, _, true, rfl, gi.side hi, fun H1 s1 => ⟨_, rfl, ?_⟩⟩
  refine ⟨_, rfl, _, true, rfl, go.side (Same.tup s1 ho), fun H2 s2 => ⟨_, rfl, ?_⟩⟩
  refine ⟨_, rfl, _, _, _, true, rfl, InR.good m1 m2, _, rfl, ?_⟩
  have hp2 : H2 p = some (.ins C dx []) := s2 _ _ (s1 _ _ hp)
  refine ⟨_, rfl, _, rfl, p, C, dx, [], rfl, hp2, X.cl, X.nI, (by show 0 < 1000; decide), ?_⟩
  refine ⟨_, rfl, _, rfl, p, C, dx, _, rfl, upd_same, X.cl, X.nO, (by rw [putF_nil]; show 1 < 1000; decide), ?_⟩
  refine ⟨_, rfl, _, rfl, p, C, dx, _, rfl, upd_same, X.cl, X.nM, (by rw [putF_nil, putF_ne no1, putF_nil]; show 2 < 1000; decide), ?_⟩
  refine q _ ⟨dx, by rw [upd_same, exF_put]⟩ fun b u hb ne => ?_
  rw [upd_ne ne, upd_ne ne, upd_ne ne]
  exact s2 _ _ (s1 _ _ hb)
end
end K03
set_option Elab.async false
set_option linter.all false
set_option maxRecDepth 100000
set_option maxHeartbeats 4000000
namespace K03
open PySem PySem.Spec PyProof.Rows L2 Com
local macro_rules | `(tactic| walk_at "rd1") => `(tactic| (first
  | refine ⟨_, rfl, ?_⟩
  | refine ⟨_, _, rfl, rfl, ?_⟩
  | refine ⟨.inl ⟨by decide, by decide⟩, ?_⟩
  | refine ⟨.inr ⟨by decide, by decide⟩, ?_⟩
  | refine ⟨(by decide : (0 : Int) < _), ?_⟩
  | refine ⟨⟨by decide, by decide⟩, ?_⟩
  | refine ⟨⟨by decide, by decide, by decide⟩, ?_⟩
  | refine ⟨rfl, ?_⟩
  | refine .inl ⟨_, rfl, ?_⟩
  | refine .inr ⟨_, rfl, ?_⟩
  | refine ⟨_, _, _, _, rfl, rfl, SqL.of upd_same, rfl, ?_⟩
  | refine ⟨_, _, _, _, rfl, rfl, upd_same, rfl, ?_⟩
  | refine ⟨mulm (by decide) (by decide), ?_⟩
  | refine ⟨_, _, _, _, rfl, rfl, SqL.of (by assumption), rfl, ?_⟩
  | refine ⟨_, _, _, _, rfl, rfl, (by assumption), rfl, ?_⟩))
local macro_rules | `(tactic| walk_at "rd") => `(tactic| repeat (walk_at "rd1"))
/-! ### the methods of an exchange -/
theorem new_ex {C : Addr} {H : Hp} {Q : VK} {E : XK} {i o : Addr} {ds es : List Int} {m : Int} (hi : Tup H i ds) (gi : Good ds) (ho : Tup H o es) (go : Good es) (m1 : 1 ≤ m) (m2 : m ≤ 7)
    (q : ∀ x H', H x = none → ExO C H' x i o m → Same H H' → Q (.ref x) H') : ∀ x dx, H x = none → H dx = none → dx ≠ x →
    spInit C (.ref x :: [.ref i, .ref o, .int m]) (upd (upd H dx (.own x)) x (.ins C dx [])) (fun v H2 => v = .non ∧ Q (.ref x) H2) E := by
  intro x dx hx hdx ne
  refine ⟨x, dx, i, o, ds, es, m, rfl, upd_same, ?_, gi, ?_, go, m1, m2, fun H' ex old => ⟨rfl, q x H' hx ex (Same.made hx hdx old)⟩⟩
  · show upd _ _ _ i = _
    rw [upd_ne (ne_of_none hi hx), upd_ne (ne_of_none hi hdx)]
    exact hi
  · show upd _ _ _ o = _
    rw [upd_ne (ne_of_none ho hx), upd_ne (ne_of_none ho hdx)]
    exact ho
theorem new_ex' {C : Addr} {H : Hp} {R : VK} {E : XK} {i o x dx : Addr} {ds es : List Int} {m : Int} (hi : Tup H i ds) (gi : Good ds) (ho : Tup H o es) (go : Good es) (m1 : 1 ≤ m) (m2 : m ≤ 7) (hx : H x = none) (hdx : H dx = none)
    (q : ∀ H', ExO C H' x i o m → Same H H' → R .non H') : spInit C (.ref x :: [.ref i, .ref o, .int m]) (upd (upd H dx (.own x)) x (.ins C dx [])) R E := by
  refine ⟨x, dx, i, o, ds, es, m, rfl, upd_same, ?_, gi, ?_, go, m1, m2, fun H' ex old => q H' ex (Same.made hx hdx old)⟩
  · show upd _ _ _ i = _
    rw [upd_ne (ne_of_none hi hx), upd_ne (ne_of_none hi hdx)]
    exact hi
  · show upd _ _ _ o = _
    rw [upd_ne (ne_of_none ho hx), upd_ne (ne_of_none ho hdx)]
    exact ho
/-- p an exchange whose sides at i, o are ds, es -/
structure ExAt (C : Addr) (H : Hp) (p i o : Addr) (ds es : List Int) (m : Int) : Prop where
  ob : ExO C H p i o m
  ti : Tup H i ds
  gi : Good ds
  to : Tup H o es
  go : Good es
  m1 : 1 ≤ m
  m2 : m ≤ 7
theorem ExAt.same {C : Addr} {H H' : Hp} {p i o : Addr} {ds es : List Int} {m : Int} (s : Same H H') (h : ExAt C H p i o ds es m) : ExAt C H' p i o ds es m := ⟨Same.exO s h.ob, Same.tup s h.ti, h.gi, Same.tup s h.to, h.go, h.m1, h.m2⟩
def spWith (C : Addr) : Sp := fun vs H Q _ => ∃ (p i o : Addr) (ds es : List Int) (m m' : Int), vs = [.ref p, .int m'] ∧ ExAt C H p i o ds es m ∧ 1 ≤ m' ∧ m' ≤ 7 ∧ ∀ x H', H x = none → ExAt C H' x i o ds es m' → Same H H' → Q (.ref x) H'
def spTurned (C : Addr) : Sp := fun vs H Q _ => ∃ (p i o : Addr) (ds es : List Int) (m : Int), vs = [.ref p] ∧ ExAt C H p i o ds es m ∧ ∀ x H', H x = none → ExAt C H' x o i es ds m → Same H H' → Q (.ref x) H'
def spSquare (C : Addr) : Sp := fun vs H Q _ => ∃ (s d m : Int), vs = [.ref C, .int s, .int d, .int m] ∧ 1 ≤ s ∧ s ≤ 4 ∧ 1 ≤ d ∧ d ≤ 4 ∧ 1 ≤ m ∧ m ≤ 7 ∧
  ∀ x i H', H x = none → ExAt C H' x i i (List.replicate s.toNat d) (List.replicate s.toNat d) m → Same H H' → Q (.ref x) H'
def spEq (K : PySem.W.Frag) (C : Addr) : Sp := fun vs H Q _ => ∃ (p i o : Addr) (ds es : List Int) (m : Int) (y : V) (b : Bool), vs = [.ref p, y] ∧ ExAt C H p i o ds es m ∧
  ((∃ (p' i' o' : Addr) (ds' es' : List Int) (m' : Int), y = .ref p' ∧ ExAt C H p' i' o' ds' es' m' ∧ b = (decide (ds = ds') && (decide (es = es') && decide (m = m')))) ∨ (∃ t, TyX K H y t ∧ PySem.W.kitOne K t (.ref C) = some false ∧ b = false)) ∧ Q (.bl b) H
theorem rep_good {s d : Int} (s1 : 1 ≤ s) (s2 : s ≤ 4) (d1 : 1 ≤ d) (d2 : d ≤ 4) : Good (List.replicate s.toNat d) := by
  refine ⟨by rw [List.length_replicate]; omega, by rw [List.length_replicate]; omega, fun z hz => ?_⟩
  rw [(List.mem_replicate.mp hz).2]
  exact ⟨d1, d2⟩
section
variable {P : Program} {w : World} {K : PySem.W.Frag} {mg : Str → Option Value} {base : Heap} {C : Addr}
abbrev s_Exchange_with_middles : Stmt := inClass (top 11) 2
abbrev N_Exchange_with_middles : List Str := ["self", "middles"]
theorem sc_Exchange_with_middles : FnScope N_Exchange_with_middles ["self", "middles"] (defScope s_Exchange_with_middles) := ⟨rfl, rfl, rfl, by decide +kernel, rfl, by decide +kernel, by decide +kernel⟩
theorem ok_with (X : ExT K mg C) (M_Exchange : NewOk P w K mg base CX0 4 "Exchange" C (spInit C)) (D : MethAt K C "with_middles" "Exchange.with_middles" s_Exchange_with_middles ["self", "middles"]) : MethOk P w K mg base CX0 6 C "with_middles" (spWith C) := by
  refine D.fn sc_Exchange_with_middles (fun vs H Q E h => ?_) (fun f cdv A outer s H vs Q E hr h => ?_)
  · obtain ⟨p, i, o, ds, es, m, m', rfl, _⟩ := h
    rfl
  obtain ⟨p, i, o, ds, es, m, m', rfl, x, m1, m2, q⟩ := h
  obtain ⟨dx, hp⟩ := x.ob
  refine ⟨_, (pss_one (ps_ret (pe_new M_Exchange hr (by decide) pass0 (pa_cons (pe_fldK K (pv 0)) (pa_cons (pe_fldK K (pv 0)) (pa_cons (pv 1) pa_nil)))))), ?_⟩
  exact ⟨_, rfl, p, C, dx, _, _, rfl, hp, X.cl, X.nI, exF_ins _ _ _, _, rfl, p, C, dx, _, _, rfl, hp, X.cl, X.nO, exF_outs _ _ _, _, rfl,
    new_ex x.ti x.gi x.to x.go m1 m2 fun x' H' hx e s => q x' H' hx ⟨e, Same.tup s x.ti, x.gi, Same.tup s x.to, x.go, m1, m2⟩ s⟩
abbrev s_Exchange_turned : Stmt := inClass (top 11) 3
abbrev N_Exchange_turned : List Str := ["self"]
theorem sc_Exchange_turned : FnScope N_Exchange_turned ["self"] (defScope s_Exchange_turned) := ⟨rfl, rfl, rfl, by decide +kernel, rfl, by decide +kernel, by decide +kernel⟩
theorem ok_turned (X : ExT K mg C) (M_Exchange : NewOk P w K mg base CX0 4 "Exchange" C (spInit C)) (D : MethAt K C "turned" "Exchange.turned" s_Exchange_turned ["self"]) : MethOk P w K mg base CX0 6 C "turned" (spTurned C) := by
  refine D.fn sc_Exchange_turned (fun vs H Q E h => ?_) (fun f cdv A outer s H vs Q E hr h => ?_)
  · obtain ⟨p, i, o, ds, es, m, rfl, _⟩ := h
    rfl
  obtain ⟨p, i, o, ds, es, m, rfl, x, q⟩ := h
  obtain ⟨dx, hp⟩ := x.ob
  refine ⟨_, (pss_one (ps_ret (pe_new M_Exchange hr (by decide) pass0 (pa_cons (pe_fldK K (pv 0)) (pa_cons (pe_fldK K (pv 0)) (pa_cons (pe_fldK K (pv 0)) pa_nil)))))), ?_⟩
  exact ⟨_, rfl, p, C, dx, _, _, rfl, hp, X.cl, X.nO, exF_outs _ _ _, _, rfl, p, C, dx, _, _, rfl, hp, X.cl, X.nI, exF_ins _ _ _, _, rfl, p, C, dx, _, _, rfl, hp, X.cl, X.nM, exF_middles _ _ _,
    new_ex x.to x.go x.ti x.gi x.m1 x.m2 fun x' H' hx e s => q x' H' hx ⟨e, Same.tup s x.to, x.go, Same.tup s x.ti, x.gi, x.m1, x.m2⟩ s⟩
abbrev s_Exchange___eq : Stmt := inClass (top 11) 1
abbrev N_Exchange___eq : List Str := ["self", "other"]
theorem sc_Exchange___eq : FnScope N_Exchange___eq ["self", "other"] (defScope s_Exchange___eq) := ⟨rfl, rfl, rfl, by decide +kernel, rfl, by decide +kernel, by decide +kernel⟩
theorem ok_eq (X : ExT K mg C) (T : Blt mg) (D : MethAt K C "__eq__" "Exchange.__eq__" s_Exchange___eq ["self", "other"]) : MethOk P w K mg base CX0 1 C "__eq__" (spEq K C) := by
  refine D.fn sc_Exchange___eq (fun vs H Q E h => ?_) (fun f cdv A outer s H vs Q E hr h => ?_)
  · obtain ⟨p, i, o, ds, es, m, y, b, rfl, _⟩ := h
    rfl
  obtain ⟨p, i, o, ds, es, m, y, b, rfl, x, hy, q⟩ := h
  obtain ⟨dx, hp⟩ := x.ob
  have hu := hr.units
  refine ⟨_, (pss_one (ps_ret (pe_and (pe_callB (cl_isi K) (by rfl) T.z_isinstance (by decide +kernel) (pa_cons (pv 1) (pa_cons (pe_gcls (by rfl) X.g_Exchange) pa_nil)))
    (pe_and (pe_cmpR (eqD K hu) (pe_fldK K (pv 0)) (pe_fldK K (pv 1)) (nomark _)) (pe_and (pe_cmpR (eqD K hu) (pe_fldK K (pv 0)) (pe_fldK K (pv 1)) (nomark _)) (pe_one (pe_cmpR op_eq (pe_fldK K (pv 0)) (pe_fldK K (pv 1)) (nomark _)))))))), ?_⟩
  rcases hy with ⟨p', i', o', ds', es', m', rfl, x', rfl⟩ | ⟨t, ty, k1, rfl⟩
  · obtain ⟨dx', hp'⟩ := x'.ob
    refine ⟨_, rfl, _, .ref C, _, .ref C, true, rfl, .own C, exTy X hp', X.kS, _, rfl, ?_⟩
    refine ⟨_, rfl, p, C, dx, _, _, rfl, hp, X.cl, X.nI, exF_ins _ _ _, _, rfl, p', C, dx', _, _, rfl, hp', X.cl, X.nI, exF_ins _ _ _, _, _, dp_tI x.ti, dp_tI x'.ti, shaped_tI _, shaped_tI _, _, rfl, ?_⟩
    rw [eqv_tI]
    refine ifB (fun c => ?_) (fun c => ?_)
    · rw [c, Bool.true_and] at q
      refine ⟨_, rfl, p, C, dx, _, _, rfl, hp, X.cl, X.nO, exF_outs _ _ _, _, rfl, p', C, dx', _, _, rfl, hp', X.cl, X.nO, exF_outs _ _ _, _, _, dp_tI x.to, dp_tI x'.to, shaped_tI _, shaped_tI _, _, rfl, ?_⟩
      rw [eqv_tI]
      refine ifB (fun c => ?_) (fun c => ?_)
      · rw [c, Bool.true_and] at q
        refine ⟨_, rfl, p, C, dx, _, _, rfl, hp, X.cl, X.nM, exF_middles _ _ _, _, rfl, p', C, dx', _, _, rfl, hp', X.cl, X.nM, exF_middles _ _ _, rfl, ?_⟩
        have e : decide (V.int m = V.int m') = decide (m = m') := by simp
        rw [e]
        exact q
      · rw [c, Bool.false_and] at q
        exact q
    · rw [c, Bool.false_and] at q
      exact q
  · refine ⟨_, rfl, y, .ref C, t, .ref C, false, rfl, .own C, ty, k1, _, rfl, ?_⟩
    exact q
end
/-! ### pairs, square -/
def spPairs (C : Addr) : Sp := fun vs H Q _ => ∃ (p i o : Addr) (ds es : List Int) (m : Int), vs = [.ref p] ∧ ExAt C H p i o ds es m ∧ ∀ D H' xs, H D = none → H' D = some (.lst xs) → PairsV H' xs (pairsL ds.length es.length) → Same H H' → Q (.ref D) H'
section
variable {P : Program} {w : World} {K : PySem.W.Frag} {mg : Str → Option Value} {base : Heap} {C : Addr}
abbrev s_Exchange_pairs : Stmt := inClass (top 11) 4
abbrev N_Exchange_pairs : List Str := ["self", "i", "o"]
theorem sc_Exchange_pairs : FnScope N_Exchange_pairs ["self"] (defScope s_Exchange_pairs) := ⟨rfl, rfl, rfl, by decide +kernel, rfl, by decide +kernel, by decide +kernel⟩
theorem ok_pairs (X : ExT K mg C) (T : Blt mg) (D : MethAt K C "pairs" "Exchange.pairs" s_Exchange_pairs ["self"]) : MethOk P w K mg base CX0 1 C "pairs" (spPairs C) := by
  refine D.fn sc_Exchange_pairs (fun vs H Q E h => ?_) (fun f cdv A outer s H vs Q E hr h => ?_)
  · obtain ⟨p, i, o, ds, es, m, rfl, _⟩ := h
    rfl
  obtain ⟨p, i, o, ds, es, m, rfl, x, q⟩ := h
  obtain ⟨dx, hp⟩ := x.ob
  have l1 : (ds.map V.int).length = ds.length := List.length_map ..
  have l2 : (es.map V.int).length = es.length := List.length_map ..
  have g1 := x.gi.2.1
  have g2 := x.go.2.1
  refine ⟨_, (pss_one (ps_ret (pe_lc2 (own := [("i", 1), ("o", 2)]) (vs1 := [2]) (g := gName 1) (g1 := gName 2) (tt := tYes) (tt1 := tYes) rfl sc_Exchange_pairs.nd (pi_range1 (by rfl) T.z_range (pa_cons (pe_callB (cl_len K) (by rfl) T.z_len (by decide +kernel) (pa_cons (pe_fldK K (pv 0)) pa_nil)) pa_nil)) (blkOk_by (N := N_Exchange_pairs) (sc := defScope s_Exchange_pairs) (by decide +kernel)) (by decide) (fun _ _ _ _ _ => by exact (pg_name (i := 1) sc_Exchange_pairs.nd rfl (Or.inl rfl))) (fun _ _ _ _ _ => by exact pts_nil) (fun _ _ _ _ _ => by exact (pi_range1 (by rfl) T.z_range (pa_cons (pe_callB (cl_len K) (by rfl) T.z_len (by decide +kernel) (pa_cons (pe_fldK K (pv 0)) pa_nil)) pa_nil))) (fun _ _ _ _ _ => by exact (pg_name (i := 2) sc_Exchange_pairs.nd rfl (Or.inl rfl))) (fun _ _ _ _ _ => by exact pts_nil) (fun _ _ _ _ _ => by exact (pe_tup (pa_cons (pv 1) (pa_cons (pv 2) pa_nil))))))), ?_⟩
  refine ⟨_, rfl, p, C, dx, _, _, rfl, hp, X.cl, X.nI, exF_ins _ _ _, i, _, rfl, .inr (SqT.of x.ti), _, rfl, by omega, by omega, fun D hD => ?_⟩
  have nn : ∀ {b : Addr} {u : HO}, H b = some u → b ≠ D := fun e => ne_of_none e hD
  refine lp_range (lo := 0) (fun k H' => ∃ xs, H' D = some (.lst xs) ∧ PairsV H' xs (pairsL k es.length) ∧ Same H H') ⟨[], upd_same, .nil, Com.Same.upd hD⟩ ?_ ?_
  · rintro k H1 hk ⟨xs, h1, p1, s1⟩
    refine ⟨rfl, ?_⟩
    refine ⟨_, rfl, p, C, dx, _, _, rfl, s1 _ _ hp, X.cl, X.nO, exF_outs _ _ _, o, _, rfl, .inr (SqT.of (s1 _ _ x.to)), _, rfl, by omega, by omega, ?_⟩
    refine lp_range (lo := 0) (fun j H' => ∃ xs, H' D = some (.lst xs) ∧ PairsV H' xs (pairsL k es.length ++ rowL k j) ∧ Same H H') ⟨xs, h1, by simpa [rowL] using p1, s1⟩ ?_ ?_
    · rintro j H2 hj ⟨ys, h2, p2, s2⟩
      have hl := Paired.length p2
      rw [List.length_append, pairsL_len, rowL_len] at hl
      have hj' : j < es.length := by omega
      have hk' : k < ds.length := by omega
      have hm : k * es.length ≤ 4 * 4 := Nat.mul_le_mul (by omega) g2
      refine ⟨rfl, ?_⟩
      refine ⟨_, rfl, _, rfl, (by show 2 ≤ sizeLine; decide), fun t ht => ?_⟩
      have nt : D ≠ t := ne_of_none h2 ht
      refine ⟨ys, by rw [upd_ne nt]; exact h2, small1000 (by omega), ys ++ [.ref t], upd_same, ?_, ?_⟩
      · rw [rowL_succ, ← List.append_assoc]
        refine Paired.snoc (PairsV.mono (fun b u e => ?_) p2) ⟨t, rfl, ?_⟩
        · have n1 : b ≠ D := fun z => by rw [z, h2] at e; cases e
          rw [upd_ne n1, upd_ne (ne_of_none e ht)]
          exact e
        · rw [upd_ne nt.symm, upd_same]
          simp
      · intro b u e
        rw [upd_ne (nn e), upd_ne (ne_of_none (s2 _ _ e) ht)]
        exact s2 _ _ e
    · rintro H2 ⟨ys, h2, p2, s2⟩
      refine ⟨ys, h2, ?_, s2⟩
      rw [pairsL_succ]
      have e : (((es.map V.int).length : Nat) : Int).toNat = es.length := by omega
      rw [e] at p2
      exact p2
  · rintro H1 ⟨xs, h1, p1, s1⟩
    have e : (((ds.map V.int).length : Nat) : Int).toNat = ds.length := by omega
    rw [e] at p1
    exact q D H1 xs hD h1 p1 s1
end
theorem rep_tup {H : Hp} {i : Addr} {z d : Int} (hi : H i = some (.tup (List.replicate z.toNat [V.int d]).flatten)) : Tup H i (List.replicate z.toNat d) := by
  show H i = _
  rw [hi]
  congr 2
  rw [List.map_replicate]
  induction z.toNat with
  | zero => rfl
  | succ n ih => rw [List.replicate_succ, List.replicate_succ, List.flatten_cons, ih]; rfl
section
variable {P : Program} {w : World} {K : PySem.W.Frag} {mg : Str → Option Value} {base : Heap} {C : Addr}
abbrev s_Exchange_square : Stmt := inClass (top 11) 5
abbrev N_Exchange_square : List Str := ["cls", "size", "doors", "middles", "side"]
theorem sc_Exchange_square : FnScope N_Exchange_square ["cls", "size", "doors", "middles"] (defScope s_Exchange_square) := ⟨rfl, rfl, rfl, by decide +kernel, rfl, by decide +kernel, by decide +kernel⟩
/-- square as the class hands it -/
structure SqAt (K : PySem.W.Frag) (C : Addr) : Prop where
  ex : ∃ (mc : Value) (p g : Addr) (fd : FuncData), ClX.CRead K C mc ∧ ClX.CMet K C mc "square" p g ∧ Fun K "square" "Exchange.square" s_Exchange_square g fd ∧ Binds K fd ["cls", "size", "doors", "middles"] []
theorem ok_square (X : ExT K mg C) (T : Blt mg) (M_new : NewOk P w K mg base CX0 4 "Exchange" C (spInit C)) (D_is_int_within : DefOk P w K mg base CX0 2 "is_int_within" (spWithin K)) (D : SqAt K C) : CMethOk P w K mg base CX0 6 C "square" (spSquare C) := by
  obtain ⟨mc, pc, g, fd, c1, c2, F, b⟩ := D.ex
  refine ⟨mc, pc, g, c1, c2, raw0 (F.ok sc_Exchange_square (fun vs H Q E h => ?_) (fun cdv A outer s H vs Q E hr h => ?_)) b⟩
  · obtain ⟨z, d, m, rfl, _⟩ := h
    rfl
  obtain ⟨z, d, m, rfl, z1, z2, d1, d2, m1, m2, q⟩ := h
  obtain ⟨t1, c_MOST_SWITCHES⟩ := T.c_MOST_SWITCHES
  obtain ⟨t2, c_MOST_DOORS⟩ := T.c_MOST_DOORS
  refine ⟨_, (pss_cons (ps_if (pt_not (pt_val (pe_def D_is_int_within hr (by decide) pass0 (pa_cons (pv 1) (pa_cons pe_int (pa_cons (pe_gint (by rfl) c_MOST_SWITCHES) pa_nil))))))
    (pss_one ps_never)
    pss_nil)
  (pss_cons (ps_if (pt_not (pt_val (pe_def D_is_int_within hr (by decide) pass0 (pa_cons (pv 2) (pa_cons pe_int (pa_cons (pe_gint (by rfl) c_MOST_DOORS) pa_nil))))))
    (pss_one ps_never)
    pss_nil)
  (pss_cons (ps_set (i := 4) sc_Exchange_square.nd rfl (Or.inl rfl) (pe_op (repA K) (pe_tup (pa_cons (pv 2) pa_nil)) (pv 1)))
  (pss_one (ps_ret (pe_newL (i := 0) M_new hr (by decide) pass0 (pa_cons (pv 4) (pa_cons (pv 4) (pa_cons (pv 3) pa_nil))))))))), ?_⟩
  refine ⟨_, rfl, _, _, _, true, rfl, InR.good z1 z2, _, rfl, ?_⟩
  refine ⟨_, rfl, _, _, _, true, rfl, InR.good d1 d2, _, rfl, ?_⟩
  refine ⟨_, rfl, (by show 1 ≤ sizeLine; decide), fun t ht => ⟨_, rfl, t, z, _, rfl, rfl, upd_same, (by simp), z1, by omega, (by show 1 ≤ 1000; decide), fun i H1 hi s1 => ?_⟩⟩
  have s0 : Same H H1 := (Com.Same.upd ht).trans s1
  have ti : Tup H1 i (List.replicate z.toNat d) := rep_tup hi
  have gg := rep_good z1 z2 d1 d2
  refine ⟨rfl, _, rfl, _, rfl, _, rfl, new_ex ti gg ti gg m1 m2 fun x H' hx e s2 => ?_⟩
  exact q x i H' (s0.free hx) ⟨e, Same.tup s2 ti, gg, Same.tup s2 ti, gg, m1, m2⟩ (s0.trans s2)
end
end K03
set_option Elab.async false
set_option linter.all false
set_option maxRecDepth 100000
set_option maxHeartbeats 4000000
namespace K03
open PySem PySem.Spec PyProof.Rows L2 Com
local macro_rules | `(tactic| walk_at "rd1") => `(tactic| (first
  | refine ⟨_, rfl, ?_⟩
  | refine ⟨_, _, rfl, rfl, ?_⟩
  | refine ⟨.inl ⟨by decide, by decide⟩, ?_⟩
  | refine ⟨.inr ⟨by decide, by decide⟩, ?_⟩
  | refine ⟨(by decide : (0 : Int) < _), ?_⟩
  | refine ⟨⟨by decide, by decide⟩, ?_⟩
  | refine ⟨⟨by decide, by decide, by decide⟩, ?_⟩
  | refine ⟨rfl, ?_⟩
  | refine .inl ⟨_, rfl, ?_⟩
  | refine .inr ⟨_, rfl, ?_⟩
  | refine ⟨_, _, _, _, rfl, rfl, SqL.of upd_same, rfl, ?_⟩
  | refine ⟨_, _, _, _, rfl, rfl, upd_same, rfl, ?_⟩
  | refine ⟨mulm (by decide) (by decide), ?_⟩
  | refine ⟨_, _, _, _, rfl, rfl, SqL.of (by assumption), rfl, ?_⟩
  | refine ⟨_, _, _, _, rfl, rfl, (by assumption), rfl, ?_⟩))
local macro_rules | `(tactic| walk_at "rd") => `(tactic| repeat (walk_at "rd1"))
/-! ### the law's own helpers -/
def spDoors : Sp := fun vs H Q _ => ∃ (a : Addr) (most d : Int), vs = [.ref a, .int most, .int d] ∧ FlowAt H a ∧ 1 ≤ most ∧ most ≤ 4 ∧ 1 ≤ d ∧ d ≤ 4 ∧
  ∀ i ds H', H i = none → Tup H' i ds → Good ds → FlowAt H' a → Old a H H' → Q (.ref i) H'
def spFlag : Sp := fun vs H Q _ => ∃ (a b : Bool), vs = [.bl a, .bl b] ∧ Q (.bl (decide (a = b))) H
def spIs (C : Addr) : Sp := fun vs H Q _ => ∃ (p i o i' o' : Addr) (ds es : List Int) (m : Int), vs = [.ref p, .ref i', .ref o', .int m] ∧ ExAt C H p i o ds es m ∧ Tup H i' ds ∧ Tup H o' es ∧ Q (.bl true) H
theorem small200 {x : Int} (h : x ≤ 1000) : x < 2 ^ 200 := by
  have : (1000 : Int) < 2 ^ 200 := by decide
  omega
theorem But.old {a : Addr} {H H' : Hp} (h : But a H H') : Old a H H' := fun b o e ne => by rw [h b ne]; exact e
theorem Old.trans {a : Addr} {H H1 H2 : Hp} (h : Old a H H1) (g : Old a H1 H2) : Old a H H2 := fun b o e ne => g b o (h b o e ne) ne
section
variable {P : Program} {w : World} {K : PySem.W.Frag} {mg : Str → Option Value} {base : Heap} {C : Addr}
abbrev s_doors : Stmt := top 15
abbrev N_doors : List Str := ["_law_flow_here", "_law_most", "_law_doors_here", "_law_k"]
theorem sc_doors : FnScope N_doors ["_law_flow_here", "_law_most", "_law_doors_here"] (defScope s_doors) := ⟨rfl, rfl, rfl, by decide +kernel, rfl, by decide +kernel, by decide +kernel⟩
theorem ok_doors (T : Blt mg) (D_pick : DefOk P w K mg base CX0 1 "_law_pick" spPick) (D : DefAt K mg "_law_doors" s_doors ["_law_flow_here", "_law_most", "_law_doors_here"]) : DefOk P w K mg base CX0 2 "_law_doors" spDoors := by
  refine D.ok sc_doors (fun vs H Q E h => ?_) (fun f cdv A outer s H vs Q E hr h => ?_)
  · obtain ⟨a, most, d, rfl, _⟩ := h
    rfl
  obtain ⟨a, most, d, rfl, f0, t1, t2, d1, d2, q⟩ := h
  refine ⟨_, (pss_one (ps_ret (pe_callTy (cl_tuple K) (by rfl) T.z_tuple (by decide +kernel) (pa_cons (pe_lc (own := [("_law_k", 3)]) (g := gName 3) (tt := tYes) rfl sc_doors.nd (pi_range1 (by rfl) T.z_range (pa_cons (pe_op op_add pe_int (pe_def D_pick hr (by decide) pass0 (pa_cons (pv 0) (pa_cons (pv 1) pa_nil)))) pa_nil)) (blkOk_by (N := N_doors) (sc := defScope s_doors) (by decide +kernel)) (fun _ _ _ _ _ => (pg_name (i := 3) sc_doors.nd rfl (Or.inl rfl))) (fun _ _ _ _ _ => pts_nil) (fun _ _ _ _ _ => (pe_op op_add pe_int (pe_def D_pick hr (by decide) pass0 (pa_cons (pv 0) (pa_cons (pv 2) pa_nil)))))) pa_nil)))), ?_⟩
  refine ⟨_, rfl, _, rfl, a, most, rfl, f0, t1, small200 (by omega), fun n H1 n0 n1 f1 b1 => ?_⟩
  refine ⟨_, _, rfl, rfl, _, rfl, by omega, by omega, fun D hD => ?_⟩
  have na : a ≠ D := by
    obtain ⟨x, y, z, e⟩ := f1
    exact ne_of_none e hD
  refine lp_range (lo := 0) (fun i H' => ∃ ds : List Int, H' D = some (.lst (ds.map V.int)) ∧ ds.length = i ∧ (∀ z ∈ ds, 1 ≤ z ∧ z ≤ d) ∧ FlowAt H' a ∧ Old a H1 H') ?_ ?_ ?_
  · refine ⟨[], upd_same, rfl, (fun z hz => nomatch hz), ?_, fun b o e ne => Com.Same.upd hD b o e⟩
    obtain ⟨x, y, z, e⟩ := f1
    exact ⟨x, y, z, by rw [upd_ne na]; exact e⟩
  · rintro i H2 hi ⟨ds, h1, h2, h3, h4, h5⟩
    refine ⟨rfl, ?_⟩
    refine ⟨_, rfl, _, rfl, a, d, rfl, h4, d1, small200 (by omega), fun x H3 x0 x1 f3 b3 => ?_⟩
    refine ⟨_, _, rfl, rfl, _, by rw [b3 D na.symm]; exact h1, ?_, ds ++ [1 + x], ?_, ?_, ?_, ?_, ?_⟩
    · rw [List.length_map]
      exact small1000 (by omega)
    · rw [upd_same, List.map_append]
      rfl
    · rw [List.length_append, h2]
      rfl
    · intro z hz
      rcases List.mem_append.mp hz with e | e
      · exact h3 z e
      · have : z = 1 + x := by simpa using e
        omega
    · obtain ⟨x, y, z, e⟩ := f3
      exact ⟨x, y, z, by rw [upd_ne na]; exact e⟩
    · intro b o e ne
      rw [upd_ne (ne_of_none e hD)]
      exact (Old.trans h5 (But.old b3)) b o e ne
  · rintro H2 ⟨ds, h1, h2, h3, h4, h5⟩
    refine ⟨D, _, rfl, .inl ⟨SqL.of h1, fun i hi => ?_⟩⟩
    refine q i ds _ ?_ upd_same ⟨by omega, by omega, fun z hz => ?_⟩ ?_ ?_
    · by_cases e : i = a
      · obtain ⟨x, y, z, e2⟩ := h4
        rw [e, e2] at hi
        cases hi
      · cases e2 : H i with
        | none => rfl
        | some o =>
          have := h5 i o (by rw [b1 i e]; exact e2) e
          rw [hi] at this
          cases this
    · have := h3 z hz
      omega
    · obtain ⟨x, y, z, e⟩ := h4
      exact ⟨x, y, z, by rw [upd_ne (ne_of_none e hi)]; exact e⟩
    · intro b o e ne
      have e1 := h5 b o (by rw [b1 b ne]; exact e) ne
      rw [upd_ne (ne_of_none e1 hi)]
      exact e1
abbrev s_is_flag : Stmt := top 16
abbrev N_is_flag : List Str := ["_law_actual", "_law_wanted"]
theorem sc_is_flag : FnScope N_is_flag ["_law_actual", "_law_wanted"] (defScope s_is_flag) := ⟨rfl, rfl, rfl, by decide +kernel, rfl, by decide +kernel, by decide +kernel⟩
theorem ok_is_flag (T : Blt mg) (D : DefAt K mg "_law_is_flag" s_is_flag ["_law_actual", "_law_wanted"]) : DefOk P w K mg base CX0 1 "_law_is_flag" spFlag := by
  refine D.ok sc_is_flag (fun vs H Q E h => ?_) (fun f cdv A outer s H vs Q E hr h => ?_)
  · obtain ⟨a, b, rfl, _⟩ := h
    rfl
  obtain ⟨a, b, rfl, q⟩ := h
  refine ⟨_, (pss_one (ps_ret (pe_and (pe_callB (cl_isi K) (by rfl) T.z_isinstance (by decide +kernel) (pa_cons (pv 0) (pa_cons (pe_bltn (v := .ty "bool") (by rfl) T.z_bool (by decide +kernel) rfl) pa_nil))) (pe_one (pe_cmpR op_eq (pv 0) (pv 1) (nomark _)))))), ?_⟩
  refine ⟨_, rfl, _, _, .type "bool", _, true, rfl, .ty "bool", .base (.bl a), kit_ty (by decide +kernel), _, rfl, ?_⟩
  refine ⟨_, rfl, _, rfl, rfl, ?_⟩
  have e : decide (V.bl a = V.bl b) = decide (a = b) := by simp
  rw [e]
  exact q
abbrev s_is : Stmt := top 17
abbrev N_is : List Str := ["_law_exchange", "_law_ins", "_law_outs", "_law_middles"]
theorem sc_is : FnScope N_is ["_law_exchange", "_law_ins", "_law_outs", "_law_middles"] (defScope s_is) := ⟨rfl, rfl, rfl, by decide +kernel, rfl, by decide +kernel, by decide +kernel⟩
theorem ok_is (T : Blt mg) (X : ExT K mg C) (D : DefAt K mg "_law_is" s_is ["_law_exchange", "_law_ins", "_law_outs", "_law_middles"]) : DefOk P w K mg base CX0 1 "_law_is" (spIs C) := by
  refine D.ok sc_is (fun vs H Q E h => ?_) (fun f cdv A outer s H vs Q E hr h => ?_)
  · obtain ⟨p, i, o, i', o', ds, es, m, rfl, _⟩ := h
    rfl
  obtain ⟨p, i, o, i', o', ds, es, m, rfl, x, ti, to, q⟩ := h
  obtain ⟨dx, hp⟩ := x.ob
  have hu := hr.units
  have g_Exchange := X.g_Exchange
  refine ⟨_, (pss_cons (ps_if (pt_not (pt_val (pe_callB (cl_isi K) (by rfl) T.z_isinstance (by decide +kernel) (pa_cons (pv 0) (pa_cons (pe_gcls (by rfl) g_Exchange) pa_nil)))))
    (pss_one (ps_ret pe_bl))
    pss_nil)
  (pss_one (ps_ret (pe_and (pe_cmpR (eqD K hu) (pe_fldK K (pv 0)) (pv 1) (nomark _)) (pe_and (pe_cmpR (eqD K hu) (pe_fldK K (pv 0)) (pv 2) (nomark _)) (pe_one (pe_cmpR op_eq (pe_fldK K (pv 0)) (pv 3) (nomark _)))))))), ?_⟩
  refine ⟨_, rfl, _, .ref C, _, .ref C, true, rfl, .own C, exTy X hp, X.kS, _, rfl, ?_⟩
  refine ⟨_, rfl, p, C, dx, _, _, rfl, hp, X.cl, X.nI, exF_ins _ _ _, _, rfl, _, _, dp_tI x.ti, dp_tI ti, shaped_tI _, shaped_tI _, _, rfl, ?_⟩
  rw [eqv_tI, decide_eq_true rfl]
  refine ⟨_, rfl, p, C, dx, _, _, rfl, hp, X.cl, X.nO, exF_outs _ _ _, _, rfl, _, _, dp_tI x.to, dp_tI to, shaped_tI _, shaped_tI _, _, rfl, ?_⟩
  rw [eqv_tI, decide_eq_true rfl]
  refine ⟨_, rfl, p, C, dx, _, _, rfl, hp, X.cl, X.nM, exF_middles _ _ _, _, rfl, rfl, ?_⟩
  have e : decide (V.int m = V.int m) = true := by simp
  rw [e]
  exact q
end
end K03
set_option Elab.async false
set_option linter.all false
set_option maxRecDepth 100000
set_option maxHeartbeats 4000000
namespace K03
open PySem PySem.Spec PyProof.Rows L2 Com
local macro_rules | `(tactic| walk_at "rd1") => `(tactic| (first
  | refine ⟨_, rfl, ?_⟩
  | refine ⟨_, _, rfl, rfl, ?_⟩
  | refine ⟨.inl ⟨by decide, by decide⟩, ?_⟩
  | refine ⟨.inr ⟨by decide, by decide⟩, ?_⟩
  | refine ⟨(by decide : (0 : Int) < _), ?_⟩
  | refine ⟨⟨by decide, by decide⟩, ?_⟩
  | refine ⟨⟨by decide, by decide, by decide⟩, ?_⟩
  | refine ⟨rfl, ?_⟩
  | refine .inl ⟨_, rfl, ?_⟩
  | refine .inr ⟨_, rfl, ?_⟩
  | refine ⟨_, _, _, _, rfl, rfl, SqL.of upd_same, rfl, ?_⟩
  | refine ⟨_, _, _, _, rfl, rfl, upd_same, rfl, ?_⟩
  | refine ⟨mulm (by decide) (by decide), ?_⟩
  | refine ⟨_, _, _, _, rfl, rfl, SqL.of (by assumption), rfl, ?_⟩
  | refine ⟨_, _, _, _, rfl, rfl, (by assumption), rfl, ?_⟩))
local macro_rules | `(tactic| walk_at "rd") => `(tactic| repeat (walk_at "rd1"))
/-! ### the law -/
def spLaw (K : PySem.W.Frag) : Sp := fun vs H Q _ => ∃ (a : Addr) (ns : List Int), vs = [.ref a] ∧ SqL K H a (ns.map V.int) ∧ ns.length ≤ 63 ∧ ∀ H', Q (.bl true) H'
theorem Old.tup {H H' : Hp} {a i : Addr} {ds : List Int} (h : Tup H i ds) (f : FlowAt H a) (o : Old a H H') : Tup H' i ds := o i _ h (by obtain ⟨x, y, z, e⟩ := f; exact ne_of h e (by intro q; cases q))
theorem all3 {α β : Type} [DecidableEq α] [DecidableEq β] (a : α) (b : α) (c : β) : true = (decide (a = a) && (decide (b = b) && decide (c = c))) := by simp
section
variable {P : Program} {w : World} {K : PySem.W.Frag} {mg : Str → Option Value} {base : Heap} {C : Addr}
abbrev s_law : Stmt := top 18
abbrev N_law : List Str := ["_law_script", "_law_flow_here", "_law_ins", "_law_outs", "_law_middles", "_law_many", "_law_size", "_law_doors_here", "_law_exchange", "_law_wanted", "_law_i", "_law_o", "_law_told"]
theorem sc_law : FnScope N_law ["_law_script"] (defScope s_law) := ⟨rfl, rfl, rfl, by decide +kernel, rfl, by decide +kernel, by decide +kernel⟩
theorem ok_law_fn (T : Blt mg) (X : ExT K mg C) (D_flow : DefOk P w K mg base CX0 1 "_law_flow" (spFlow K)) (D_pick : DefOk P w K mg base CX0 1 "_law_pick" spPick) (D_doors : DefOk P w K mg base CX0 2 "_law_doors" spDoors)
    (D_is_flag : DefOk P w K mg base CX0 1 "_law_is_flag" spFlag) (D_is : DefOk P w K mg base CX0 1 "_law_is" (spIs C)) (M_Exchange : NewOk P w K mg base CX0 4 "Exchange" C (spInit C)) (M_with_middles : MethOk P w K mg base CX0 6 C "with_middles" (spWith C))
    (M_turned : MethOk P w K mg base CX0 6 C "turned" (spTurned C)) (M_eq : MethOk P w K mg base CX0 1 C "__eq__" (spEq K C)) (M_pairs : MethOk P w K mg base CX0 1 C "pairs" (spPairs C)) (M_square : CMethOk P w K mg base CX0 6 C "square" (spSquare C))
    {f : Addr} {fd : FuncData} (F : Fun K "law" "law" s_law f fd) : FnOk P w K mg base CX0 9 f fd ["_law_script"] (spLaw K) := by
  refine F.ok sc_law (fun vs H Q E h => ?_) (fun cdv A outer s H vs Q E hr h => ?_)
  · obtain ⟨a, ns, rfl, _⟩ := h
    rfl
  obtain ⟨a0, ns, rfl, hS, hl, q⟩ := h
  have g_Exchange := X.g_Exchange
  have hu := hr.units
  refine ⟨_, (pss_cons (ps_set (i := 1) sc_law.nd rfl (Or.inl rfl) (pe_def D_flow hr (by decide) pass0 (pa_cons (pv 0) (pa_cons pe_int pa_nil))))
  (pss_cons (ps_set (i := 2) sc_law.nd rfl (Or.inl rfl) (pe_def D_doors hr (by decide) pass0 (pa_cons (pv 1) (pa_cons pe_int (pa_cons pe_int pa_nil)))))
  (pss_cons (ps_set (i := 3) sc_law.nd rfl (Or.inl rfl) (pe_def D_doors hr (by decide) pass0 (pa_cons (pv 1) (pa_cons pe_int (pa_cons pe_int pa_nil)))))
  (pss_cons (ps_set (i := 4) sc_law.nd rfl (Or.inl rfl) (pe_op op_add pe_int (pe_def D_pick hr (by decide) pass0 (pa_cons (pv 1) (pa_cons pe_int pa_nil)))))
  (pss_cons (ps_set (i := 5) sc_law.nd rfl (Or.inl rfl) (pe_op op_add pe_int (pe_def D_pick hr (by decide) pass0 (pa_cons (pv 1) (pa_cons pe_int pa_nil)))))
  (pss_cons (ps_set (i := 6) sc_law.nd rfl (Or.inl rfl) (pe_op op_add pe_int (pe_def D_pick hr (by decide) pass0 (pa_cons (pv 1) (pa_cons pe_int pa_nil)))))
  (pss_cons (ps_set (i := 7) sc_law.nd rfl (Or.inl rfl) (pe_op op_add pe_int (pe_def D_pick hr (by decide) pass0 (pa_cons (pv 1) (pa_cons pe_int pa_nil)))))
  (pss_cons (ps_set (i := 8) sc_law.nd rfl (Or.inl rfl) (pe_new M_Exchange hr (by decide) pass0 (pa_cons (pv 2) (pa_cons (pv 3) (pa_cons (pv 4) pa_nil)))))
  (pss_cons (ps_if (pt_not (pt_val (pe_def D_is hr (by decide) pass0 (pa_cons (pe_mth (pv 8) X.cl M_with_middles hr (by decide) pass0 (pa_cons (pv 5) pa_nil)) (pa_cons (pv 2) (pa_cons (pv 3) (pa_cons (pv 5) pa_nil)))))))
    (pss_one (ps_ret pe_bl))
    pss_nil)
  (pss_cons (ps_if (PW.pt (pw_or (pt_not (pt_val (pe_def D_is hr (by decide) pass0 (pa_cons (pe_mth0 (pv 8) X.cl M_turned hr (by decide) pass0) (pa_cons (pv 3) (pa_cons (pv 2) (pa_cons (pv 4) pa_nil))))))) (pw_or1 (pt_not (pt_cmpR (eqO K M_eq hr (by decide) pass0) (pe_mth0 (pe_mth0 (pv 8) X.cl M_turned hr (by decide) pass0) X.cl M_turned hr (by decide) pass0) (pv 8) (nomark _))))))
    (pss_one (ps_ret pe_bl))
    pss_nil)
  (pss_cons (ps_if (pt_not (pt_val (pe_def D_is hr (by decide) pass0 (pa_cons (pe_cls (pe_gcls (by rfl) g_Exchange) M_square hr (by decide) pass0 (pa_cons (pv 6) (pa_cons (pv 7) (pa_cons (pv 5) pa_nil)))) (pa_cons (pe_op (repA K) (pe_tup (pa_cons (pv 7) pa_nil)) (pv 6)) (pa_cons (pe_op (repA K) (pe_tup (pa_cons (pv 7) pa_nil)) (pv 6)) (pa_cons (pv 5) pa_nil)))))))
    (pss_one (ps_ret pe_bl))
    pss_nil)
  (pss_cons (ps_set (i := 9) sc_law.nd rfl (Or.inl rfl) (pe_lst pa_nil))
  (pss_cons (ps_for PassesOwn.never rfl (pi_range1 (by rfl) T.z_range (pa_cons (pe_callB (cl_len K) (by rfl) T.z_len (by decide +kernel) (pa_cons (pv 2) pa_nil)) pa_nil)) (pg_name (i := 10) sc_law.nd rfl (Or.inl rfl))
    (pss_one (ps_for PassesOwn.never rfl (pi_range1 (by rfl) T.z_range (pa_cons (pe_callB (cl_len K) (by rfl) T.z_len (by decide +kernel) (pa_cons (pv 3) pa_nil)) pa_nil)) (pg_name (i := 11) sc_law.nd rfl (Or.inl rfl))
      (pss_one (ps_expr (pe_bm PySem.F.plainAttrs_list PySem.F.slot_list_append PySem.F.type_list_append mt_append (pv 9) (pa_cons (pe_tup (pa_cons (pv 10) (pa_cons (pv 11) pa_nil))) pa_nil)))))))
  (pss_cons (ps_set (i := 12) sc_law.nd rfl (Or.inl rfl) (pe_mth0 (pv 8) X.cl M_pairs hr (by decide) pass0))
  (pss_cons (ps_if (PW.pt (pw_or (pt_not (pt_val (pe_callB (cl_isi K) (by rfl) T.z_isinstance (by decide +kernel) (pa_cons (pv 12) (pa_cons (pe_bltn (v := .ty "list") (by rfl) T.z_list (by decide +kernel) rfl) pa_nil))))) (pw_or1 (pt_cmpR (neD K hu) (pv 12) (pv 9) (nomark _)))))
    (pss_one (ps_ret pe_bl))
    pss_nil)
  (pss_cons (ps_expr (pe_bm PySem.F.plainAttrs_list PySem.F.slot_list_append PySem.F.type_list_append mt_append (pv 12) (pa_cons (pe_tup (pa_cons pe_int (pa_cons pe_int pa_nil))) pa_nil)))
  (pss_cons (ps_expr (pe_bm0 PySem.F.plainAttrs_list PySem.F.slot_list_reverse PySem.F.type_list_reverse mt_reverse (pv 12)))
  (pss_cons (ps_if (pt_cmpR (neD K hu) (pe_mth0 (pv 8) X.cl M_pairs hr (by decide) pass0) (pv 9) (nomark _))
    (pss_one (ps_ret pe_bl))
    pss_nil)
  (pss_cons (ps_if (PW.pt (pw_or (pt_not (pt_cmpR (eqO K M_eq hr (by decide) pass0) (pv 8) (pe_new M_Exchange hr (by decide) pass0 (pa_cons (pv 2) (pa_cons (pv 3) (pa_cons (pv 4) pa_nil)))) (nomark _))) (pw_or (pt_cmpR (eqO K M_eq hr (by decide) pass0) (pv 8) (pe_tup (pa_cons (pv 2) (pa_cons (pv 3) (pa_cons (pv 4) pa_nil)))) (nomark _)) (pw_or1 (pt_cmpR (eqO K M_eq hr (by decide) pass0) (pv 8) (pv 4) (nomark _))))))
    (pss_one (ps_ret pe_bl))
    pss_nil)
  (pss_cons (ps_if (pt_not (pt_val (pe_def D_is_flag hr (by decide) pass0 (pa_cons (pe_cmpR (eqO K M_eq hr (by decide) pass0) (pv 8) (pe_mth (pv 8) X.cl M_with_middles hr (by decide) pass0 (pa_cons (pv 5) pa_nil)) (nomark _)) (pa_cons (pe_cmpR op_eq (pv 5) (pv 4) (nomark _)) pa_nil)))))
    (pss_one (ps_ret pe_bl))
    pss_nil)
  (pss_cons (ps_if (pt_not (pt_val (pe_def D_is_flag hr (by decide) pass0 (pa_cons (pe_cmpR (eqO K M_eq hr (by decide) pass0) (pv 8) (pe_mth0 (pv 8) X.cl M_turned hr (by decide) pass0) (nomark _)) (pa_cons (pe_cmpR (eqD K hu) (pv 2) (pv 3) (nomark _)) pa_nil)))))
    (pss_one (ps_ret pe_bl))
    pss_nil)
  (pss_cons (ps_if (pt_cmpR (eqO K M_eq hr (by decide) pass0) (pv 8) (pe_new M_Exchange hr (by decide) pass0 (pa_cons (pe_op catB (pe_slice slT (pv 2) po_none (po_some (pe_un un_neg pe_int))) (pe_tup (pa_cons (pe_op op_add (pe_op op_mod (pe_ix (ixT K) (pv 2) (pe_un un_neg pe_int) (fun _ _ => rfl)) pe_int) pe_int) pa_nil))) (pa_cons (pv 3) (pa_cons (pv 4) pa_nil)))) (nomark _))
    (pss_one (ps_ret pe_bl))
    pss_nil)
  (pss_one (ps_ret (pe_def D_is hr (by decide) pass0 (pa_cons (pv 8) (pa_cons (pv 2) (pa_cons (pv 3) (pa_cons (pv 4) pa_nil))))))))))))))))))))))))))))), ?_⟩
  refine ⟨_, rfl, a0, ns, 0, rfl, hS, hl, by omega, fun a H1 ha f1 b1 => ?_⟩
  refine ⟨_, rfl, a, 4, 4, rfl, f1, by omega, by omega, by omega, by omega, fun i ds H2 ni ti gi f2 o2 => ?_⟩
  refine ⟨_, rfl, a, 4, 4, rfl, f2, by omega, by omega, by omega, by omega, fun o es H3 no to go f3 o3 => ?_⟩
  refine ⟨_, rfl, a, 7, rfl, f3, by omega, small200 (by omega), fun m0 H4 m1 m2 f4 b4 => ?_⟩
  refine ⟨_, _, rfl, rfl, ?_⟩
  refine ⟨_, rfl, a, 7, rfl, f4, by omega, small200 (by omega), fun k0 H5 k1 k2 f5 b5 => ?_⟩
  refine ⟨_, _, rfl, rfl, ?_⟩
  refine ⟨_, rfl, a, 4, rfl, f5, by omega, small200 (by omega), fun z0 H6 z1 z2 f6 b6 => ?_⟩
  refine ⟨_, _, rfl, rfl, ?_⟩
  refine ⟨_, rfl, a, 4, rfl, f6, by omega, small200 (by omega), fun d0 H7 d1 d2 f7 b7 => ?_⟩
  refine ⟨_, _, rfl, rfl, ?_⟩
  have t7i : Tup H7 i ds := Old.tup (Old.tup (Old.tup (Old.tup (Old.tup ti f2 o3) f3 (But.old b4)) f4 (But.old b5)) f5 (But.old b6)) f6 (But.old b7)
  have t7o : Tup H7 o es := Old.tup (Old.tup (Old.tup (Old.tup to f3 (But.old b4)) f4 (But.old b5)) f5 (But.old b6)) f6 (But.old b7)
  have c1 : 1 ≤ 1 + m0 := by omega
  have c2 : 1 + m0 ≤ 7 := by omega
  refine ⟨_, rfl, _, rfl, _, rfl, fun x dx nx ndx nex => new_ex' t7i gi t7o go c1 c2 nx ndx fun H8 ex8 s8 => ⟨rfl, ?_⟩⟩
  have E8 : ExAt C H8 x i o ds es (1 + m0) := ⟨ex8, Same.tup s8 t7i, gi, Same.tup s8 t7o, go, c1, c2⟩
  clear ndx nex dx
  obtain ⟨dx, hx⟩ := ex8
  have nW : (exF i o (1 + m0)).lookup ("with_middles" : Str) = none := exF_no _ _ _ (by decide +kernel) (by decide +kernel) (by decide +kernel)
  have nT : ∀ i o m, (exF i o m).lookup ("turned" : Str) = none := fun i o m => exF_no _ _ _ (by decide +kernel) (by decide +kernel) (by decide +kernel)
  have nP : ∀ i o m, (exF i o m).lookup ("pairs" : Str) = none := fun i o m => exF_no _ _ _ (by decide +kernel) (by decide +kernel) (by decide +kernel)
  -- with_middles
  refine ⟨_, rfl, x, dx, _, rfl, hx, nW, _, rfl, x, i, o, ds, es, _, _, rfl, E8, by omega, by omega, fun y H9 ny e9 s9 => ?_⟩
  refine ⟨_, rfl, _, rfl, _, rfl, y, i, o, i, o, ds, es, _, rfl, e9, e9.ti, e9.to, _, rfl, ?_⟩
  -- turned, turned twice
  have E9 := E8.same s9
  refine ⟨_, rfl, x, dx, _, rfl, s9 _ _ hx, nT _ _ _, x, i, o, ds, es, _, rfl, E9, fun y2 H10 ny2 e10 s10 => ?_⟩
  refine ⟨_, rfl, _, rfl, _, rfl, y2, o, i, o, i, es, ds, _, rfl, e10, e10.ti, e10.to, _, rfl, ?_⟩
  have E10 := E9.same s10
  refine ⟨_, rfl, x, dx, _, rfl, s10 _ _ (s9 _ _ hx), nT _ _ _, x, i, o, ds, es, _, rfl, E10, fun y3 H11 ny3 e11 s11 => ?_⟩
  have E11 := E10.same s11
  obtain ⟨dy3, hy3⟩ := e11.ob
  refine ⟨y3, dy3, _, rfl, hy3, nT _ _ _, y3, o, i, es, ds, _, rfl, e11, fun y4 H12 ny4 e12 s12 => ?_⟩
  have E12 := E11.same s12
  obtain ⟨dy4, hy4⟩ := e12.ob
  have hx12 := s12 _ _ (s11 _ _ (s10 _ _ (s9 _ _ hx)))
  refine ⟨_, rfl, y4, dy4, _, _, rfl, hy4, exTy X hx12, X.fS, y4, i, o, ds, es, _, _, true, rfl, e12, .inl ⟨x, i, o, ds, es, _, rfl, E12, all3 _ _ _⟩, _, rfl, ?_⟩
  -- square
  refine ⟨rfl, _, rfl, _, rfl, _, rfl, 1 + z0, 1 + d0, 1 + k0, rfl, by omega, by omega, by omega, by omega, by omega, by omega, fun y5 i5 H13 ny5 e13 s13 => ?_⟩
  have E13 := E12.same s13
  refine ⟨_, rfl, (by show 1 ≤ sizeLine; decide), fun t ht => ⟨_, rfl, t, 1 + z0, _, rfl, rfl, upd_same, (by simp), by omega, by omega, (by show 1 ≤ 1000; decide), fun i6 H14 hi6 s14 => ?_⟩⟩
  have S14 : Same H13 H14 := (Com.Same.upd ht).trans s14
  refine ⟨_, rfl, (by show 1 ≤ sizeLine; decide), fun t ht => ⟨_, rfl, t, 1 + z0, _, rfl, rfl, upd_same, (by simp), by omega, by omega, (by show 1 ≤ 1000; decide), fun i7 H15 hi7 s15 => ?_⟩⟩
  have S15 : Same H14 H15 := (Com.Same.upd ht).trans s15
  have E15 := (E13.same S14).same S15
  refine ⟨_, rfl, y5, i5, i5, i6, i7, _, _, _, rfl, (e13.same S14).same S15, Same.tup S15 (rep_tup hi6), rep_tup hi7, _, rfl, ?_⟩
  have hx15 := S15 _ _ (S14 _ _ (s13 _ _ hx12))
  -- wanted = []; the two loops
  refine ⟨Nat.zero_le _, fun W hW => ?_⟩
  have g1 := gi.2.1
  have g2 := go.2.1
  have l1 : (ds.map V.int).length = ds.length := List.length_map ..
  have l2 : (es.map V.int).length = es.length := List.length_map ..
  have n1 : (((ds.map V.int).length : Nat) : Int).toNat = ds.length := by omega
  have n2 : (((es.map V.int).length : Nat) : Int).toNat = es.length := by omega
  refine ⟨_, rfl, i, _, rfl, .inr (SqT.of ((Com.Same.upd hW) _ _ E15.ti)), _, rfl, by omega, by omega, for_range (lo := 0)
    (fun k σ H' => ∃ v1 v2 xs, σ = [some (.ref a0), some (.ref a), some (.ref i), some (.ref o), some (.int (1 + m0)), some (.int (1 + k0)), some (.int (1 + z0)), some (.int (1 + d0)), some (.ref x), some (.ref W), v1, v2, none] ∧ H' W = some (.lst xs) ∧ PairsV H' xs (pairsL k es.length) ∧ Same H15 H')
    ⟨none, none, [], rfl, upd_same, .nil, Com.Same.upd hW⟩ ?_ ?_⟩
  · rintro k σ H' hk ⟨v1, v2, xs, rfl, h1, p1, s1⟩
    refine ⟨_, rfl, o, _, rfl, .inr (SqT.of (s1 _ _ E15.to)), _, rfl, by omega, by omega, for_range (lo := 0)
      (fun j σ H' => ∃ v2 xs, σ = [some (.ref a0), some (.ref a), some (.ref i), some (.ref o), some (.int (1 + m0)), some (.int (1 + k0)), some (.int (1 + z0)), some (.int (1 + d0)), some (.ref x), some (.ref W), some (.int (0 + (k : Int))), v2, none] ∧ H' W = some (.lst xs) ∧ PairsV H' xs (pairsL k es.length ++ rowL k j) ∧ Same H15 H')
      ⟨v2, xs, rfl, h1, by simpa [rowL] using p1, s1⟩ ?_ ?_⟩
    · rintro j σ H2 hj ⟨v2, ys, rfl, h2, p2, s2⟩
      have hl := Paired.length p2
      rw [List.length_append, pairsL_len, rowL_len] at hl
      have hm : k * es.length ≤ 4 * 4 := Nat.mul_le_mul (by omega) g2
      refine ⟨_, rfl, .inl ⟨rfl, _, SqL.of h2⟩, _, rfl, _, rfl, (by show 2 ≤ sizeLine; decide), fun t ht => ?_⟩
      have nt : W ≠ t := ne_of_none h2 ht
      refine ⟨W, ys, _, rfl, rfl, by rw [upd_ne nt]; exact h2, small1000 (by omega), ?_⟩
      refine ⟨_, ys ++ [.ref t], rfl, upd_same, ?_, ?_⟩
      · rw [rowL_succ, ← List.append_assoc]
        refine Paired.snoc (PairsV.mono (fun b u e => ?_) p2) ⟨t, rfl, ?_⟩
        · have n1 : b ≠ W := fun z => by rw [z, h2] at e; cases e
          rw [upd_ne n1, upd_ne (ne_of_none e ht)]
          exact e
        · rw [upd_ne nt.symm, upd_same]
          simp
      · intro b u e
        rw [upd_ne (ne_of_none e hW), upd_ne (ne_of_none (s2 _ _ e) ht)]
        exact s2 _ _ e
    · rintro σ H2 ⟨v2, ys, rfl, h2, p2, s2⟩
      refine ⟨_, v2, ys, rfl, h2, ?_, s2⟩
      rw [n2] at p2
      rw [pairsL_succ]
      exact p2
  rintro σ H16 ⟨v1, v2, xs, rfl, hW16, pW, s16⟩
  rw [n1] at pW
  have E16 := E15.same s16
  have hx16 := s16 _ _ hx15
  -- told = exchange.pairs()
  refine ⟨_, rfl, x, dx, _, rfl, hx16, nP _ _ _, x, i, o, ds, es, _, rfl, E16, fun D H17 ys nD hD pD s17 => ?_⟩
  have e17 : (!PyData.eqv (lP (pairsL ds.length es.length)) (lP (pairsL ds.length es.length))) = false := by rw [eqv_lP]; simp
  refine ⟨_, rfl, _, .ty "list", .type "list", _, true, rfl, .ty "list", .base (.lst hD), kit_ty (by decide +kernel), _, rfl, ?_⟩
  refine ⟨_, rfl, _, rfl, _, _, dp_lP hD pD, dp_lP (s17 _ _ hW16) (PairsV.same s17 pW), shaped_lP _, shaped_lP _, _, rfl, ?_⟩
  rw [e17]
  -- told.append((0, 0)); told.reverse()
  have hW17 := s17 _ _ hW16
  have nWD : W ≠ D := ne_of_none hW16 nD
  have hly := Paired.length pD
  rw [pairsL_len] at hly
  have hm : ds.length * es.length ≤ 4 * 4 := Nat.mul_le_mul g1 g2
  refine ⟨_, rfl, .inl ⟨rfl, _, SqL.of hD⟩, (by show 2 ≤ sizeLine; decide), fun t1 ht1 => ?_⟩
  have nD1 : D ≠ t1 := ne_of_none hD ht1
  refine ⟨D, ys, _, rfl, rfl, by rw [upd_ne nD1]; exact hD, small1000 (by omega), ?_⟩
  refine ⟨_, rfl, .inl ⟨rfl, _, SqL.of upd_same⟩, D, _, rfl, rfl, upd_same, ?_⟩
  rw [upd_upd]
  have s18 : Same H16 (upd (upd H17 t1 (.tup [.int 0, .int 0])) D (.lst (ys ++ [V.ref t1]).reverse)) := fun b u e => by
    rw [upd_ne (ne_of_none e nD), upd_ne (ne_of_none (s17 _ _ e) ht1)]
    exact s17 _ _ e
  generalize (upd (upd H17 t1 (.tup [.int 0, .int 0])) D (.lst (ys ++ [V.ref t1]).reverse)) = H18 at s18 ⊢
  have E18 := E16.same s18
  have hx18 := s18 _ _ hx16
  -- exchange.pairs() != wanted
  refine ⟨_, rfl, x, dx, _, rfl, hx18, nP _ _ _, x, i, o, ds, es, _, rfl, E18, fun D2 H19 ys2 nD2 hD2 pD2 s19 => ?_⟩
  refine ⟨_, rfl, _, _, dp_lP hD2 pD2, dp_lP (s19 _ _ (s18 _ _ hW16)) (PairsV.same s19 (PairsV.same s18 pW)), shaped_lP _, shaped_lP _, _, rfl, ?_⟩
  rw [e17]
  have E19 := E18.same s19
  have hx19 := s19 _ _ hx18
  -- == an equal one, a tuple, an integer
  refine ⟨_, rfl, _, rfl, _, rfl, _, rfl, fun y6 dy6 ny6 ndy6 _ => new_ex' E19.ti gi E19.to go c1 c2 ny6 ndy6 fun H20 ex20 s20 => ⟨rfl, ?_⟩⟩
  have E20 := E19.same s20
  have hx20 := s20 _ _ hx19
  have e20 : ExAt C H20 y6 i o ds es (1 + m0) := ⟨ex20, E20.ti, gi, E20.to, go, c1, c2⟩
  obtain ⟨dy6, hy6⟩ := ex20
  refine ⟨x, dx, _, _, rfl, hx20, exTy X hy6, X.fS, x, i, o, ds, es, _, _, true, rfl, E20, .inl ⟨y6, i, o, ds, es, _, rfl, e20, all3 _ _ _⟩, _, rfl, ?_⟩
  refine ⟨_, rfl, _, rfl, _, rfl, _, rfl, (by show 3 ≤ sizeLine; decide), fun t2 ht2 => ?_⟩
  have s21 : Same H20 _ := Com.Same.upd (o := .tup [.ref i, .ref o, .int (1 + m0)]) ht2
  have E21 := E20.same s21
  refine ⟨x, dx, _, .type "tuple", rfl, s21 _ _ hx20, .base (.tup upd_same), X.fT, x, i, o, ds, es, _, _, false, rfl, E21, .inr ⟨_, .base (.tup upd_same), X.kT, rfl⟩, _, rfl, ?_⟩
  have hx21 := s21 _ _ hx20
  generalize upd H20 t2 (.tup [.ref i, .ref o, .int (1 + m0)]) = H21 at s21 E21 hx21 ⊢
  refine ⟨_, rfl, _, rfl, x, dx, _, .type "int", rfl, hx21, .base (.int _), X.fI, x, i, o, ds, es, _, _, false, rfl, E21, .inr ⟨_, .base (.int _), X.kI, rfl⟩, _, rfl, ?_⟩
  -- == one with other middles, the turned one
  refine ⟨_, rfl, _, rfl, x, dx, _, rfl, hx21, nW, _, rfl, x, i, o, ds, es, _, _, rfl, E21, by omega, by omega, fun y7 H22 ny7 e22 s22 => ?_⟩
  have E22 := E21.same s22
  have hx22 := s22 _ _ hx21
  obtain ⟨dy7, hy7⟩ := e22.ob
  refine ⟨x, dx, _, _, rfl, hx22, exTy X hy7, X.fS, x, i, o, ds, es, _, _, decide (1 + m0 = 1 + k0), rfl, E22, .inl ⟨y7, i, o, ds, es, _, rfl, e22, by simp⟩, ?_⟩
  refine ⟨_, rfl, _, rfl, rfl, _, _, rfl, ?_⟩
  have e7 : decide (decide (1 + m0 = 1 + k0) = decide (V.int (1 + k0) = V.int (1 + m0))) = true := by simp [eq_comm]
  refine ⟨_, rfl, ?_⟩
  rw [e7]
  refine ⟨_, rfl, _, rfl, x, dx, _, rfl, hx22, nT _ _ _, x, i, o, ds, es, _, rfl, E22, fun y8 H23 ny8 e23 s23 => ?_⟩
  have E23 := E22.same s23
  have hx23 := s23 _ _ hx22
  obtain ⟨dy8, hy8⟩ := e23.ob
  refine ⟨x, dx, _, _, rfl, hx23, exTy X hy8, X.fS, x, i, o, ds, es, _, _, decide (ds = es), rfl, E23, .inl ⟨y8, o, i, es, ds, _, rfl, e23, by simp [eq_comm]⟩, ?_⟩
  refine ⟨_, rfl, _, rfl, _, _, dp_tI E23.ti, dp_tI E23.to, shaped_tI _, shaped_tI _, _, _, rfl, ?_⟩
  have e8 : decide (decide (ds = es) = PyData.eqv (tI ds) (tI es)) = true := by rw [eqv_tI]; simp
  refine ⟨_, rfl, ?_⟩
  rw [e8]
  -- == one with another last switch
  obtain ⟨init, last, rfl⟩ : ∃ init last, ds = init ++ [last] := by
    have hne : ds ≠ [] := fun e => by
      have := gi.1
      rw [e] at this
      exact absurd this (by decide)
    exact ⟨ds.dropLast, ds.getLast hne, (List.dropLast_concat_getLast hne).symm⟩
  have hi23 : H23 i = some (.tup (init.map V.int ++ [V.int last])) := by
    have := E23.ti
    unfold Tup at this
    rw [this, List.map_append]
    rfl
  have gl := gi.2.2 last (List.mem_append_right _ (List.mem_singleton_self _))
  refine ⟨_, rfl, _, rfl, _, rfl, _, rfl, i, _, rfl, hi23, fun i9 H24 hi9 s24 => ?_⟩
  rw [cut_init] at hi9
  refine ⟨_, rfl, _, rfl, i, _, _, V.int last, rfl, rfl, SqT.of (s24 _ _ hi23), atI_last _ _, _, _, rfl, rfl, (by decide : (0 : Int) < _), _, _, rfl, rfl, (by show 1 ≤ sizeLine; decide), fun t9 ht9 => ?_⟩
  have n9 : i9 ≠ t9 := ne_of_none hi9 ht9
  refine ⟨i9, t9, _, _, rfl, rfl, by rw [upd_ne n9]; exact hi9, upd_same, ?_, fun j9 H25 hj9 s25 => ?_⟩
  · rw [List.length_append] at g1
    rw [List.length_map]
    have : init.length ≤ 4 := by omega
    show init.length + 1 ≤ 1000
    omega
  have S25 : Same H23 H25 := fun b u e => s25 _ _ (Com.Same.upd ht9 _ _ (s24 _ _ e))
  have E25 := E23.same S25
  have hx25 := S25 _ _ hx23
  have t25 : Tup H25 j9 (init ++ [last % 4 + 1]) := by
    show H25 j9 = _
    rw [hj9, List.map_append]
    rfl
  have m4 : 0 ≤ last % 4 := Int.emod_nonneg _ (by decide)
  have m5 : last % 4 < 4 := Int.emod_lt_of_pos _ (by decide)
  have gi' : Good (init ++ [last % 4 + 1]) := by
    refine ⟨by rw [List.length_append, List.length_singleton]; omega, ?_, fun z hz => ?_⟩
    · have := gi.2.1
      rw [List.length_append, List.length_singleton] at this ⊢
      exact this
    · rcases List.mem_append.mp hz with e | e
      · exact gi.2.2 z (List.mem_append_left _ e)
      · have : z = last % 4 + 1 := by simpa using e
        omega
  refine ⟨_, rfl, _, rfl, fun y9 dy9 ny9 ndy9 _ => new_ex' t25 gi' E25.to go c1 c2 ny9 ndy9 fun H26 ex26 s26 => ⟨rfl, ?_⟩⟩
  have E26 := E25.same s26
  have hx26 := s26 _ _ hx25
  have e26 : ExAt C H26 y9 j9 o (init ++ [last % 4 + 1]) es (1 + m0) := ⟨ex26, Same.tup s26 t25, gi', E26.to, go, c1, c2⟩
  obtain ⟨dy10, hy10⟩ := ex26
  refine ⟨x, dx, _, _, rfl, hx26, exTy X hy10, X.fS, x, i, o, _, es, _, _, false, rfl, E26, .inl ⟨y9, j9, o, _, es, _, rfl, e26, ?_⟩, _, rfl, ?_⟩
  · have ne : ¬ (init ++ [last] = init ++ [last % 4 + 1]) := fun e => by
      have := List.append_cancel_left e
      have : last = last % 4 + 1 := by simpa using this
      omega
    rw [decide_eq_false ne, Bool.false_and]
  exact ⟨_, rfl, _, rfl, _, rfl, _, rfl, x, i, o, i, o, _, es, _, rfl, E26, E26.ti, E26.to, q _⟩
end
end K03
set_option Elab.async false
set_option linter.all false
set_option maxRecDepth 100000
set_option maxHeartbeats 4000000
namespace K03
open PySem PySem.Spec PyProof.Rows L2 Com
/-! ### what the top has made; the end -/
theorem all_mk {P : Program} {w : World} {K : PySem.W.Frag} {h : Heap} {mg : Str → Option Value} {fa : Addr} (X : K.In h) (G : h.Ns mainGlobals mg) (hfa : mg "law" = some (.ref fa))
    {f_is_plain_int : Addr} {od_is_plain_int an_is_plain_int : Option Addr} {sl_is_plain_int : Array (Option Value)} {oc_is_plain_int kV_is_plain_int dc_is_plain_int pm_is_plain_int cd_is_plain_int ct_is_plain_int : Value}
    {f_is_int_within : Addr} {od_is_int_within an_is_int_within : Option Addr} {sl_is_int_within : Array (Option Value)} {oc_is_int_within kV_is_int_within dc_is_int_within pm_is_int_within cd_is_int_within ct_is_int_within : Value}
    {f_is_side : Addr} {od_is_side an_is_side : Option Addr} {sl_is_side : Array (Option Value)} {oc_is_side kV_is_side dc_is_side pm_is_side cd_is_side ct_is_side : Value}
    {f_flow : Addr} {od_flow an_flow : Option Addr} {sl_flow : Array (Option Value)} {oc_flow kV_flow dc_flow pm_flow cd_flow ct_flow : Value}
    {f_pick : Addr} {od_pick an_pick : Option Addr} {sl_pick : Array (Option Value)} {oc_pick kV_pick dc_pick pm_pick cd_pick ct_pick : Value}
    {f_doors : Addr} {od_doors an_doors : Option Addr} {sl_doors : Array (Option Value)} {oc_doors kV_doors dc_doors pm_doors cd_doors ct_doors : Value}
    {f_is_flag : Addr} {od_is_flag an_is_flag : Option Addr} {sl_is_flag : Array (Option Value)} {oc_is_flag kV_is_flag dc_is_flag pm_is_flag cd_is_flag ct_is_flag : Value}
    {f_is : Addr} {od_is an_is : Option Addr} {sl_is : Array (Option Value)} {oc_is kV_is dc_is pm_is cd_is ct_is : Value}
    {f_law : Addr} {od_law an_law : Option Addr} {sl_law : Array (Option Value)} {oc_law kV_law dc_law pm_law cd_law ct_law : Value}
    {f_Exchange_init : Addr} {od_Exchange_init an_Exchange_init : Option Addr} {sl_Exchange_init : Array (Option Value)} {oc_Exchange_init kV_Exchange_init dc_Exchange_init pm_Exchange_init cd_Exchange_init ct_Exchange_init : Value}
    {f_Exchange_eq : Addr} {od_Exchange_eq an_Exchange_eq : Option Addr} {sl_Exchange_eq : Array (Option Value)} {oc_Exchange_eq kV_Exchange_eq dc_Exchange_eq pm_Exchange_eq cd_Exchange_eq ct_Exchange_eq : Value}
    {f_Exchange_with_middles : Addr} {od_Exchange_with_middles an_Exchange_with_middles : Option Addr} {sl_Exchange_with_middles : Array (Option Value)} {oc_Exchange_with_middles kV_Exchange_with_middles dc_Exchange_with_middles pm_Exchange_with_middles cd_Exchange_with_middles ct_Exchange_with_middles : Value}
    {f_Exchange_turned : Addr} {od_Exchange_turned an_Exchange_turned : Option Addr} {sl_Exchange_turned : Array (Option Value)} {oc_Exchange_turned kV_Exchange_turned dc_Exchange_turned pm_Exchange_turned cd_Exchange_turned ct_Exchange_turned : Value}
    {f_Exchange_pairs : Addr} {od_Exchange_pairs an_Exchange_pairs : Option Addr} {sl_Exchange_pairs : Array (Option Value)} {oc_Exchange_pairs kV_Exchange_pairs dc_Exchange_pairs pm_Exchange_pairs cd_Exchange_pairs ct_Exchange_pairs : Value}
    {C_Exchange : Addr}
    {p_sq g_sq : Addr} {rest_sq : List Value} {od_sq an_sq : Option Addr} {sl_sq : Array (Option Value)} {oc_sq kV_sq dc_sq pm_sq cd_sq ct_sq : Value}
    {t_MOST_SWITCHES : Tok}
    {t_MOST_DOORS : Tok}
    {t_MOST_MIDDLES : Tok}
    (a_Exchange : PySem.W.nsIn K mainGlobals "Exchange" = some (some (.ref C_Exchange)))
    (a_is_plain_int : PySem.W.nsIn K mainGlobals "is_plain_int" = some (some (.ref f_is_plain_int)))
    (l_is_plain_int : K.lookup f_is_plain_int = some ⟨oc_is_plain_int, od_is_plain_int, .func (PySem.W.fnOf "is_plain_int" "is_plain_int" (defArgs s_is_plain_int) (defBody s_is_plain_int) (defScope s_is_plain_int) .none kV_is_plain_int dc_is_plain_int pm_is_plain_int an_is_plain_int cd_is_plain_int ct_is_plain_int), sl_is_plain_int⟩)
    (c_is_plain_int : PySem.W.codeIn K cd_is_plain_int "is_plain_int" = true)
    (k_is_plain_int : PySem.W.keepIn K (.ref f_is_plain_int) = true)
    (a_is_int_within : PySem.W.nsIn K mainGlobals "is_int_within" = some (some (.ref f_is_int_within)))
    (l_is_int_within : K.lookup f_is_int_within = some ⟨oc_is_int_within, od_is_int_within, .func (PySem.W.fnOf "is_int_within" "is_int_within" (defArgs s_is_int_within) (defBody s_is_int_within) (defScope s_is_int_within) .none kV_is_int_within dc_is_int_within pm_is_int_within an_is_int_within cd_is_int_within ct_is_int_within), sl_is_int_within⟩)
    (c_is_int_within : PySem.W.codeIn K cd_is_int_within "is_int_within" = true)
    (k_is_int_within : PySem.W.keepIn K (.ref f_is_int_within) = true)
    (a_is_side : PySem.W.nsIn K mainGlobals "_is_side" = some (some (.ref f_is_side)))
    (l_is_side : K.lookup f_is_side = some ⟨oc_is_side, od_is_side, .func (PySem.W.fnOf "_is_side" "_is_side" (defArgs s_is_side) (defBody s_is_side) (defScope s_is_side) .none kV_is_side dc_is_side pm_is_side an_is_side cd_is_side ct_is_side), sl_is_side⟩)
    (c_is_side : PySem.W.codeIn K cd_is_side "_is_side" = true)
    (k_is_side : PySem.W.keepIn K (.ref f_is_side) = true)
    (a_flow : PySem.W.nsIn K mainGlobals "_law_flow" = some (some (.ref f_flow)))
    (l_flow : K.lookup f_flow = some ⟨oc_flow, od_flow, .func (PySem.W.fnOf "_law_flow" "_law_flow" (defArgs s_flow) (defBody s_flow) (defScope s_flow) .none kV_flow dc_flow pm_flow an_flow cd_flow ct_flow), sl_flow⟩)
    (c_flow : PySem.W.codeIn K cd_flow "_law_flow" = true)
    (k_flow : PySem.W.keepIn K (.ref f_flow) = true)
    (a_pick : PySem.W.nsIn K mainGlobals "_law_pick" = some (some (.ref f_pick)))
    (l_pick : K.lookup f_pick = some ⟨oc_pick, od_pick, .func (PySem.W.fnOf "_law_pick" "_law_pick" (defArgs s_pick) (defBody s_pick) (defScope s_pick) .none kV_pick dc_pick pm_pick an_pick cd_pick ct_pick), sl_pick⟩)
    (c_pick : PySem.W.codeIn K cd_pick "_law_pick" = true)
    (k_pick : PySem.W.keepIn K (.ref f_pick) = true)
    (a_doors : PySem.W.nsIn K mainGlobals "_law_doors" = some (some (.ref f_doors)))
    (l_doors : K.lookup f_doors = some ⟨oc_doors, od_doors, .func (PySem.W.fnOf "_law_doors" "_law_doors" (defArgs s_doors) (defBody s_doors) (defScope s_doors) .none kV_doors dc_doors pm_doors an_doors cd_doors ct_doors), sl_doors⟩)
    (c_doors : PySem.W.codeIn K cd_doors "_law_doors" = true)
    (k_doors : PySem.W.keepIn K (.ref f_doors) = true)
    (a_is_flag : PySem.W.nsIn K mainGlobals "_law_is_flag" = some (some (.ref f_is_flag)))
    (l_is_flag : K.lookup f_is_flag = some ⟨oc_is_flag, od_is_flag, .func (PySem.W.fnOf "_law_is_flag" "_law_is_flag" (defArgs s_is_flag) (defBody s_is_flag) (defScope s_is_flag) .none kV_is_flag dc_is_flag pm_is_flag an_is_flag cd_is_flag ct_is_flag), sl_is_flag⟩)
    (c_is_flag : PySem.W.codeIn K cd_is_flag "_law_is_flag" = true)
    (k_is_flag : PySem.W.keepIn K (.ref f_is_flag) = true)
    (a_is : PySem.W.nsIn K mainGlobals "_law_is" = some (some (.ref f_is)))
    (l_is : K.lookup f_is = some ⟨oc_is, od_is, .func (PySem.W.fnOf "_law_is" "_law_is" (defArgs s_is) (defBody s_is) (defScope s_is) .none kV_is dc_is pm_is an_is cd_is ct_is), sl_is⟩)
    (c_is : PySem.W.codeIn K cd_is "_law_is" = true)
    (k_is : PySem.W.keepIn K (.ref f_is) = true)
    (a_law : PySem.W.nsIn K mainGlobals "law" = some (some (.ref f_law)))
    (l_law : K.lookup f_law = some ⟨oc_law, od_law, .func (PySem.W.fnOf "law" "law" (defArgs s_law) (defBody s_law) (defScope s_law) .none kV_law dc_law pm_law an_law cd_law ct_law), sl_law⟩)
    (c_law : PySem.W.codeIn K cd_law "law" = true)
    (k_law : PySem.W.keepIn K (.ref f_law) = true)
    (a_Exchange_init : PySem.W.findIn K (.ref C_Exchange) "__init__" = some (some (.ref f_Exchange_init)))
    (i_Exchange_init : PySem.W.isFn K (.ref f_Exchange_init) = true)
    (l_Exchange_init : K.lookup f_Exchange_init = some ⟨oc_Exchange_init, od_Exchange_init, .func (PySem.W.fnOf "__init__" "Exchange.__init__" (defArgs s_Exchange___init) (defBody s_Exchange___init) (defScope s_Exchange___init) .none kV_Exchange_init dc_Exchange_init pm_Exchange_init an_Exchange_init cd_Exchange_init ct_Exchange_init), sl_Exchange_init⟩)
    (c_Exchange_init : PySem.W.codeIn K cd_Exchange_init "Exchange.__init__" = true)
    (k_Exchange_init : PySem.W.keepIn K (.ref f_Exchange_init) = true)
    (a_Exchange_eq : PySem.W.findIn K (.ref C_Exchange) "__eq__" = some (some (.ref f_Exchange_eq)))
    (i_Exchange_eq : PySem.W.isFn K (.ref f_Exchange_eq) = true)
    (l_Exchange_eq : K.lookup f_Exchange_eq = some ⟨oc_Exchange_eq, od_Exchange_eq, .func (PySem.W.fnOf "__eq__" "Exchange.__eq__" (defArgs s_Exchange___eq) (defBody s_Exchange___eq) (defScope s_Exchange___eq) .none kV_Exchange_eq dc_Exchange_eq pm_Exchange_eq an_Exchange_eq cd_Exchange_eq ct_Exchange_eq), sl_Exchange_eq⟩)
    (c_Exchange_eq : PySem.W.codeIn K cd_Exchange_eq "Exchange.__eq__" = true)
    (k_Exchange_eq : PySem.W.keepIn K (.ref f_Exchange_eq) = true)
    (a_Exchange_with_middles : PySem.W.findIn K (.ref C_Exchange) "with_middles" = some (some (.ref f_Exchange_with_middles)))
    (i_Exchange_with_middles : PySem.W.isFn K (.ref f_Exchange_with_middles) = true)
    (l_Exchange_with_middles : K.lookup f_Exchange_with_middles = some ⟨oc_Exchange_with_middles, od_Exchange_with_middles, .func (PySem.W.fnOf "with_middles" "Exchange.with_middles" (defArgs s_Exchange_with_middles) (defBody s_Exchange_with_middles) (defScope s_Exchange_with_middles) .none kV_Exchange_with_middles dc_Exchange_with_middles pm_Exchange_with_middles an_Exchange_with_middles cd_Exchange_with_middles ct_Exchange_with_middles), sl_Exchange_with_middles⟩)
    (c_Exchange_with_middles : PySem.W.codeIn K cd_Exchange_with_middles "Exchange.with_middles" = true)
    (k_Exchange_with_middles : PySem.W.keepIn K (.ref f_Exchange_with_middles) = true)
    (a_Exchange_turned : PySem.W.findIn K (.ref C_Exchange) "turned" = some (some (.ref f_Exchange_turned)))
    (i_Exchange_turned : PySem.W.isFn K (.ref f_Exchange_turned) = true)
    (l_Exchange_turned : K.lookup f_Exchange_turned = some ⟨oc_Exchange_turned, od_Exchange_turned, .func (PySem.W.fnOf "turned" "Exchange.turned" (defArgs s_Exchange_turned) (defBody s_Exchange_turned) (defScope s_Exchange_turned) .none kV_Exchange_turned dc_Exchange_turned pm_Exchange_turned an_Exchange_turned cd_Exchange_turned ct_Exchange_turned), sl_Exchange_turned⟩)
    (c_Exchange_turned : PySem.W.codeIn K cd_Exchange_turned "Exchange.turned" = true)
    (k_Exchange_turned : PySem.W.keepIn K (.ref f_Exchange_turned) = true)
    (a_Exchange_pairs : PySem.W.findIn K (.ref C_Exchange) "pairs" = some (some (.ref f_Exchange_pairs)))
    (i_Exchange_pairs : PySem.W.isFn K (.ref f_Exchange_pairs) = true)
    (l_Exchange_pairs : K.lookup f_Exchange_pairs = some ⟨oc_Exchange_pairs, od_Exchange_pairs, .func (PySem.W.fnOf "pairs" "Exchange.pairs" (defArgs s_Exchange_pairs) (defBody s_Exchange_pairs) (defScope s_Exchange_pairs) .none kV_Exchange_pairs dc_Exchange_pairs pm_Exchange_pairs an_Exchange_pairs cd_Exchange_pairs ct_Exchange_pairs), sl_Exchange_pairs⟩)
    (c_Exchange_pairs : PySem.W.codeIn K cd_Exchange_pairs "Exchange.pairs" = true)
    (k_Exchange_pairs : PySem.W.keepIn K (.ref f_Exchange_pairs) = true)
    (pg : PySem.W.plainGet K C_Exchange Str.empty = true)
    (hd : PySem.W.hasDictIn K C_Exchange = true)
    (po : PySem.W.plainOver K C_Exchange = true)
    (sa : PySem.W.findIn K (.ref C_Exchange) "__setattr__" = some (some (.builtin "object.__setattr__")))
    (mk : PySem.W.makesIn K C_Exchange = true)
    (kc : PySem.W.keepIn K (.ref C_Exchange) = true)
    (nI : PySem.W.findIn K (.ref C_Exchange) "ins" = some none)
    (nO : PySem.W.findIn K (.ref C_Exchange) "outs" = some none)
    (nM : PySem.W.findIn K (.ref C_Exchange) "middles" = some none)
    (ca : PySem.W.findIn K (.ref C_Exchange) "__class__" = some (some (.builtin "object.__class__")))
    (cn : PySem.W.specialIn K (.builtin "object.__class__") "__get__" = some (some (.builtin "getset_descriptor.__get__")))
    (ct : PySem.W.takesIn K (.builtin "object.__class__") = some true)
    (cm : PySem.W.mroIn K C_Exchange (.type "object") = some true)
    (ic : PySem.W.isClsIn K C_Exchange = true)
    (ty : PySem.W.typeIn K (.ref C_Exchange) = some (.type "type"))
    (sT : PySem.W.subIn K (.type "tuple") (.ref C_Exchange) = some false)
    (sI : PySem.W.subIn K (.type "int") (.ref C_Exchange) = some false)
    (fS : PySem.W.notFirst K C_Exchange (.ref C_Exchange) = true)
    (fT : PySem.W.notFirst K C_Exchange (.type "tuple") = true)
    (fI : PySem.W.notFirst K C_Exchange (.type "int") = true)
    (qr : PySem.W.readsIn K C_Exchange (.type "type") = true)
    (qg : PySem.W.specialIn K (.ref C_Exchange) "__getattribute__" = some (some (.builtin "type.__getattribute__")))
    (qf : PySem.W.findCls K (.ref C_Exchange) (.type "type") "square" = some (.get (.builtin "classmethod.__get__") (.ref p_sq) .none (.ref C_Exchange)))
    (qc : PySem.W.recIn K p_sq "classmethod" = some (.ref g_sq :: rest_sq))
    (qi : PySem.W.fnIn K g_sq = true)
    (ql : K.lookup g_sq = some ⟨oc_sq, od_sq, .func (PySem.W.fnOf "square" "Exchange.square" (defArgs s_Exchange_square) (defBody s_Exchange_square) (defScope s_Exchange_square) .none kV_sq dc_sq pm_sq an_sq cd_sq ct_sq), sl_sq⟩)
    (qd : PySem.W.codeIn K cd_sq "Exchange.square" = true)
    (qk : PySem.W.keepIn K (.ref g_sq) = true)
    (z_len : PySem.W.nsIn K mainGlobals "len" = some none)
    (z_abs : PySem.W.nsIn K mainGlobals "abs" = some none)
    (z_int : PySem.W.nsIn K mainGlobals "int" = some none)
    (z_bool : PySem.W.nsIn K mainGlobals "bool" = some none)
    (z_tuple : PySem.W.nsIn K mainGlobals "tuple" = some none)
    (z_list : PySem.W.nsIn K mainGlobals "list" = some none)
    (z_isinstance : PySem.W.nsIn K mainGlobals "isinstance" = some none)
    (z_all : PySem.W.nsIn K mainGlobals "all" = some none)
    (z_range : PySem.W.nsIn K mainGlobals "range" = some none)
    (y_MOST_SWITCHES : PySem.W.nsIn K mainGlobals "MOST_SWITCHES" = some (some (.int 4 t_MOST_SWITCHES)))
    (y_MOST_DOORS : PySem.W.nsIn K mainGlobals "MOST_DOORS" = some (some (.int 4 t_MOST_DOORS)))
    (y_MOST_MIDDLES : PySem.W.nsIn K mainGlobals "MOST_MIDDLES" = some (some (.int 7 t_MOST_MIDDLES)))
    : ∃ fd : FuncData, (∀ (s : Shared) (v : Value), BindsTo s fd ⟨[v], []⟩ [("_law_script", v)]) ∧ ∀ base : Heap, K.In base → base.Ns mainGlobals mg → FnOk P w K mg base CX0 9 fa fd ["_law_script"] (spLaw K) := by
  have efa := hfa.symm.trans (PySem.W.mg_of X G a_law)
  cases efa
  have D_is_plain_int : DefAt K mg "is_plain_int" s_is_plain_int ["value"] := DefAt.of X G a_is_plain_int l_is_plain_int c_is_plain_int k_is_plain_int fun _ _ _ _ _ _ us hl => match us, hl with | [_], _ => rfl
  have D_is_int_within : DefAt K mg "is_int_within" s_is_int_within ["value", "low", "high"] := DefAt.of X G a_is_int_within l_is_int_within c_is_int_within k_is_int_within fun _ _ _ _ _ _ us hl => match us, hl with | [_, _, _], _ => rfl
  have D_is_side : DefAt K mg "_is_side" s_is_side ["value"] := DefAt.of X G a_is_side l_is_side c_is_side k_is_side fun _ _ _ _ _ _ us hl => match us, hl with | [_], _ => rfl
  have D_flow : DefAt K mg "_law_flow" s_flow ["_law_script", "_law_k"] := DefAt.of X G a_flow l_flow c_flow k_flow fun _ _ _ _ _ _ us hl => match us, hl with | [_, _], _ => rfl
  have D_pick : DefAt K mg "_law_pick" s_pick ["_law_flow_here", "_law_size"] := DefAt.of X G a_pick l_pick c_pick k_pick fun _ _ _ _ _ _ us hl => match us, hl with | [_, _], _ => rfl
  have D_doors : DefAt K mg "_law_doors" s_doors ["_law_flow_here", "_law_most", "_law_doors_here"] := DefAt.of X G a_doors l_doors c_doors k_doors fun _ _ _ _ _ _ us hl => match us, hl with | [_, _, _], _ => rfl
  have D_is_flag : DefAt K mg "_law_is_flag" s_is_flag ["_law_actual", "_law_wanted"] := DefAt.of X G a_is_flag l_is_flag c_is_flag k_is_flag fun _ _ _ _ _ _ us hl => match us, hl with | [_, _], _ => rfl
  have D_is : DefAt K mg "_law_is" s_is ["_law_exchange", "_law_ins", "_law_outs", "_law_middles"] := DefAt.of X G a_is l_is c_is k_is fun _ _ _ _ _ _ us hl => match us, hl with | [_, _, _, _], _ => rfl
  have D_law : DefAt K mg "law" s_law ["_law_script"] := DefAt.of X G a_law l_law c_law k_law fun _ _ _ _ _ _ us hl => match us, hl with | [_], _ => rfl
  have D_Exchange_init : MethAt K C_Exchange "__init__" "Exchange.__init__" s_Exchange___init ["self", "ins", "outs", "middles"] := MethAt.of a_Exchange_init i_Exchange_init l_Exchange_init c_Exchange_init k_Exchange_init fun _ _ _ _ _ _ us hl => match us, hl with | [_, _, _, _], _ => rfl
  have D_Exchange_eq : MethAt K C_Exchange "__eq__" "Exchange.__eq__" s_Exchange___eq ["self", "other"] := MethAt.of a_Exchange_eq i_Exchange_eq l_Exchange_eq c_Exchange_eq k_Exchange_eq fun _ _ _ _ _ _ us hl => match us, hl with | [_, _], _ => rfl
  have D_Exchange_with_middles : MethAt K C_Exchange "with_middles" "Exchange.with_middles" s_Exchange_with_middles ["self", "middles"] := MethAt.of a_Exchange_with_middles i_Exchange_with_middles l_Exchange_with_middles c_Exchange_with_middles k_Exchange_with_middles fun _ _ _ _ _ _ us hl => match us, hl with | [_, _], _ => rfl
  have D_Exchange_turned : MethAt K C_Exchange "turned" "Exchange.turned" s_Exchange_turned ["self"] := MethAt.of a_Exchange_turned i_Exchange_turned l_Exchange_turned c_Exchange_turned k_Exchange_turned fun _ _ _ _ _ _ us hl => match us, hl with | [_], _ => rfl
  have D_Exchange_pairs : MethAt K C_Exchange "pairs" "Exchange.pairs" s_Exchange_pairs ["self"] := MethAt.of a_Exchange_pairs i_Exchange_pairs l_Exchange_pairs c_Exchange_pairs k_Exchange_pairs fun _ _ _ _ _ _ us hl => match us, hl with | [_], _ => rfl
  have T : Blt mg := ⟨PySem.W.mg_none_of X G z_len, PySem.W.mg_none_of X G z_abs, PySem.W.mg_none_of X G z_int, PySem.W.mg_none_of X G z_bool, PySem.W.mg_none_of X G z_tuple, PySem.W.mg_none_of X G z_list, PySem.W.mg_none_of X G z_isinstance, PySem.W.mg_none_of X G z_all, PySem.W.mg_none_of X G z_range,
    ⟨_, PySem.W.mg_of X G y_MOST_SWITCHES⟩, ⟨_, PySem.W.mg_of X G y_MOST_DOORS⟩, ⟨_, PySem.W.mg_of X G y_MOST_MIDDLES⟩⟩
  have XT : ExT K mg C_Exchange := ⟨⟨pg, hd, po, sa⟩, nI, nO, nM, ca, cn, ct, cm, kit_self, kit_own ic ty sT rfl, kit_own ic ty sI rfl, fS, fT, fI, PySem.W.mg_of X G a_Exchange⟩
  have Fq := fun_mk (st := s_Exchange_square) ql qd qk
  have SQ : SqAt K C_Exchange := ⟨⟨_, _, _, _, ⟨qr, qg⟩, ⟨qf, ⟨_, qc⟩, qi⟩, Fq, Fq.binds fun _ _ _ _ _ _ us hl => match us, hl with | [_, _, _, _], _ => rfl⟩⟩
  refine ⟨PySem.W.fnOf "law" "law" (defArgs s_law) (defBody s_law) (defScope s_law) .none kV_law dc_law pm_law an_law cd_law ct_law, fun s v => .of_eq rfl, fun base _ _ => ?_⟩
  have O1 : DefOk P w K mg base CX0 1 "is_plain_int" (spPlain K) := ok_is_plain_int T D_is_plain_int
  have O2 : DefOk P w K mg base CX0 2 "is_int_within" (spWithin K) := ok_is_int_within T O1 D_is_int_within
  have O3 : DefOk P w K mg base CX0 3 "_is_side" (spSide K) := ok_is_side T O2 D_is_side
  have I1 : MethOk P w K mg base CX0 4 C_Exchange "__init__" (spInit C_Exchange) := ok_init T XT O3 O2 D_Exchange_init
  have N1 : NewOk P w K mg base CX0 4 "Exchange" C_Exchange (spInit C_Exchange) := I1.new mk kc (PySem.W.mg_of X G a_Exchange)
  have FL : DefOk P w K mg base CX0 1 "_law_flow" (spFlow K) := ok_flow T D_flow
  have PI : DefOk P w K mg base CX0 1 "_law_pick" spPick := ok_pick T D_pick
  exact ok_law_fn T XT FL PI (ok_doors T PI D_doors) (ok_is_flag T D_is_flag) (ok_is T XT D_is) N1 (ok_with XT N1 D_Exchange_with_middles) (ok_turned XT N1 D_Exchange_turned) (ok_eq XT T D_Exchange_eq) (ok_pairs XT T D_Exchange_pairs)
    (ok_square XT T N1 O2 SQ) (fun_mk (st := s_law) l_law c_law k_law)
theorem walk {l : PySem.W.OpenLaw} {q : Program} {loose : List Str} {XP : (Str → Option Value) → Heap → Prop} {YP : World → Heap → Prop} {d : DefRec} {K : Params → PySem.W.Frag} (hn : l.most = some 63) (hdf : d.params.defaults = [])
    (hY : ∀ (w : World) (h : Heap), YP w h → (K w.params).In h)
    (F : ∀ (w : World) (mg : Str → Option Value) (fa : Addr) (h : Heap), (K w.params).In h → h.Ns mainGlobals mg → mg d.name = some (.ref fa) →
      ∃ fd : FuncData, (∀ (s : Shared) (u : Value), BindsTo s fd ⟨[u], []⟩ [("_law_script", u)]) ∧ ∀ base : Heap, (K w.params).In base → base.Ns mainGlobals mg → FnOk l.prog w (K w.params) mg base CX0 9 fa fd ["_law_script"] (spLaw (K w.params))) :
    PySem.W.WalkO q loose XP YP l.row.toRowW d [] (fun f vs => PySem.call f vs) :=
  L2.walk_of (n := 63) (k := 9) (x := "_law_script") (CX := fun _ => CX0) (sp := fun w => spLaw (K w.params)) hn (by decide) hdf ⟨rfl, by decide, by decide⟩ hY F (fun _ _ a ns hl _ hS => ⟨a, ns, rfl, hS, hl, fun _ => rfl⟩) fun _ _ _ _ _ z => z
end K03
open PySem PySem.W PyProof.Rows
set_option maxRecDepth 100000 in
set_option maxHeartbeats 0 in
theorem PySem.Challenge.cw_callsthrough_k03_exchange_turned_holds : PySem.Challenge.rw_callsthrough_k03_exchange_turned.Holds := by
  w_on; o_law; k_head; (case hw => w_witness2)
  k_fill
  refine K03.walk (l := PySem.Challenge.rw_callsthrough_k03_exchange_turned) rfl rfl (fun w h Y => PySem.W.kIn_of Y) ?F
  case F =>
    intro w mg fa h KX G hmg
    refine' K03.all_mk KX G hmg ?a_Exchange ?a_is_plain_int ?l_is_plain_int ?c_is_plain_int ?k_is_plain_int ?a_is_int_within ?l_is_int_within ?c_is_int_within ?k_is_int_within ?a_is_side ?l_is_side ?c_is_side ?k_is_side ?a_flow ?l_flow ?c_flow ?k_flow ?a_pick ?l_pick ?c_pick ?k_pick ?a_doors ?l_doors ?c_doors ?k_doors ?a_is_flag ?l_is_flag ?c_is_flag ?k_is_flag ?a_is ?l_is ?c_is ?k_is ?a_law ?l_law ?c_law ?k_law ?a_Exchange_init ?i_Exchange_init ?l_Exchange_init ?c_Exchange_init ?k_Exchange_init ?a_Exchange_eq ?i_Exchange_eq ?l_Exchange_eq ?c_Exchange_eq ?k_Exchange_eq ?a_Exchange_with_middles ?i_Exchange_with_middles ?l_Exchange_with_middles ?c_Exchange_with_middles ?k_Exchange_with_middles ?a_Exchange_turned ?i_Exchange_turned ?l_Exchange_turned ?c_Exchange_turned ?k_Exchange_turned ?a_Exchange_pairs ?i_Exchange_pairs ?l_Exchange_pairs ?c_Exchange_pairs ?k_Exchange_pairs ?pg ?hd ?po ?sa ?mk ?kc ?nI ?nO ?nM ?ca ?cn ?ct ?cm ?ic ?ty ?sT ?sI ?fS ?fT ?fI ?qr ?qg ?qf ?qc ?qi ?ql ?qd ?qk ?z_len ?z_abs ?z_int ?z_bool ?z_tuple ?z_list ?z_isinstance ?z_all ?z_range ?y_MOST_SWITCHES ?y_MOST_DOORS ?y_MOST_MIDDLES
    (case a_Exchange => k_is)
    (case a_is_plain_int => k_is)
    (case l_is_plain_int => k_is)
    (case c_is_plain_int => k_is)
    (case k_is_plain_int => k_is)
    (case a_is_int_within => k_is)
    (case l_is_int_within => k_is)
    (case c_is_int_within => k_is)
    (case k_is_int_within => k_is)
    (case a_is_side => k_is)
    (case l_is_side => k_is)
    (case c_is_side => k_is)
    (case k_is_side => k_is)
    (case a_flow => k_is)
    (case l_flow => k_is)
    (case c_flow => k_is)
    (case k_flow => k_is)
    (case a_pick => k_is)
    (case l_pick => k_is)
    (case c_pick => k_is)
    (case k_pick => k_is)
    (case a_doors => k_is)
    (case l_doors => k_is)
    (case c_doors => k_is)
    (case k_doors => k_is)
    (case a_is_flag => k_is)
    (case l_is_flag => k_is)
    (case c_is_flag => k_is)
    (case k_is_flag => k_is)
    (case a_is => k_is)
    (case l_is => k_is)
    (case c_is => k_is)
    (case k_is => k_is)
    (case a_law => k_is)
    (case l_law => k_is)
    (case c_law => k_is)
    (case k_law => k_is)
    (case a_Exchange_init => k_is)
    (case i_Exchange_init => k_is)
    (case l_Exchange_init => k_is)
    (case c_Exchange_init => k_is)
    (case k_Exchange_init => k_is)
    (case a_Exchange_eq => k_is)
    (case i_Exchange_eq => k_is)
    (case l_Exchange_eq => k_is)
    (case c_Exchange_eq => k_is)
    (case k_Exchange_eq => k_is)
    (case a_Exchange_with_middles => k_is)
    (case i_Exchange_with_middles => k_is)
    (case l_Exchange_with_middles => k_is)
    (case c_Exchange_with_middles => k_is)
    (case k_Exchange_with_middles => k_is)
    (case a_Exchange_turned => k_is)
    (case i_Exchange_turned => k_is)
    (case l_Exchange_turned => k_is)
    (case c_Exchange_turned => k_is)
    (case k_Exchange_turned => k_is)
    (case a_Exchange_pairs => k_is)
    (case i_Exchange_pairs => k_is)
    (case l_Exchange_pairs => k_is)
    (case c_Exchange_pairs => k_is)
    (case k_Exchange_pairs => k_is)
    (case pg => k_is)
    (case hd => k_is)
    (case po => k_is)
    (case sa => k_is)
    (case mk => k_is)
    (case kc => k_is)
    (case nI => k_is)
    (case nO => k_is)
    (case nM => k_is)
    (case ca => k_is)
    (case cn => k_is)
    (case ct => k_is)
    (case cm => k_is)
    (case ic => k_is)
    (case ty => k_is)
    (case sT => k_is)
    (case sI => k_is)
    (case fS => k_is)
    (case fT => k_is)
    (case fI => k_is)
    (case qr => k_is)
    (case qg => k_is)
    (case qf => k_is)
    (case qc => k_is)
    (case qi => k_is)
    (case ql => k_is)
    (case qd => k_is)
    (case qk => k_is)
    (case z_len => k_is)
    (case z_abs => k_is)
    (case z_int => k_is)
    (case z_bool => k_is)
    (case z_tuple => k_is)
    (case z_list => k_is)
    (case z_isinstance => k_is)
    (case z_all => k_is)
    (case z_range => k_is)
    (case y_MOST_SWITCHES => k_is)
    (case y_MOST_DOORS => k_is)
    (case y_MOST_MIDDLES => k_is)
