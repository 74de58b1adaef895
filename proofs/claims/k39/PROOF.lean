import PyProof.Rows.All
import Wide.All
import OpenK.AllK
import Wide.FinOn
import HandS.ForMost
import HandS.IsInst
import HandS.Wide
import HandS.More
import HandS.SlotsOwn
import HandS.ClsMeth
import HandS.TupMul
import HandS.TupAny
import HandS.Gcd
import HandS.MakeKw
import HandS.Defaults
import HandS.SetFor
import HandS.Strs
import HandS.SortRule
import HandS.Zip
import HandS.Deep
import HandS.TupLe
import KE.GoesEnum
import KE.GoesMore
import HandS.DeepEq
import PyProof.SumWalkG
import PyProof.Rows.SumAny
import PyProof.WalksMore
import KE.KExcSuper
import KE.KSuper
import HandS.Exc
import HandS.ExcField
import HandS.ExcOwn
import HandS.WordsExc
import HandS.TryMany
import HandS.Star
import PyProof.P3In
import HandS.SortOrd
import HandS.NamedTupSort
import KE.DataFind
import HandS.List
import HandS.Rev
import HandS.Dict
import HandS.Iter
import KE.KDictKeyed
import KE.KDictWalk
import HandS.FStr
import HandS.Text
import HandS.StrMore
import KE.RegKSuper
import PySem.Challenge.RW_callsthrough_k39_standing_texts
set_option Elab.async false
set_option linter.all false
set_option maxRecDepth 100000
set_option maxHeartbeats 4000000
/-! Words of our own over the hand layer: a def by its name, its promise, its call; an own == . -/
namespace Com
open PySem PySem.Spec PyProof.Rows L2
/-! ### a def of the module, a method, a class, by their names -/
/-- the module has the name x of the def st -/
structure DefAt (K : PySem.W.Frag) (mg : Str → Option Value) (x : Str) (st : Stmt) (ps : List Str) : Prop where
  ex : ∃ (f : Addr) (fd : FuncData), Fun K x x st f fd ∧ mg x = some (.ref f) ∧ Binds K fd ps []
/-- the class at C has the method m, the def st -/
structure MethAt (K : PySem.W.Frag) (C : Addr) (m qual : Str) (st : Stmt) (ps : List Str) : Prop where
  ex : ∃ (f : Addr) (fd : FuncData), Fun K m qual st f fd ∧ Meth K C m f ∧ Binds K fd ps []
/-- the promises -/
structure DefOk (P : Program) (w : World) (K : PySem.W.Frag) (mg : Str → Option Value) (base : Heap) (CX : CXT) (k : Nat) (x : Str) (sp : Sp) : Prop where
  ex : ∃ f : Addr, FnR P w K mg base CX k f sp ∧ mg x = some (.ref f) ∧ PySem.W.keepIn K (.ref f) = true
structure MethOk (P : Program) (w : World) (K : PySem.W.Frag) (mg : Str → Option Value) (base : Heap) (CX : CXT) (k : Nat) (C : Addr) (m : Str) (sp : Sp) : Prop where
  ex : ∃ f : Addr, FnR P w K mg base CX k f sp ∧ Meth K C m f
structure NewOk (P : Program) (w : World) (K : PySem.W.Frag) (mg : Str → Option Value) (base : Heap) (CX : CXT) (k : Nat) (x : Str) (C : Addr) (sp : Sp) : Prop where
  ex : ∃ f : Addr, FnR P w K mg base CX k f sp ∧ Mk K C f
  mg : mg x = some (.ref C)
theorem DefAt.of {K : PySem.W.Frag} {mg : Str → Option Value} {h : Heap} {x : Str} {st : Stmt} {ps : List Str} {f : Addr} {oc : Value} {od an : Option Addr} {osl : Array (Option Value)} {kV doc pm cdv ct : Value}
    (X : K.In h) (G : h.Ns mainGlobals mg) (a : PySem.W.nsIn K mainGlobals x = some (some (.ref f)))
    (l : K.lookup f = some ⟨oc, od, .func (PySem.W.fnOf x x (defArgs st) (defBody st) (defScope st) .none kV doc pm an cdv ct), osl⟩) (c : PySem.W.codeIn K cdv x = true) (k : PySem.W.keepIn K (.ref f) = true)
    (b : ∀ (kV doc pm : Value) (an : Option Addr) (cdv ct : Value) (us : List Value), us.length = ps.length → bindArgs (PySem.W.fnOf x x (defArgs st) (defBody st) (defScope st) .none kV doc pm an cdv ct) ⟨us, []⟩ = pure (ps.zip us)) :
    DefAt K mg x st ps := ⟨f, _, fun_mk l c k, PySem.W.mg_of X G a, (fun_mk l c k).binds b⟩
theorem MethAt.of {K : PySem.W.Frag} {C : Addr} {m qual : Str} {st : Stmt} {ps : List Str} {f : Addr} {oc : Value} {od an : Option Addr} {osl : Array (Option Value)} {kV doc pm cdv ct : Value}
    (a : PySem.W.findIn K (.ref C) m = some (some (.ref f))) (i : PySem.W.isFn K (.ref f) = true)
    (l : K.lookup f = some ⟨oc, od, .func (PySem.W.fnOf m qual (defArgs st) (defBody st) (defScope st) .none kV doc pm an cdv ct), osl⟩) (c : PySem.W.codeIn K cdv qual = true) (k : PySem.W.keepIn K (.ref f) = true)
    (b : ∀ (kV doc pm : Value) (an : Option Addr) (cdv ct : Value) (us : List Value), us.length = ps.length → bindArgs (PySem.W.fnOf m qual (defArgs st) (defBody st) (defScope st) .none kV doc pm an cdv ct) ⟨us, []⟩ = pure (ps.zip us)) :
    MethAt K C m qual st ps := ⟨f, _, fun_mk l c k, ⟨a, i, k⟩, (fun_mk l c k).binds b⟩
theorem raw0 {P : Program} {w : World} {K : PySem.W.Frag} {mg : Str → Option Value} {base : Heap} {CX : CXT} {k : Nat} {f : Addr} {fd : FuncData} {ps : List Str} {sp : Sp} (F : FnOk P w K mg base CX k f fd ps sp) (b : Binds K fd ps []) : FnR P w K mg base CX k f sp :=
  (F.raw (ds := []) (dvs := []) b .nil).imp fun vs H Q E h => by rw [List.append_nil]; exact h
section
variable {P : Program} {w : World} {K : PySem.W.Frag} {mg : Str → Option Value} {base : Heap} {x qual : Str} {C : Addr} {st : Stmt} {ps N : List Str} {k : Nat} {sp : Sp}
theorem DefAt.ok (D : DefAt K mg x st ps) (S : FnScope N ps (defScope st)) (len : ∀ vs H Q E, sp vs H Q E → vs.length = ps.length)
    (hbody : ∀ (f : Addr) (cdv : Value) (A : Around) (outer : List Env) (s : Shared) (H : Hp) (vs : List V) (Q : VK) (E : XK), Room k (A.deeper (envOfC x (defScope st) s.heap.objs.size f cdv)) → sp vs H Q E →
      ∃ t, PSs (cxOf CX0 P w K mg base N x (defScope st) f cdv A outer s H E).nox (defBody st) t ∧ t { nx := fun _ H' => Q .non H', rt := Q } (start N vs) H) : DefOk P w K mg base CX0 (k + 1) x sp := by
  obtain ⟨f, fd, F, m, b⟩ := D.ex
  exact ⟨f, raw0 (F.ok S len (fun cdv A outer s H vs Q E hr h => hbody f cdv A outer s H vs Q E hr h)) b, m, F.kp⟩
theorem MethAt.fn (D : MethAt K C x qual st ps) (S : FnScope N ps (defScope st)) (len : ∀ vs H Q E, sp vs H Q E → vs.length = ps.length)
    (hbody : ∀ (f : Addr) (cdv : Value) (A : Around) (outer : List Env) (s : Shared) (H : Hp) (vs : List V) (Q : VK) (E : XK), Room k (A.deeper (envOfC qual (defScope st) s.heap.objs.size f cdv)) → sp vs H Q E →
      ∃ t, PSs (cxOf CX0 P w K mg base N qual (defScope st) f cdv A outer s H E).nox (defBody st) t ∧ t { nx := fun _ H' => Q .non H', rt := Q } (start N vs) H) : MethOk P w K mg base CX0 (k + 1) C x sp := by
  obtain ⟨f, fd, F, m, b⟩ := D.ex
  exact ⟨f, raw0 (F.ok S len (fun cdv A outer s H vs Q E hr h => hbody f cdv A outer s H vs Q E hr h)) b, m⟩
theorem DefOk.mono {CX : CXT} {j : Nat} (D : DefOk P w K mg base CX j x sp) (h : j ≤ k) : DefOk P w K mg base CX k x sp := let ⟨f, F, m, kp⟩ := D.ex; ⟨f, F.mono h, m, kp⟩
theorem MethOk.mono {CX : CXT} {j : Nat} (D : MethOk P w K mg base CX j C x sp) (h : j ≤ k) : MethOk P w K mg base CX k C x sp := let ⟨f, F, m⟩ := D.ex; ⟨f, F.mono h, m⟩
/-- an __init__ makes its class makeable -/
theorem MethOk.new {CX : CXT} (D : MethOk P w K mg base CX k C "__init__" sp) (mk : PySem.W.makesIn K C = true) (kc : PySem.W.keepIn K (.ref C) = true) (hm : mg x = some (.ref C)) : NewOk P w K mg base CX k x C sp :=
  let ⟨f, F, m⟩ := D.ex; ⟨⟨f, F, ⟨mk, m.at_, m.fn, kc⟩⟩, hm⟩
end
/-! ### calls -/
def tDef (sp : Sp) (E : XK) (t : TA) : TE := fun σ H Q => t σ H fun vs H1 => sp vs H1 Q E
def tNew (C : Addr) (sp : Sp) (E : XK) (t : TA) : TE := fun σ H Q => t σ H fun vs H1 => ∀ x dx, H1 x = none → H1 dx = none → dx ≠ x →
  sp (.ref x :: vs) (upd (upd H1 dx (.own x)) x (.ins C dx [])) (fun v H2 => v = .non ∧ Q (.ref x) H2) E
def tMth (C : Addr) (m : Str) (sp : Sp) (E : XK) (ta : TE) (t : TA) : TE := fun σ H Q => ta σ H fun x H1 => ∃ a dx fs, x = .ref a ∧ H1 a = some (.ins C dx fs) ∧ fs.lookup m = none ∧ t σ H1 fun vs H2 => sp (x :: vs) H2 Q E
section
variable {X : Cx} {CX : CXT} {k j : Nat} {C f : Addr} {sp : Sp} {E : XK} {x m : Str} {p pos apos : Pos} {o e : Expr} {es : List Expr} {ta : TE} {t : TA} {i : Nat}
theorem runR {pins : List (Addr × Obj)} {σ : L2.St} {H : Hp} {s : Shared} {Q : VK} {us : List Value} {vs : List V} (F : FnR X.prog X.w X.K X.mg X.base CX j f sp) (hr : Room k X.A) (hjk : j ≤ k) (hx : Passes CX X E) (I : Inv X pins σ H s) (r : Vals vs us) (h : sp vs H Q E) :
    wpAny (model X.prog X.w) X.A (call (.ref f) us) (EP X pins σ Q) X.xe s := wpAny_call (run_fnR F (hr.mono hjk) hx I r h)
theorem pe_def (D : DefOk X.prog X.w X.K X.mg X.base CX j x sp) (hr : Room k X.A) (hjk : j ≤ k) (hx : Passes CX X E) (ha : PA X (e :: es) t) (hg : Gl X x := by rfl) (hdb : (x == ("__debug__" : Str)) = false := by decide)
    (he : starEach (e :: es) X.env = (false, eval e X.env) :: starEach es X.env := by rfl) (hpl : (backTo pos (starEach es X.env)).any (·.1) = false := by rfl) :
    PE X (.Call (.Name x p) (e :: es) [] pos) (tDef sp E t) := by
  obtain ⟨f, F, m, kp⟩ := D.ex
  refine ⟨fun pins s σ H Q I h => ?_⟩
  refine wpAny_Call_Name_kw (ld_glob I hg m ?_ hdb)
  refine PySem.W.callWith_K (h₀ := X.base) I.ok.mod.kin kp (thn (ha.run pos pins s σ H _ I h) fun us s1 ⟨vs, H1, I1, r, q⟩ => ⟨I1.kIn, ?_⟩) he hpl
  exact runR F hr hjk hx I1 r q
theorem runNew {pins : List (Addr × Obj)} {σ : L2.St} {H : Hp} {s : Shared} {Q : VK} {us : List Value} {vs : List V} (M : Mk X.K C f) (F : FnR X.prog X.w X.K X.mg X.base CX j f sp) (hr : Room (k + 1) X.A) (hjk : j ≤ k)
    (hx : Passes CX X E) (I : Inv X pins σ H s) (r : Vals vs us)
    (h : ∀ x dx, H x = none → H dx = none → dx ≠ x → sp (.ref x :: vs) (upd (upd H dx (.own x)) x (.ins C dx [])) (fun v H2 => v = .non ∧ Q (.ref x) H2) E) :
    wpAny (model X.prog X.w) X.A (call (.ref C) us) (EP X pins σ Q) X.xe s := by
  have hq := h (s.heap.objs.size + 1) s.heap.objs.size (I.hok.fresh (Nat.le_succ _)) (I.hok.fresh (Nat.le_refl _)) (Nat.ne_of_lt (Nat.lt_succ_self _))
  have I2 := Inv.made (C := C) I
  have r2 : Vals (V.ref (s.heap.objs.size + 1) :: vs) (Value.ref (s.heap.objs.size + 1) :: us) := .cons rfl r
  refine wpAny_call (make_map (f := f) I.kIn M.makes M.init (beq_iff_eq.mp M.fn) (codeAny_mono (F _ X.stack _ _ (Value.ref (s.heap.objs.size + 1) :: us) _ _ E ((hr.make C us []).mono hjk)
    (I2.env0.make C us []) r2 hq) fun r s' hq' => ?_))
  cases r with
  | error e => exact hx pins σ _ _ e s' I2 hq'
  | ok fl =>
    cases fl with
    | ret u =>
      obtain ⟨v, H', I3, rv, ev, q3⟩ := I2.after hq'
      subst ev
      exact ⟨rv, ⟨V.ref (s.heap.objs.size + 1), H', I3, rfl, q3⟩⟩
    | next => exact False.elim hq'
    | brk => exact False.elim hq'
    | cont => exact False.elim hq'
theorem pe_new (M : NewOk X.prog X.w X.K X.mg X.base CX j x C sp) (hr : Room (k + 1) X.A) (hjk : j ≤ k) (hx : Passes CX X E) (ha : PA X (e :: es) t) (hg : Gl X x := by rfl) (hdb : (x == ("__debug__" : Str)) = false := by decide)
    (he : starEach (e :: es) X.env = (false, eval e X.env) :: starEach es X.env := by rfl) (hpl : (backTo pos (starEach es X.env)).any (·.1) = false := by rfl) :
    PE X (.Call (.Name x p) (e :: es) [] pos) (tNew C sp E t) := by
  obtain ⟨f, F, M1⟩ := M.ex
  refine ⟨fun pins s σ H Q I h => ?_⟩
  refine wpAny_Call_Name_kw (ld_glob I hg M.mg ?_ hdb)
  refine PySem.W.callWith_K (h₀ := X.base) I.ok.mod.kin M1.kp (thn (ha.run pos pins s σ H _ I h) fun us s1 ⟨vs, H1, I1, r, q⟩ => ⟨I1.kIn, ?_⟩) he hpl
  exact runNew M1 F hr hjk hx I1 r q
/-- the class stands in the i-th slot (cls of a classmethod) -/
def tNewL (i : Nat) (C : Addr) (sp : Sp) (E : XK) (t : TA) : TE := fun σ H Q => σ[i]? = some (some (.ref C)) ∧ tNew C sp E t σ H Q
theorem pe_newL {y : Str} (M : NewOk X.prog X.w X.K X.mg X.base CX j y C sp) (hr : Room (k + 1) X.A) (hjk : j ≤ k) (hx : Passes CX X E) (ha : PA X (e :: es) t) (hN : X.N[i]? = some x := by rfl) (hv : Vis X.env.scope x := by first | exact Or.inl rfl | exact Or.inr (Or.inl rfl) | exact Or.inr (Or.inr rfl))
    (hdb : (x == ("__debug__" : Str)) = false := by decide) (hcd : (x == ("__classdict__" : Str)) = false := by decide)
    (he : starEach (e :: es) X.env = (false, eval e X.env) :: starEach es X.env := by rfl) (hpl : (backTo pos (starEach es X.env)).any (·.1) = false := by rfl) :
    PE X (.Call (.Name x p) (e :: es) [] pos) (tNewL i C sp E t) := by
  obtain ⟨f, F, M1⟩ := M.ex
  refine ⟨fun pins s σ H Q I h => ?_⟩
  obtain ⟨hs, ht⟩ := h
  refine wpAny_Call_Name_kw (thn ((pe_var (pos := p) hN hv hdb hcd).run pins s σ H (fun v H1 => v = .ref C ∧ H1 = H) I ⟨.ref C, hs, rfl, rfl⟩) fun u s1 ⟨v, H1, I1, r1, q1⟩ => ?_)
  obtain ⟨rfl, rfl⟩ := q1
  cases r1
  refine PySem.W.callWith_K (h₀ := X.base) I.ok.mod.kin M1.kp (thn (ha.run pos pins s1 σ _ _ I1 ht) fun us s2 ⟨vs, H2, I2, r, q⟩ => ⟨I2.kIn, ?_⟩) he hpl
  exact runNew M1 F hr hjk hx I2 r q
theorem pe_mth {pl : Sem Bool} (he : PE X o ta) (c : Cls X.K C) (M : MethOk X.prog X.w X.K X.mg X.base CX j C m sp) (hr : Room k X.A) (hjk : j ≤ k) (hx : Passes CX X E) (ha : PA X (e :: es) t)
    (hst : starEach (e :: es) X.env = (false, eval e X.env) :: starEach es X.env := by rfl) (hpl : (backTo pos (starEach es X.env)).any (·.1) = false := by rfl)
    (ht : eval (.Call (.Attribute o m apos) (e :: es) [] pos) X.env = (do
      let ov ← eval o X.env
      standAt apos.atName
      let (f, first) ← holding [ov] (getMethod ov m pl)
      callWith pos f first (backTo pos (starEach (e :: es) X.env)) (backToKw pos (keywordEach [] X.env))) := by rfl) :
    PE X (.Call (.Attribute o m apos) (e :: es) [] pos) (tMth C m sp E ta t) := by
  obtain ⟨g, F, hm⟩ := M.ex
  refine ⟨fun pins s σ H Q I h => ?_⟩
  refine PySem.W.methodCall_KW (pl := pl) (thn (he.run pins s σ H _ I h) fun u s1 ⟨x, H1, I1, rx, a, dx, fs, ex, ea, l, q⟩ => ?_) ht
  subst ex
  obtain rfl : u = Value.ref a := rx
  refine getmeth_ok I1 ea c hm l ?_
  refine PySem.W.callWith_K (first := [.ref a]) (h₀ := X.base) I.ok.mod.kin hm.kp (thn (ha.run pos pins s1 σ H1 _ I1 q) fun us s2 ⟨vs, H2, I2, r, q2⟩ => ⟨I2.kIn, ?_⟩) hst hpl
  exact runR (us := .ref a :: us) (vs := .ref a :: vs) F hr hjk hx I2 (.cons rfl r) q2
theorem pe_mth0 {pl : Sem Bool} (he : PE X o ta) (c : Cls X.K C) (M : MethOk X.prog X.w X.K X.mg X.base CX j C m sp) (hr : Room k X.A) (hjk : j ≤ k) (hx : Passes CX X E)
    (ht : eval (.Call (.Attribute o m apos) [] [] pos) X.env = (do
      let ov ← eval o X.env
      standAt apos.atName
      let (f, first) ← holding [ov] (getMethod ov m pl)
      callWith pos f first (backTo pos (starEach [] X.env)) (backToKw pos (keywordEach [] X.env))) := by rfl) :
    PE X (.Call (.Attribute o m apos) [] [] pos) (tMth C m sp E ta tNil) := by
  obtain ⟨g, F, hm⟩ := M.ex
  refine ⟨fun pins s σ H Q I h => ?_⟩
  refine PySem.W.methodCall_KW (pl := pl) (thn (he.run pins s σ H _ I h) fun u s1 ⟨x, H1, I1, rx, a, dx, fs, ex, ea, l, q⟩ => ?_) ht
  subst ex
  obtain rfl : u = Value.ref a := rx
  refine getmeth_ok I1 ea c hm l ?_
  exact PySem.W.callWith_K0 (first := [.ref a]) I1.kIn hm.kp (runR (us := [.ref a]) (vs := [.ref a]) F hr hjk hx I1 (.cons rfl .nil) q)
/-- a classmethod, called on the class -/
structure CMethOk (P : Program) (w : World) (K : PySem.W.Frag) (mg : Str → Option Value) (base : Heap) (CX : CXT) (k : Nat) (C : Addr) (m : Str) (sp : Sp) : Prop where
  ex : ∃ (mc : Value) (p g : Addr), ClX.CRead K C mc ∧ ClX.CMet K C mc m p g ∧ FnR P w K mg base CX k g sp
theorem pe_cls {pl : Sem Bool} (he : PE X o ta) (M : CMethOk X.prog X.w X.K X.mg X.base CX j C m sp) (hr : Room k X.A) (hjk : j ≤ k) (hx : Passes CX X E) (ha : PA X (e :: es) t)
    (hst : starEach (e :: es) X.env = (false, eval e X.env) :: starEach es X.env := by rfl) (hpl : (backTo pos (starEach es X.env)).any (·.1) = false := by rfl)
    (ht : eval (.Call (.Attribute o m apos) (e :: es) [] pos) X.env = (do
      let ov ← eval o X.env
      standAt apos.atName
      let (f, first) ← holding [ov] (getMethod ov m pl)
      callWith pos f first (backTo pos (starEach (e :: es) X.env)) (backToKw pos (keywordEach [] X.env))) := by rfl) :
    PE X (.Call (.Attribute o m apos) (e :: es) [] pos) (ClX.tCMeth C sp E ta t) := by
  obtain ⟨mc, p, g, r, c, F⟩ := M.ex
  exact ClX.pe_cmeth he r c F (hr.mono hjk) hx ha hst hpl ht
end
/-- not e, by its truth as a test -/
def tNotP (t : TT) : TE := fun σ H Q => t σ H fun b H1 => Q (.bl (!b)) H1
/-! ### the places of a list, as op= reads them -/
theorem get_list {X : Cx} : PGet X (rIxL X.K) := by
  intro pins s σ H o i ov iv Q I ro ri h
  obtain ⟨p, xs, i, z, rfl, rfl, hq, he, q⟩ := h
  cases ro
  obtain ⟨t, rfl⟩ := ri
  obtain ⟨its, r, pl, hz⟩ := I.list hq
  obtain ⟨j, h1, h2, h3, h4, h5⟩ := atI_get he
  obtain ⟨w, ew, rw'⟩ := r.get h2
  have hl := r.length
  have hn := line63
  have fin : EP X pins σ Q w s := ⟨z, H, I, rw', q⟩
  by_cases h0 : 0 ≤ i
  · have hj : i.toNat = j := by
      rw [seqIndex_of h0 h5] at h1
      exact Option.some.inj h1
    exact wpAny_getItem_list pl.isList h0 (by omega) (by rw [hj]; simpa using ew) fin
  · have hj : (i + (its.toArray.size : Int)).toNat = j := by
      rw [seqIndex_neg (by omega) h4] at h1
      rw [List.size_toArray, ← hl]
      exact Option.some.inj h1
    exact wpAny_getItem_list_neg pl.isList (by omega) (by rw [List.size_toArray] <;> omega) (by omega) (by rw [hj]; simpa using ew) fin
/-! ### an own == -/
/-- x == y, x an instance of the class at C, whose __eq__ promises sp; y of any kind that is not ahead of C -/
def rEqO (K : PySem.W.Frag) (C : Addr) (sp : Sp) (E : XK) : R2 := fun x y H Q => ∃ a dx fs t, x = .ref a ∧ H a = some (.ins C dx fs) ∧ TyX K H y t ∧ PySem.W.notFirst K C t = true ∧ sp [x, y] H Q E
section
variable {X : Cx} {CX : CXT} {k j : Nat} {C : Addr} {sp : Sp} {E : XK}
theorem op_eqO (M : MethOk X.prog X.w X.K X.mg X.base CX j C "__eq__" sp) (hr : Room k X.A) (hjk : j ≤ k) (hx : Passes CX X E) : OpR X (compareOp .Eq) (rEqO X.K C sp E) := by
  obtain ⟨g, F, hm⟩ := M.ex
  intro pins s σ H x y v u Q I rx ry h
  obtain ⟨a, dx, fs, t, rfl, ha, ty, hn, q⟩ := h
  cases (show v = Value.ref a from rx)
  obtain ⟨mA, O, _⟩ := ins_get I.hok ha
  obtain ⟨od, J, _⟩ := O.look
  obtain ⟨P, Z, p, _⟩ := kit_of I ry ty
  obtain ⟨m, hF⟩ := I.fr
  show wpAny (model X.prog X.w) X.A (richCompare .Eq (.ref a) u) (EP X pins σ Q) X.xe s
  refine PySem.W.cmp_K (op := .Eq) (tb := t) hr.units0 hF I.ok.mod.kin J (Z.ty _ _ I.kIn p) hn hm.at_ hm.fn ?_
  refine wpAny_mono (runR (us := [.ref a, u]) (vs := [.ref a, y]) F hr hjk hx I (.cons rfl (.cons ry .nil)) q) (fun w s' z => ?_) fun _ _ x => x
  obtain ⟨z', H', I', rz, qz⟩ := z
  exact SlX.cmpback rz ⟨z', H', I', rz, qz⟩
end
/-! ### types stay -/
theorem TyOf.same {K : PySem.W.Frag} {H H' : Hp} (s : Same H H') {x : V} {t : Value} (h : TyOf K H x t) : TyOf K H' x t := by
  cases h with
  | non => exact .non
  | bl x => exact .bl x
  | int i => exact .int i
  | str x => exact .str x
  | flt x => exact .flt x
  | lst e => exact .lst (s _ _ e)
  | frz e => exact .frz (s _ _ e)
  | tup e => exact .tup (s _ _ e)
  | dK e => exact .dK (s _ _ e)
  | dT e => exact .dT (s _ _ e)
  | ins e cl ha hn htk hm => exact .ins (s _ _ e) cl ha hn htk hm
theorem TyX.same {K : PySem.W.Frag} {H H' : Hp} (s : Same H H') {x : V} {t : Value} (h : TyX K H x t) : TyX K H' x t := by
  cases h with
  | base h => exact .base (TyOf.same s h)
  | byt b => exact .byt b
  | set e => exact .set (s _ _ e)
  | kList e c => exact .kList e c
  | kTuple e c => exact .kTuple e c
  | kDict e c => exact .kDict e c
  | fTuple e => exact .fTuple (s _ _ e)
  | fDict e => exact .fDict (s _ _ e)
end Com
namespace Com
open PySem PySem.Spec PyProof.Rows L2
/-! ### tuples of ints, lists of pairs of ints: as data -/
def tI (ds : List Int) : PyData := .tuple (ds.map .int)
theorem eqvAll_ints : ∀ ds es : List Int, PyData.eqvAll (ds.map .int) (es.map .int) = decide (ds = es)
  | [], [] => rfl
  | [], e :: es => by simp [PyData.eqvAll]
  | d :: ds, [] => by simp [PyData.eqvAll]
  | d :: ds, e :: es => by
    rw [List.map_cons, List.map_cons, PyData.eqvAll, eqvAll_ints ds es, PyData.eqv]
    by_cases h : d = e
    · subst h
      by_cases h2 : ds = es
      · subst h2; simp
      · simp [h2]
    · simp [h]
theorem eqv_tI (ds es : List Int) : PyData.eqv (tI ds) (tI es) = decide (ds = es) := by
  show PyData.eqv (.tuple _) (.tuple _) = _
  rw [PyData.eqv]
  exact eqvAll_ints ds es
theorem lay_ints : ∀ ds : List Int, PyData.canLayAll0 (ds.map .int) = true
  | [] => rfl
  | d :: ds => by rw [List.map_cons, PyData.canLayAll0, PyData.canLay0, lay_ints ds]; rfl
theorem depth_ints : ∀ ds : List Int, PyData.depthAll (ds.map .int) = 0
  | [] => rfl
  | d :: ds => by rw [List.map_cons, PyData.depthAll, PyData.depth, depth_ints ds]; rfl
theorem shaped_tI (ds : List Int) : SeqAt.shaped (tI ds) = true := by
  show (PyData.canLay0 (.tuple _) && decide (PyData.depth (.tuple _) ≤ 64)) = true
  rw [PyData.canLay0, lay_ints, PyData.depth, depth_ints]
  rfl
theorem dpAll_ints {K : PySem.W.Frag} {H : Hp} : ∀ ds : List Int, DpAll K H (ds.map V.int) (ds.map .int)
  | [] => .nil
  | d :: ds => .cons (.int d) (dpAll_ints ds)
theorem dp_tI {K : PySem.W.Frag} {H : Hp} {a : Addr} {ds : List Int} (h : H a = some (.tup (ds.map V.int))) : Dp K H (.ref a) (tI ds) := .tup (SqT.of h) (dpAll_ints ds)
def pD (p : Int × Int) : PyData := tI [p.1, p.2]
def lP (ps : List (Int × Int)) : PyData := .list (ps.map pD)
theorem eqv_pD (p q : Int × Int) : PyData.eqv (pD p) (pD q) = decide (p = q) := by
  unfold pD
  rw [eqv_tI]
  obtain ⟨a, b⟩ := p
  obtain ⟨c, d⟩ := q
  simp
theorem eqvAll_pairs : ∀ ps qs : List (Int × Int), PyData.eqvAll (ps.map pD) (qs.map pD) = decide (ps = qs)
  | [], [] => rfl
  | [], e :: es => by simp [PyData.eqvAll]
  | d :: ds, [] => by simp [PyData.eqvAll]
  | d :: ds, e :: es => by
    rw [List.map_cons, List.map_cons, PyData.eqvAll, eqvAll_pairs ds es, eqv_pD]
    by_cases h : d = e
    · subst h
      by_cases h2 : ds = es
      · subst h2; simp
      · simp [h2]
    · simp [h]
theorem eqv_lP (ps qs : List (Int × Int)) : PyData.eqv (lP ps) (lP qs) = decide (ps = qs) := by
  show PyData.eqv (.list _) (.list _) = _
  rw [PyData.eqv]
  exact eqvAll_pairs ps qs
theorem lay_pairs : ∀ ps : List (Int × Int), PyData.canLayAll0 (ps.map pD) = true
  | [] => rfl
  | d :: ds => by
    rw [List.map_cons, PyData.canLayAll0, lay_pairs ds]
    show (PyData.canLay0 (.tuple _) && true) = true
    rw [PyData.canLay0, lay_ints]
    rfl
theorem depth_pairs : ∀ ps : List (Int × Int), PyData.depthAll (ps.map pD) ≤ 1
  | [] => by rw [List.map_nil, PyData.depthAll]; omega
  | d :: ds => by
    have := depth_pairs ds
    rw [List.map_cons, PyData.depthAll]
    have e : PyData.depth (pD d) = 1 := by
      show PyData.depth (.tuple _) = 1
      rw [PyData.depth, depth_ints]
    omega
theorem shaped_lP (ps : List (Int × Int)) : SeqAt.shaped (lP ps) = true := by
  have h := depth_pairs ps
  show (PyData.canLay0 (.list _) && decide (PyData.depth (.list _) ≤ 64)) = true
  rw [PyData.canLay0, lay_pairs, PyData.depth, Bool.true_and]
  exact decide_eq_true (by omega)
/-- at a list's places tuples of two ints: the pairs ps -/
def PairsV (H : Hp) : List V → List (Int × Int) → Prop := Paired fun v p => ∃ a, v = .ref a ∧ H a = some (.tup [.int p.1, .int p.2])
theorem PairsV.dp {K : PySem.W.Frag} {H : Hp} : ∀ {vs : List V} {ps : List (Int × Int)}, PairsV H vs ps → DpAll K H vs (ps.map pD)
  | _, _, .nil => .nil
  | _, _, .cons ⟨a, e, h⟩ t => by
    subst e
    exact .cons (dp_tI (ds := [_, _]) h) (PairsV.dp t)
theorem PairsV.same {H H' : Hp} (s : Same H H') : ∀ {vs : List V} {ps : List (Int × Int)}, PairsV H vs ps → PairsV H' vs ps
  | _, _, .nil => .nil
  | _, _, .cons ⟨a, e, h⟩ t => .cons ⟨a, e, s _ _ h⟩ (PairsV.same s t)
theorem PairsV.mono {H H' : Hp} (s : ∀ b xs, H b = some (.tup xs) → H' b = some (.tup xs)) : ∀ {vs : List V} {ps : List (Int × Int)}, PairsV H vs ps → PairsV H' vs ps
  | _, _, .nil => .nil
  | _, _, .cons ⟨a, e, h⟩ t => .cons ⟨a, e, s _ _ h⟩ (PairsV.mono s t)
theorem dp_lP {K : PySem.W.Frag} {H : Hp} {a : Addr} {vs : List V} {ps : List (Int × Int)} (h : H a = some (.lst vs)) (p : PairsV H vs ps) : Dp K H (.ref a) (lP ps) := .lst (SqL.of h) p.dp
/-! ### fields -/
theorem putF_nil {f : Str} {v : V} : putF f v [] = [(f, v)] := rfl
theorem putF_ne {f g : Str} {v w : V} {fs : List (Str × V)} (h : ¬ g = f) : putF f v ((g, w) :: fs) = (g, w) :: putF f v fs := by
  show (if g = f then _ else _) = _
  rw [if_neg h]
theorem putF_eq {f : Str} {v w : V} {fs : List (Str × V)} : putF f v ((f, w) :: fs) = (f, v) :: fs := by
  show (if f = f then _ else _) = _
  rw [if_pos rfl]
theorem lk_eq {f : Str} {v : V} {fs : List (Str × V)} : List.lookup f ((f, v) :: fs) = some v := by simp [List.lookup]
theorem lk_ne {f g : Str} {v : V} {fs : List (Str × V)} (h : (f == g) = false) : List.lookup f ((g, v) :: fs) = List.lookup f fs := by simp [List.lookup, h]
theorem ifB {b : Bool} {A B : Prop} (h1 : b = true → A) (h2 : b = false → B) : if b = true then A else B := by
  cases b with
  | true => exact iteT (h1 rfl)
  | false => exact iteF (h2 rfl)
theorem mulm {x m y : Int} (h0 : 0 < m) (h : m < 2 ^ 64) : CMul (x % m) y :=
  .inl ⟨by have := Int.emod_nonneg x (show m ≠ 0 by omega); omega, by have := Int.emod_lt_of_pos x h0; omega⟩
theorem len1 {n : Nat} (h : n ≤ 1000) : n ≤ sizeLine := Nat.le_of_lt (small1000 h)
theorem divW {n size : Int} (h1 : 1 ≤ size) (h2 : size < 2 ^ 200) : CDivW n size := wide_div (b := 200) (by omega) (by
  have : ((2 : Int) ^ 200) = (((2 : Nat) ^ 200 : Nat) : Int) := by decide
  omega) (by decide) (by decide)
/-- all that stood but what stood at a stands; nothing new but .. -/
def But (a : Addr) (H H' : Hp) : Prop := ∀ b, b ≠ a → H' b = H b
theorem But.upd {H : Hp} {p : Addr} {o : HO} : But p H (upd H p o) := fun b hb => upd_ne hb
theorem But.same {H H' : Hp} {p : Addr} (h : But p H H') (n : H p = none) : Same H H' := fun b o e => by rw [h b (ne_of_none e n)]; exact e
theorem Same.upd {H : Hp} {p : Addr} {o : HO} (n : H p = none) : Same H (upd H p o) := fun b u e => by rw [upd_ne (ne_of_none e n)]; exact e
/-- at a the three numbers of a flow of draws -/
def FlowAt (H : Hp) (a : Addr) : Prop := ∃ n c r : Int, H a = some (.lst [.int n, .int c, .int r])
theorem FlowAt.new {H : Hp} {p : Addr} {n c r : Int} : FlowAt (upd H p (.lst [.int n, .int c, .int r])) p := ⟨n, c, r, upd_same⟩
end Com
namespace Com
open PySem PySem.Spec PyProof.Rows L2
/-! ### walks of a comprehension, by an invariant of the heap -/
theorem lp_range {lo : Int} {n : Nat} {H0 : Hp} {Qd : Hp → Prop} {B : V → Hp → (Hp → Prop) → Prop} (Pv : Nat → Hp → Prop) (h0 : Pv 0 H0) (hs : ∀ i H, i < n → Pv i H → B (.int (lo + i)) H (Pv (i + 1))) (hd : ∀ H, Pv n H → Qd H) :
    ∃ W : Nat → Nat → Hp → Prop, (∃ m, W 0 m H0) ∧ ∀ i m H, W i m H → ((Itr lo n).stop i H ∧ Qd H) ∨ ((Itr lo n).go i H ∧ ∃ Nx : Hp → Prop, (∀ H', Nx H' → ∃ m', m' < m ∧ W (i + 1) m' H') ∧ ∀ x H', (Itr lo n).yld i H x H' → B x H' Nx) := by
  refine ⟨fun i m H => m = n - i ∧ i ≤ n ∧ Pv i H, ⟨n, by simp, Nat.zero_le _, h0⟩, ?_⟩
  rintro i m H ⟨rfl, hi, p⟩
  by_cases hlt : i < n
  · refine .inr ⟨hlt, Pv (i + 1), fun H' p' => ⟨n - (i + 1), by omega, rfl, hlt, p'⟩, fun x H' y => ?_⟩
    obtain ⟨e, y⟩ := y
    subst e y
    exact hs i _ hlt p
  · have e : i = n := by omega
    subst e
    exact .inl ⟨Nat.le_refl _, hd H p⟩
theorem lp_tup {K : PySem.W.Frag} {a : Addr} {xs : List V} {H0 : Hp} {Qd : Hp → Prop} {B : V → Hp → (Hp → Prop) → Prop} (Pv : Nat → Hp → Prop) (h0 : Pv 0 H0) (hl : ∀ i H, i ≤ xs.length → Pv i H → SqT K H a xs) (hs : ∀ i x H, xs[i]? = some x → Pv i H → B x H (Pv (i + 1))) (hd : ∀ H, Pv xs.length H → Qd H) :
    ∃ W : Nat → Nat → Hp → Prop, (∃ m, W 0 m H0) ∧ ∀ i m H, W i m H → ((Itt K a).stop i H ∧ Qd H) ∨ ((Itt K a).go i H ∧ ∃ Nx : Hp → Prop, (∀ H', Nx H' → ∃ m', m' < m ∧ W (i + 1) m' H') ∧ ∀ x H', (Itt K a).yld i H x H' → B x H' Nx) := by
  refine ⟨fun i m H => m = xs.length - i ∧ i ≤ xs.length ∧ Pv i H, ⟨xs.length, by simp, Nat.zero_le _, h0⟩, ?_⟩
  rintro i m H ⟨rfl, hi, p⟩
  have q := hl i H hi p
  by_cases hlt : i < xs.length
  · refine .inr ⟨⟨xs, xs[i], q, by simp [hlt]⟩, Pv (i + 1), fun H' p' => ⟨xs.length - (i + 1), by omega, rfl, hlt, p'⟩, fun x H' y => ?_⟩
    obtain ⟨e, y⟩ := y
    subst e
    exact hs i x _ (y xs q) p
  · have e : i = xs.length := by omega
    subst e
    exact .inl ⟨⟨xs, q, Nat.le_refl _⟩, hd H p⟩
theorem lp_list {K : PySem.W.Frag} {a : Addr} {xs : List V} {H0 : Hp} {Qd : Hp → Prop} {B : V → Hp → (Hp → Prop) → Prop} (Pv : Nat → Hp → Prop) (h0 : Pv 0 H0) (hl : ∀ i H, i ≤ xs.length → Pv i H → SqL K H a xs) (hs : ∀ i x H, xs[i]? = some x → Pv i H → B x H (Pv (i + 1))) (hd : ∀ H, Pv xs.length H → Qd H) :
    ∃ W : Nat → Nat → Hp → Prop, (∃ m, W 0 m H0) ∧ ∀ i m H, W i m H → ((Itl K a).stop i H ∧ Qd H) ∨ ((Itl K a).go i H ∧ ∃ Nx : Hp → Prop, (∀ H', Nx H' → ∃ m', m' < m ∧ W (i + 1) m' H') ∧ ∀ x H', (Itl K a).yld i H x H' → B x H' Nx) := by
  refine ⟨fun i m H => m = xs.length - i ∧ i ≤ xs.length ∧ Pv i H, ⟨xs.length, by simp, Nat.zero_le _, h0⟩, ?_⟩
  rintro i m H ⟨rfl, hi, p⟩
  have q := hl i H hi p
  by_cases hlt : i < xs.length
  · refine .inr ⟨⟨xs, xs[i], q, by simp [hlt]⟩, Pv (i + 1), fun H' p' => ⟨xs.length - (i + 1), by omega, rfl, hlt, p'⟩, fun x H' y => ?_⟩
    obtain ⟨e, y⟩ := y
    subst e
    exact hs i x _ (y xs q) p
  · have e : i = xs.length := by omega
    subst e
    exact .inl ⟨⟨xs, q, Nat.le_refl _⟩, hd H p⟩
/-! ### kinds -/
/-- isinstance(x, int) and not isinstance(x, bool): its answer -/
def PlainI (K : PySem.W.Frag) (H : Hp) (x : V) (b : Bool) : Prop := ∃ t b1, TyX K H x t ∧ PySem.W.kitOne K t (.type "int") = some b1 ∧ (b1 = false → b = false) ∧ (b1 = true → ∃ b2, PySem.W.kitOne K t (.type "bool") = some b2 ∧ b = !b2)
theorem PlainI.int {K : PySem.W.Frag} {H : Hp} (i : Int) : PlainI K H (.int i) true := ⟨.type "int", true, .base (.int i), kit_ty (by decide +kernel), (fun h => nomatch h), fun _ => ⟨false, kit_ty (by decide +kernel), rfl⟩⟩
theorem PlainI.same {K : PySem.W.Frag} {H H' : Hp} (s : Same H H') {x : V} {b : Bool} (h : PlainI K H x b) : PlainI K H' x b := let ⟨t, b1, ty, r⟩ := h; ⟨t, b1, TyX.same s ty, r⟩
/-- is x an integer from lo to hi: the answer -/
def InR (K : PySem.W.Frag) (H : Hp) (x : V) (lo hi : Int) (b : Bool) : Prop := (∃ i, x = .int i ∧ b = (decide (lo ≤ i) && decide (i ≤ hi))) ∨ (PlainI K H x false ∧ b = false)
theorem InR.same {K : PySem.W.Frag} {H H' : Hp} (s : Same H H') {x : V} {lo hi : Int} {b : Bool} (h : InR K H x lo hi b) : InR K H' x lo hi b := h.elim .inl fun ⟨p, e⟩ => .inr ⟨p.same s, e⟩
theorem InR.good {K : PySem.W.Frag} {H : Hp} {i lo hi : Int} (h1 : lo ≤ i) (h2 : i ≤ hi) : InR K H (.int i) lo hi true := .inl ⟨i, rfl, by rw [decide_eq_true h1, decide_eq_true h2]; rfl⟩
end Com
namespace Com
open PySem PySem.Spec PyProof.Rows L2
theorem pe_gint {X : Cx} {x : Str} {i : Int} {t : Tok} {pos : Pos} (hg : Gl X x) (hm : X.mg x = some (.int i t)) (hd : (x == ("__debug__" : Str)) = false := by decide) : PE X (.Name x pos) (tC (.int i)) := pe_glob (v := .int i) hg hm ⟨t, rfl⟩ hd
end Com
namespace Com
open PySem PySem.Spec PyProof.Rows L2
theorem pe_gcls {X : Cx} {x : Str} {C : Addr} {pos : Pos} (hg : Gl X x) (hm : X.mg x = some (.ref C)) (hd : (x == ("__debug__" : Str)) = false := by decide) : PE X (.Name x pos) (tC (.ref C)) := pe_glob (v := .ref C) hg hm rfl hd
end Com
namespace Com
open PySem PySem.Spec PyProof.Rows L2
/-- all pairs, ascending -/
def rowL (i m : Nat) : List (Int × Int) := (List.range m).map fun (j : Nat) => ((i : Int), (j : Int))
def pairsL (n m : Nat) : List (Int × Int) := (List.range n).flatMap fun i => rowL i m
theorem rowL_succ (i m : Nat) : rowL i (m + 1) = rowL i m ++ [((i : Int), (m : Int))] := by
  unfold rowL
  rw [List.range_succ, List.map_append]
  rfl
theorem pairsL_succ (n m : Nat) : pairsL (n + 1) m = pairsL n m ++ rowL n m := by
  unfold pairsL
  rw [List.range_succ, List.flatMap_append]
  simp
theorem rowL_len (i m : Nat) : (rowL i m).length = m := by simp [rowL]
theorem pairsL_len (n m : Nat) : (pairsL n m).length = n * m := by
  induction n with
  | zero => simp [pairsL]
  | succ n ih => rw [pairsL_succ, List.length_append, ih, rowL_len, Nat.succ_mul]
end Com
namespace Com
open PySem PySem.Spec PyProof.Rows L2
/-! ### the rules whose readings name the written part, with that part a letter of ours -/
def rLen (K : PySem.W.Frag) : List V → Hp → VK → Prop := fun xs H Q => ∃ p ys, xs = [.ref p] ∧ (SqL K H p ys ∨ SqT K H p ys) ∧ Q (.int (ys.length : Nat)) H
def rListOf (K : PySem.W.Frag) : List V → Hp → VK → Prop := fun xs H Q => ∃ p ys, xs = [.ref p] ∧ (SqL K H p ys ∨ SqT K H p ys) ∧ ∀ l, H l = none → Q (.ref l) (upd H l (.lst ys))
def rTupleOf (K : PySem.W.Frag) : List V → Hp → VK → Prop := fun xs H Q => ∃ p ys, xs = [.ref p] ∧ ((SqL K H p ys ∧ ∀ l, H l = none → Q (.ref l) (upd H l (.tup ys))) ∨ (SqT K H p ys ∧ Q (.ref p) H))
section
variable {X : Cx} {K : PySem.W.Frag} {e o value : Expr} {f : Str} {pos pos' : Pos} {ta tv tl : TE} {tg : Expr}
theorem pe_fldK (K : PySem.W.Frag) (he : PE X e ta) (hb : attributeBase e f X.env (eval e X.env) = eval e X.env := by rfl) (hK : X.K = K := by rfl) : PE X (.Attribute e f pos) (tFld K ta f) := by subst hK; exact pe_fld he hb
theorem ps_fldK (K : PySem.W.Frag) (ha : PE X o ta) (hv : PE X value tv) (hs : swapsWith value (some (.Attribute o f pos')) pos.line X.env = pure false := by rfl) (hK : X.K = K := by rfl) : PS X (.Assign [.Attribute o f pos'] value pos) (sFld K ta tv f) := by subst hK; exact ps_fld ha hv hs
theorem cl_len (K : PySem.W.Frag) (hK : X.K = K := by rfl) : CallR X (.builtin "len") (rLen K) := by subst hK; exact call_len_seq
theorem cl_isi (K : PySem.W.Frag) (hK : X.K = K := by rfl) : CallR X (.builtin "isinstance") (rIsi K) := by subst hK; exact call_isi
theorem cl_list (K : PySem.W.Frag) (hK : X.K = K := by rfl) : CallR X (.type "list") (rListOf K) := by subst hK; exact call_list_of
theorem cl_tuple (K : PySem.W.Frag) (hK : X.K = K := by rfl) : CallR X (.type "tuple") (rTupleOf K) := by subst hK; exact call_tuple_of
theorem cl_all (K : PySem.W.Frag) (hc : X.calm = true := by rfl) (hK : X.K = K := by rfl) : CallR X (.builtin "all") (rAll K) := by subst hK; exact cr_all hc
theorem cl_any (K : PySem.W.Frag) (hc : X.calm = true := by rfl) (hK : X.K = K := by rfl) : CallR X (.builtin "any") (rAny K) := by subst hK; exact cr_any hc
theorem cl_sum (K : PySem.W.Frag) (hc : X.calm = true := by rfl) (hK : X.K = K := by rfl) : CallR X (.builtin "sum") (rSum K) := by subst hK; exact cr_sum hc
theorem ixL (K : PySem.W.Frag) (hK : X.K = K := by rfl) : IxR X (rIxL K) := by subst hK; exact ix_list
theorem ixT (K : PySem.W.Frag) (hK : X.K = K := by rfl) : IxR X (rIxT K) := by subst hK; exact ix_tup
theorem getL (K : PySem.W.Frag) (hK : X.K = K := by rfl) : PGet X (rIxL K) := by subst hK; exact get_list
theorem eqD (K : PySem.W.Frag) (hu : X.A.units + 64 < cLine) (hK : X.K = K := by rfl) : OpR X (compareOp .Eq) (rEqD K) := by subst hK; exact op_eqD hu
theorem neD (K : PySem.W.Frag) (hu : X.A.units + 64 < cLine) (hK : X.K = K := by rfl) : OpR X (compareOp .NotEq) (rNeD K) := by subst hK; exact op_neD hu
theorem inS (K : PySem.W.Frag) (hK : X.K = K := by rfl) : OpR X (compareOp .In) (rIn K false) := by subst hK; exact op_in_seq
theorem notInS (K : PySem.W.Frag) (hK : X.K = K := by rfl) : OpR X (compareOp .NotIn) (rIn K true) := by subst hK; exact op_notIn_seq
theorem piL (K : PySem.W.Frag) {l : Expr} (hl : PE X l tl) (hK : X.K = K := by rfl) : PI X tg l (iList K tl) := by subst hK; exact pi_list hl
theorem piT (K : PySem.W.Frag) {l : Expr} (hl : PE X l tl) (hK : X.K = K := by rfl) : PI X tg l (iTup K tl) := by subst hK; exact pi_tup hl
theorem slA (K : PySem.W.Frag) (hK : X.K = K := by rfl) : SlR X (rSlA K) := by subst hK; exact sl_tupA
theorem slL (K : PySem.W.Frag) (hK : X.K = K := by rfl) : SlR X (rSlL K) := by subst hK; exact sl_list
theorem catA (K : PySem.W.Frag) (hK : X.K = K := by rfl) : OpR X (binaryOp .Add) (rCatA K) := by subst hK; exact op_catA
theorem repT (K : PySem.W.Frag) (hK : X.K = K := by rfl) : OpR X (binaryOp .Mult) (rRepT K) := by subst hK; exact op_repT
theorem eqO (K : PySem.W.Frag) {CX : CXT} {k j : Nat} {C : Addr} {sp : Sp} {E : XK} (M : MethOk X.prog X.w X.K X.mg X.base CX j C "__eq__" sp) (hr : Room k X.A) (hjk : j ≤ k) (hx : Passes CX X E) (hK : X.K = K := by rfl) : OpR X (compareOp .Eq) (rEqO K C sp E) := by subst hK; exact op_eqO M hr hjk hx
end
end Com
namespace Com
open PySem PySem.Spec PyProof.Rows L2
/-! ### tuple * int, any count from 1 on -/
theorem tuple_mul1 (l : Addr) (items : Array Value) (n : Nat) (dd : Option Addr) (sl : Array (Option Value)) (u : Tok) :
    Meets (Builtin.«tuple.__mul__» ⟨[.ref l, .int 1 u], []⟩) (fun _ R s => s.heap.get? l = some { cls := .type "tuple", dict := dd, data := .seq items n, slots := sl } ∧ R (.ok (.ret (.ref l))) s) :=
  .of_wp fun prog w A R s h => by
    obtain ⟨hp, g, d, tk, os⟩ := s
    obtain ⟨hl, h⟩ := h
    have f1 := AutoSeq1.idx_int
    have c1 : (items.isEmpty || (1 : Int) == 1) = true := by simp
    wp_walk using wpAny_loadPart' hl
    repeat (first
      | (refine wpAny_ite_true (decide_eq_true c1) ?_; wp_walk using wpAny_loadPart' hl)
      | (refine wpAny_ite_false (decide_eq_false (by decide)) ?_; wp_walk using wpAny_loadPart' hl))
    exact ⟨_, rfl, h⟩
def rRep1 (K : PySem.W.Frag) : R2 := fun x y H Q => ∃ l xs, x = .ref l ∧ y = .int 1 ∧ SqT K H l xs ∧ Q (.ref l) H
theorem op_rep1 {X : Cx} : OpR X (binaryOp .Mult) (rRep1 X.K) := by
  intro pins s σ H x y v u Q I rx ry h
  obtain ⟨l, xs, rfl, rfl, hT, q⟩ := h
  cases rx
  obtain ⟨t, rfl⟩ := ry
  obtain ⟨its, r, ⟨⟨cls, dd, data, sl⟩, ho, hc, n, hd⟩, hs⟩ := I.tuple hT
  simp only at hc hd
  subst hc hd
  refine wpAny_binaryOp_repeat_ref (T := "tuple") (U := "int") (by decide) ⟨_, ho, rfl⟩ (fun s' => typeIs_int s' 1 t) noFill_tuple_mul F.fills_int_mul F.slot_int_rmul repeat_tuple F.slot_int_index.lookup
    (call_meets F.slot_int_rmul (typeIs_int s 1 t) F.entry_int_rmul (F.args_int_rmul_2 _ _) (int_rmul_tuple 1 t l its.toArray n dd sl)
      ⟨ho, rfl, ⟨_, ho, rfl⟩, call_meets F.slot_tuple_mul ⟨_, ho, rfl⟩ F.entry_tuple_mul (F.args_tuple_mul_2 _ _) (tuple_mul1 l its.toArray n dd sl t) ⟨ho, ?_⟩⟩)
  exact ⟨.ref l, H, I, rfl, q⟩
/-- the repeated tuple stands at p -/
def rRepA (K : PySem.W.Frag) : R2 := fun x y H Q => ∃ l k xs, x = .ref l ∧ y = .int k ∧ H l = some (.tup xs) ∧ xs ≠ [] ∧ 1 ≤ k ∧ k ≤ 1000 ∧ xs.length ≤ 1000 ∧ ∀ p H', (H' p = some (.tup (List.replicate k.toNat xs).flatten)) → Same H H' → Q (.ref p) H'
theorem repA {X : Cx} (K : PySem.W.Frag) (hK : X.K = K := by rfl) : OpR X (binaryOp .Mult) (rRepA K) := by
  subst hK
  intro pins s σ H x y v u Q I rx ry h
  obtain ⟨l, k, xs, e1, e2, hT, hne, h1, h2, hz, q⟩ := h
  by_cases hk : k = 1
  · subst hk
    exact op_rep1 pins s σ H x y v u Q I rx ry ⟨l, xs, e1, e2, SqT.of hT, q l H (by rw [hT]; simp) (Same.refl H)⟩
  · exact op_repT pins s σ H x y v u Q I rx ry ⟨l, k, xs, e1, e2, SqT.of hT, hne, by omega, h2, hz, fun p hp => q p _ upd_same (Com.Same.upd hp)⟩
end Com
namespace Com
open PySem PySem.Spec PyProof.Rows L2
/-! ### tuples: slices, sums, whichever object comes -/
def rCutT : V → Option Int → Option Int → Hp → VK → Prop := fun x lo hi H Q => ∃ a xs, x = .ref a ∧ H a = some (.tup xs) ∧ ∀ p H', H' p = some (.tup (cutV xs lo hi)) → Same H H' → Q (.ref p) H'
theorem slT {X : Cx} : SlR X rCutT := by
  intro x v vl vu lo hi sl Q I rx hs pl pu h
  revert x v vl vu lo hi sl Q I rx hs pl pu h
  intro pins s σ H x v vl vu lo hi sl Q I rx hs pl pu h
  obtain ⟨a, xs, rfl, hx, q⟩ := h
  refine sl_tupA pins s σ H (.ref a) v vl vu lo hi sl Q I rx hs pl pu ⟨a, xs, rfl, SqT.of hx, fun w => q a H ?_ (Same.refl H), fun _ p hp => q p _ upd_same (Com.Same.upd hp)⟩
  have e : cutV xs lo hi = xs := by
    unfold cutV
    rw [w.1, w.2, List.drop_zero, Nat.sub_zero, List.take_length]
  rw [e]
  exact hx
def rCatB : R2 := fun x y H Q => ∃ a b xs ys, x = .ref a ∧ y = .ref b ∧ H a = some (.tup xs) ∧ H b = some (.tup ys) ∧ xs.length + ys.length ≤ 1000 ∧ ∀ p H', H' p = some (.tup (xs ++ ys)) → Same H H' → Q (.ref p) H'
theorem catB {X : Cx} : OpR X (binaryOp .Add) rCatB := by
  intro pins s σ H x y v u Q I rx ry h
  obtain ⟨a, b, xs, ys, e1, e2, ha, hb, hz, q⟩ := h
  refine op_catA pins s σ H x y v u Q I rx ry ⟨a, b, xs, ys, e1, e2, SqT.of ha, SqT.of hb, len1 hz, fun e => q b H ?_ (Same.refl H), fun _ e => q a H ?_ (Same.refl H), fun _ _ p hp => q p _ upd_same (Com.Same.upd hp)⟩
  · rw [e, List.nil_append]; exact hb
  · rw [e, List.append_nil]; exact ha
theorem cut_init (xs : List V) (v : V) : cutV (xs ++ [v]) none (some (-1)) = xs := by
  unfold cutV
  have e : HT.sIx (xs ++ [v]).length (xs ++ [v]).length (some (-1)) = xs.length := by
    show (if (-1 : Int) < 0 then (-1 + ((xs ++ [v]).length : Int)).toNat else min (-1 : Int).toNat (xs ++ [v]).length) = xs.length
    rw [if_pos (by decide), List.length_append, List.length_singleton]
    omega
  rw [e, HT.sIx_none (xs ++ [v]).length 0, List.drop_zero, Nat.sub_zero]
  simp
end Com
namespace Com
open PySem PySem.Spec PyProof.Rows L2
theorem kit_self {K : PySem.W.Frag} {t : Value} : PySem.W.kitOne K t t = some true := by
  unfold PySem.W.kitOne
  rw [if_pos (by simp)]
theorem kit_own {K : PySem.W.Frag} {t : Value} {C : Addr} {b : Bool} (ic : PySem.W.isClsIn K C = true) (ty : PySem.W.typeIn K (.ref C) = some (.type "type")) (s : PySem.W.subIn K t (.ref C) = some b) (ne : (t == Value.ref C) = false) : PySem.W.kitOne K t (.ref C) = some b := by
  unfold PySem.W.kitOne
  rw [ne, if_neg Bool.false_ne_true]
  show (if ((PySem.W.clsIn K C).isSome && PySem.W.typeIn K (.ref C) == some (.type "type")) = true then PySem.W.subIn K t (.ref C) else none) = some b
  have h1 : (PySem.W.clsIn K C).isSome = true := ic
  rw [h1, ty, if_pos (by rfl)]
  exact s
theorem kit_type {K : PySem.W.Frag} {t : Value} {n : String} {b : Bool} (hm : PySem.W.kitMeta n = true) (s : PySem.W.subIn K t (.type n) = some b) (ne : (t == Value.type n) = false) : PySem.W.kitOne K t (.type n) = some b := by
  unfold PySem.W.kitOne
  rw [ne, if_neg Bool.false_ne_true]
  show (if PySem.W.kitMeta n = true then PySem.W.subIn K t (.type n) else none) = some b
  rw [if_pos hm]
  exact s
end Com
set_option Elab.async false
set_option linter.all false
set_option maxRecDepth 100000
set_option maxHeartbeats 4000000
/-! The fraction in lowest terms, as numbers. -/
namespace Num
theorem mul4 (a b c d : Int) : (a * b) * (c * d) = (a * c) * (b * d) := by grind
def gc (t b : Int) : Int := ((Nat.gcd t.natAbs b.natAbs : Nat) : Int)
def cm (t b : Int) : Int := if b < 0 then -gc t b else gc t b
def nt (t b : Int) : Int := t.fdiv (cm t b)
def nb (t b : Int) : Int := b.fdiv (cm t b)
theorem gc_pos {t b : Int} (h : b ≠ 0) : 0 < gc t b := by
  have : 0 < Nat.gcd t.natAbs b.natAbs := Nat.gcd_pos_of_pos_right _ (by omega)
  unfold gc
  omega
theorem cm_ne {t b : Int} (h : b ≠ 0) : cm t b ≠ 0 := by
  have := gc_pos (t := t) h
  unfold cm
  split <;> omega
theorem gc_dvd_t (t b : Int) : gc t b ∣ t := by
  have := Nat.gcd_dvd_left t.natAbs b.natAbs
  exact Int.ofNat_dvd_left.mpr this
theorem gc_dvd_b (t b : Int) : gc t b ∣ b := by
  have := Nat.gcd_dvd_right t.natAbs b.natAbs
  exact Int.ofNat_dvd_left.mpr this
theorem cm_dvd_t (t b : Int) : cm t b ∣ t := by
  unfold cm
  split
  · exact Int.neg_dvd.mpr (gc_dvd_t t b)
  · exact gc_dvd_t t b
theorem cm_dvd_b (t b : Int) : cm t b ∣ b := by
  unfold cm
  split
  · exact Int.neg_dvd.mpr (gc_dvd_b t b)
  · exact gc_dvd_b t b
theorem nt_mul (t b : Int) : nt t b * cm t b = t := Int.fdiv_mul_cancel (cm_dvd_t t b)
theorem nb_mul (t b : Int) : nb t b * cm t b = b := Int.fdiv_mul_cancel (cm_dvd_b t b)
theorem nb_pos {t b : Int} (h : b ≠ 0) : 0 < nb t b := by
  have e := nb_mul t b
  have g := gc_pos (t := t) h
  by_cases hb : b < 0
  · have hc : cm t b < 0 := by
      unfold cm
      rw [if_pos hb]
      omega
    by_cases z : 0 < nb t b
    · exact z
    · have : 0 ≤ nb t b * cm t b := Int.mul_nonneg_of_nonpos_of_nonpos (by omega) (by omega)
      omega
  · have hc : 0 < cm t b := by
      unfold cm
      rw [if_neg hb]
      exact g
    by_cases z : 0 < nb t b
    · exact z
    · have : nb t b * cm t b ≤ 0 := Int.mul_nonpos_of_nonpos_of_nonneg (by omega) (by omega)
      omega
theorem cross (t b : Int) : nt t b * b = nb t b * t := by
  have e1 := nt_mul t b
  have e2 := nb_mul t b
  calc nt t b * b = nt t b * (nb t b * cm t b) := by rw [e2]
    _ = nb t b * (nt t b * cm t b) := by rw [Int.mul_left_comm]
    _ = nb t b * t := by rw [e1]
theorem cm_abs (t b : Int) : (cm t b).natAbs = Nat.gcd t.natAbs b.natAbs := by
  unfold cm gc
  split
  · rw [Int.natAbs_neg, Int.natAbs_natCast]
  · rw [Int.natAbs_natCast]
theorem coprime {t b : Int} (h : b ≠ 0) : Nat.gcd (nt t b).natAbs (nb t b).natAbs = 1 := by
  have e1 := congrArg Int.natAbs (nt_mul t b)
  have e2 := congrArg Int.natAbs (nb_mul t b)
  rw [Int.natAbs_mul, cm_abs] at e1 e2
  have hg : 0 < Nat.gcd t.natAbs b.natAbs := Nat.gcd_pos_of_pos_right _ (by omega)
  have : Nat.gcd ((nt t b).natAbs * Nat.gcd t.natAbs b.natAbs) ((nb t b).natAbs * Nat.gcd t.natAbs b.natAbs) = Nat.gcd t.natAbs b.natAbs := by rw [e1, e2]
  rw [Nat.gcd_mul_right] at this
  exact Nat.eq_of_mul_eq_mul_right hg (by rw [this, Nat.one_mul])
theorem same_nat {p q r s : Nat} (h1 : Nat.gcd p q = 1) (h2 : Nat.gcd r s = 1) (e : p * s = r * q) : q = s := by
  have d1 : q ∣ s := by
    have : q ∣ p * s := by rw [e]; exact Nat.dvd_mul_left q r
    exact Nat.Coprime.dvd_of_dvd_mul_left (show Nat.Coprime q p by rw [Nat.coprime_comm]; exact h1) this
  have d2 : s ∣ q := by
    have : s ∣ r * q := by rw [← e]; exact Nat.dvd_mul_left s p
    exact Nat.Coprime.dvd_of_dvd_mul_left (show Nat.Coprime s r by rw [Nat.coprime_comm]; exact h2) this
  exact Nat.dvd_antisymm d1 d2
theorem same_int {p q r s : Int} (h1 : Nat.gcd p.natAbs q.natAbs = 1) (h2 : Nat.gcd r.natAbs s.natAbs = 1) (hq : 0 < q) (hs : 0 < s) (e : p * s = r * q) : p = r ∧ q = s := by
  have e' := congrArg Int.natAbs e
  rw [Int.natAbs_mul, Int.natAbs_mul] at e'
  have z := same_nat h1 h2 e'
  have hqs : q = s := by omega
  subst hqs
  exact ⟨Int.eq_of_mul_eq_mul_right (by omega) e, rfl⟩
/-- the same fraction: the same numbers -/
theorem unique {t b t2 b2 : Int} (h : b ≠ 0) (h2 : b2 ≠ 0) (e : t * b2 = t2 * b) : nt t b = nt t2 b2 ∧ nb t b = nb t2 b2 := by
  refine same_int (coprime h) (coprime h2) (nb_pos h) (nb_pos h2) ?_
  have c1 := nt_mul t b
  have c2 := nb_mul t b
  have c3 := nt_mul t2 b2
  have c4 := nb_mul t2 b2
  have k : (nt t b * nb t2 b2) * (cm t b * cm t2 b2) = (nt t2 b2 * nb t b) * (cm t b * cm t2 b2) := by
    calc (nt t b * nb t2 b2) * (cm t b * cm t2 b2) = (nt t b * cm t b) * (nb t2 b2 * cm t2 b2) := mul4 ..
      _ = t * b2 := by rw [c1, c4]
      _ = t2 * b := e
      _ = (nt t2 b2 * cm t2 b2) * (nb t b * cm t b) := by rw [c3, c2]
      _ = (nt t2 b2 * nb t b) * (cm t2 b2 * cm t b) := mul4 ..
      _ = (nt t2 b2 * nb t b) * (cm t b * cm t2 b2) := by rw [Int.mul_comm (cm t2 b2)]
  exact Int.eq_of_mul_eq_mul_right (Int.mul_ne_zero (cm_ne h) (cm_ne h2)) k
/-- different fractions: different numbers -/
theorem differ {t b t2 b2 : Int} (h : b ≠ 0) (h2 : b2 ≠ 0) (e1 : nt t b = nt t2 b2) (e2 : nb t b = nb t2 b2) : t * b2 = t2 * b := by
  have c1 := nt_mul t b
  have c2 := nb_mul t b
  have c3 := nt_mul t2 b2
  have c4 := nb_mul t2 b2
  calc t * b2 = (nt t b * cm t b) * (nb t2 b2 * cm t2 b2) := by rw [c1, c4]
    _ = (nt t2 b2 * cm t b) * (nb t b * cm t2 b2) := by rw [e1, e2]
    _ = (nt t2 b2 * cm t2 b2) * (nb t b * cm t b) := by grind
    _ = t2 * b := by rw [c3, c2]
theorem nt_le (t b : Int) (h : b ≠ 0) : (nt t b).natAbs ≤ t.natAbs := by
  have e1 := congrArg Int.natAbs (nt_mul t b)
  rw [Int.natAbs_mul] at e1
  have : 0 < (cm t b).natAbs := by have := cm_ne (t := t) h; omega
  rw [← e1]
  exact Nat.le_mul_of_pos_right _ this
theorem nb_le (t b : Int) (h : b ≠ 0) : (nb t b).natAbs ≤ b.natAbs := by
  have e1 := congrArg Int.natAbs (nb_mul t b)
  rw [Int.natAbs_mul] at e1
  have : 0 < (cm t b).natAbs := by have := cm_ne (t := t) h; omega
  rw [← e1]
  exact Nat.le_mul_of_pos_right _ this
theorem cm_le (t b : Int) (h : b ≠ 0) : (cm t b).natAbs ≤ b.natAbs := by
  rw [cm_abs]
  exact Nat.gcd_le_right _ (by omega)
/-! ### operations on fractions in lowest terms -/
theorem pos_ne {b : Int} (h : 0 < b) : b ≠ 0 := by omega
theorem mul_pos_ne {b d : Int} (h : 0 < b) (h2 : 0 < d) : b * d ≠ 0 := pos_ne (Int.mul_pos h h2)
/-- from cross equations to the sum -/
theorem add_of {a b c d n1 d1 n2 d2 : Int} (hb : 0 < b) (hd : 0 < d) (h1 : 0 < d1) (h2 : 0 < d2) (e1 : n1 * b = d1 * a) (e2 : n2 * d = d2 * c) :
    nt (n1 * d2 + n2 * d1) (d1 * d2) = nt (a * d + c * b) (b * d) ∧ nb (n1 * d2 + n2 * d1) (d1 * d2) = nb (a * d + c * b) (b * d) := by
  refine unique (mul_pos_ne h1 h2) (mul_pos_ne hb hd) ?_
  have k1 : n1 * b * (d2 * d) = d1 * a * (d2 * d) := by rw [e1]
  have k2 : n2 * d * (d1 * b) = d2 * c * (d1 * b) := by rw [e2]
  grind
theorem mul_of {a b c d n1 d1 n2 d2 : Int} (hb : 0 < b) (hd : 0 < d) (h1 : 0 < d1) (h2 : 0 < d2) (e1 : n1 * b = d1 * a) (e2 : n2 * d = d2 * c) :
    nt (n1 * n2) (d1 * d2) = nt (a * c) (b * d) ∧ nb (n1 * n2) (d1 * d2) = nb (a * c) (b * d) := by
  refine unique (mul_pos_ne h1 h2) (mul_pos_ne hb hd) ?_
  have k1 : (n1 * b) * (n2 * d) = (d1 * a) * (d2 * c) := by rw [e1, e2]
  grind
theorem neg_of {a b n1 d1 : Int} (hb : 0 < b) (h1 : 0 < d1) (e1 : n1 * b = d1 * a) : nt (-n1) d1 = nt (-a) b ∧ nb (-n1) d1 = nb (-a) b := by
  refine unique (pos_ne h1) (pos_ne hb) ?_
  rw [Int.neg_mul, Int.neg_mul, e1, Int.mul_comm]
theorem abs_of {a b n1 d1 : Int} (hb : 0 < b) (h1 : 0 < d1) (e1 : n1 * b = d1 * a) :
    nt (if n1 < 0 then -n1 else n1) d1 = nt (if a < 0 then -a else a) b ∧ nb (if n1 < 0 then -n1 else n1) d1 = nb (if a < 0 then -a else a) b := by
  have iff : n1 < 0 ↔ a < 0 := by
    constructor
    · intro h
      by_cases z : a < 0
      · exact z
      · have p1 : n1 * b < 0 := Int.mul_neg_of_neg_of_pos h hb
        have p2 : 0 ≤ d1 * a := Int.mul_nonneg (by omega) (by omega)
        omega
    · intro h
      by_cases z : n1 < 0
      · exact z
      · have p1 : d1 * a < 0 := Int.mul_neg_of_pos_of_neg h1 h
        have p2 : 0 ≤ n1 * b := Int.mul_nonneg (by omega) (by omega)
        omega
  by_cases h : n1 < 0
  · rw [if_pos h, if_pos (iff.mp h)]
    exact neg_of hb h1 e1
  · rw [if_neg h, if_neg (fun z => h (iff.mpr z))]
    refine unique (pos_ne h1) (pos_ne hb) ?_
    rw [e1, Int.mul_comm]
theorem lt_of {a b c d n1 d1 n2 d2 : Int} (hb : 0 < b) (hd : 0 < d) (h1 : 0 < d1) (h2 : 0 < d2) (e1 : n1 * b = d1 * a) (e2 : n2 * d = d2 * c) : n1 * d2 < n2 * d1 ↔ a * d < c * b := by
  have hbd : 0 < b * d := Int.mul_pos hb hd
  have h12 : 0 < d1 * d2 := Int.mul_pos h1 h2
  have k1 : n1 * d2 * (b * d) = a * d * (d1 * d2) := by
    have : n1 * b * (d2 * d) = d1 * a * (d2 * d) := by rw [e1]
    grind
  have k2 : n2 * d1 * (b * d) = c * b * (d1 * d2) := by
    have : n2 * d * (d1 * b) = d2 * c * (d1 * b) := by rw [e2]
    grind
  rw [← Int.mul_lt_mul_right hbd, k1, k2, Int.mul_lt_mul_right h12]
end Num
set_option Elab.async false
set_option linter.all false
set_option maxRecDepth 100000
set_option maxHeartbeats 4000000
namespace Com
open PySem PySem.Spec PyProof.Rows L2 PySem.W
/-! ### int op instance: the int declines -/
theorem int_add_ins (a : Int) (t : Tok) (x dx C : Addr) :
    Meets (Builtin.«int.__add__» ⟨[.int a t, .ref x], []⟩) (fun _ R s => s.heap.get? x = some (instObj C dx) ∧ R (.ok (.ret Value.notImplemented)) s) :=
  .of_wp fun prog w A R s h => by
    obtain ⟨hp, g, d, tk, os⟩ := s; obtain ⟨hl, h⟩ := h
    unfold instObj at hl
    wp_walk using wpAny_loadPart' hl
    exact ⟨_, rfl, h⟩
theorem int_mul_ins (a : Int) (t : Tok) (x dx C : Addr) :
    Meets (Builtin.«int.__mul__» ⟨[.int a t, .ref x], []⟩) (fun _ R s => s.heap.get? x = some (instObj C dx) ∧ R (.ok (.ret Value.notImplemented)) s) :=
  .of_wp fun prog w A R s h => by
    obtain ⟨hp, g, d, tk, os⟩ := s; obtain ⟨hl, h⟩ := h
    unfold instObj at hl
    wp_walk using wpAny_loadPart' hl
    exact ⟨_, rfl, h⟩
end Com
namespace Com
open PySem PySem.Spec PyProof.Rows L2 PySem.W
section
variable {prog : Program} {w : World} {A : Around} {E : Value → Shared → Prop} {s : Shared} {K : Frag} {x C L f f1 : Addr} {h₀ : Heap} {m : Str → Option Value} {ox : Obj} {od : Option Obj}
theorem rbin_int {op : Operator} {i : Int} {t : Tok} {idl : String} {Q : Value → Shared → Prop} (F : Fr h₀ L s.heap m) (X₀ : K.In h₀) (I : InstAt s.heap x ox C od) (hc : selfFirst K C = true)
    (hd : findIn K (.ref C) (PySem.dunder op.info.2) = some (some (.ref f1))) (hs : findIn K (.ref C) (dunderR op.info.2) = some (some (.ref f))) (hf : isFn K (.ref f) = true)
    (hfI : fillsNumberSlot (.type "int") op.info.2 = pure true) (hsub : subIn K (.ref C) (.type "int") = some false) (hl : Slot "int" (PySem.dunder op.info.2) idl)
    (hdec : wpAny (model prog w) A (call (.builtin idl) [.int i t, .ref x]) (fun v s' => v = .notImplemented ∧ s' = s) E s)
    (h : wpAny (model prog w) A (call (.ref f) [.ref x, .int i t]) (PySem.W.CmpBack Q) E s) : wpAny (model prog w) A (binaryOp op (.int i t) (.ref x)) Q E s := by
  have X := X₀.keeps F.keep
  obtain ⟨cd, rest, hcd, hm⟩ := ksp_first hc
  rcases hi : op.info with ⟨sym, nm'⟩
  rw [hi] at hd hs hfI hl
  dsimp only at hd hs hfI hl
  have two := ksp_try X I hs hf h
  have one : wpAny (model prog w) A (tryMethod (.int i t) (PySem.dunder nm') (.ref x)) (fun r s' => r = none ∧ s' = s) E s := wpAny_tryMethod_declines (typeIs_int s i t) hl (wpAny_mono hdec (fun v s' z => ⟨z.1, rfl, z.2⟩) fun _ _ z => z)
  obtain ⟨hh, g, d, tt, os⟩ := s
  have L1 : Looks (model prog w) hh (typeOf (.ref x)) (.ref C) := I.type
  have L2 : Looks (model prog w) hh (typeOf (.int i t)) (.type "int") := Looks.of_pure rfl
  have L3 : Looks (model prog w) hh (fillsNumberSlot (.ref C) nm') true := fills_K X hcd hm hd
  have L4 : Looks (model prog w) hh (fillsNumberSlot (.type "int") nm') true := Looks.of_pure hfI
  have L5 : Looks (model prog w) hh (isSubtype (.ref C) (.type "int")) false := looks_subIn X hsub
  have L7 : Looks (model prog w) hh (numberSlotInPython (.type "int") nm') false := Looks.of_pure rfl
  have hne : (Value.type "int" == Value.ref C) = false := Bool.eq_false_iff.mpr fun q => by cases beq_iff_eq.mp q
  simp only [binaryOp, hi]
  refine wpAny_holding (wpAny_bind ?_)
  unfold binaryOp1
  refine wpAny_bind (L2.at (wpAny_bind (L1.at (wpAny_bind (L4.at ?_)))))
  simp only [hne, Bool.false_eq_true, if_false]
  ksp_lk
  refine wpAny_mono one (fun r s' hr' => ?_) fun _ _ e => e
  obtain ⟨rfl, rfl⟩ := hr'
  ksp_lk
  refine wpAny_mono two (fun r s' hr' => ?_) fun _ _ e => e
  obtain ⟨v, rfl, hq⟩ := hr'
  ksp_lk
  exact hq
end
end Com
namespace Com
open PySem PySem.Spec PyProof.Rows L2
/-! ### the rules over the layer -/
/-- what of the text an own binary operator must have: its def at f (f', the reflected one), the int's own slots -/
structure OpFacts (K : PySem.W.Frag) (C : Addr) (nm : String) : Prop where
  sf : PySem.W.selfFirst K C = true
  rc : ∃ g : Addr, PySem.W.findIn K (.ref C) (dunderR nm) = some (some (.ref g)) ∨ PySem.W.findIn K (.ref C) (dunderR nm) = some none
  i1 : ∃ fo, PySem.W.findIn K (.type "int") (PySem.dunder nm) = some fo
  i2 : ∃ ro, PySem.W.findIn K (.type "int") (dunderR nm) = some ro
  sub : PySem.W.subIn K (.type "int") (.ref C) = some false
/-- x op y, x an instance of the class at C; y an int, or another instance -/
def rBinO (C : Addr) (sp : Sp) (E : XK) : R2 := fun x y H Q => ∃ a dx fs, x = .ref a ∧ H a = some (.ins C dx fs) ∧ ((∃ i, y = .int i) ∨ (∃ b dy gs, y = .ref b ∧ H b = some (.ins C dy gs))) ∧ sp [x, y] H Q E
section
variable {X : Cx} {CX : CXT} {k j : Nat} {C : Addr} {sp : Sp} {E : XK} {nm : String} {m : Str}
theorem binO {op : Operator} (T : OpFacts X.K C nm) (M : MethOk X.prog X.w X.K X.mg X.base CX j C m sp) (hr : Room k X.A) (hjk : j ≤ k) (hx : Passes CX X E) (e1 : op.info.2 = nm := by rfl) (e2 : m = PySem.dunder nm := by rfl) : OpR X (binaryOp op) (rBinO C sp E) := by
  obtain ⟨g, F, hm⟩ := M.ex
  intro pins s σ H x y v u Q I rx ry h
  obtain ⟨a, dx, fs, rfl, ha, hy, q⟩ := h
  cases (show v = Value.ref a from rx)
  obtain ⟨mA, O, _⟩ := ins_get I.hok ha
  obtain ⟨od, J, _⟩ := O.look
  obtain ⟨mm, hF⟩ := I.fr
  subst e1
  subst e2
  have run : wpAny (model X.prog X.w) X.A (call (.ref g) [.ref a, u]) (PySem.W.CmpBack (EP X pins σ Q)) X.xe s := by
    refine wpAny_mono (runR (us := [.ref a, u]) (vs := [.ref a, y]) F hr hjk hx I (.cons rfl (.cons ry .nil)) q) (fun w s' z => ?_) fun _ _ x => x
    obtain ⟨z', H', I', rz, qz⟩ := z
    exact SlX.cmpback rz ⟨z', H', I', rz, qz⟩
  rcases hy with ⟨i, rfl⟩ | ⟨b, dy, gs, rfl, hb⟩
  · obtain ⟨t, rfl⟩ := (show ∃ t, u = Value.int i t from ry)
    obtain ⟨fo, h1⟩ := T.i1
    obtain ⟨ro, h2⟩ := T.i2
    obtain ⟨rr, hrr⟩ := T.rc
    rcases hrr with hrr | hrr
    · exact PySem.W.ksp_binT (T := "int") hF I.ok.mod.kin J rfl T.sf hm.at_ hm.fn hrr (.inr ⟨rr, rfl⟩) h1 h2 T.sub run
    · exact PySem.W.ksp_binT (T := "int") hF I.ok.mod.kin J rfl T.sf hm.at_ hm.fn hrr (.inl rfl) h1 h2 T.sub run
  · cases (show u = Value.ref b from ry)
    obtain ⟨mB, O', _⟩ := ins_get I.hok hb
    obtain ⟨od', J', _⟩ := O'.look
    exact PySem.W.binop_K hF I.ok.mod.kin J J'.type T.sf hm.at_ hm.fn run
/-- i op y, i an int -/
def rBinI (C : Addr) (sp : Sp) (E : XK) : R2 := fun x y H Q => ∃ i a dx fs, x = .int i ∧ y = .ref a ∧ H a = some (.ins C dx fs) ∧ sp [y, x] H Q E
theorem binI {op : Operator} {idl : String} {Bi : Builtin} {m' : Str} {f1 : Addr} (sf : PySem.W.selfFirst X.K C = true) (hd : PySem.W.findIn X.K (.ref C) (PySem.dunder op.info.2) = some (some (.ref f1))) (hsub : PySem.W.subIn X.K (.ref C) (.type "int") = some false)
    (M : MethOk X.prog X.w X.K X.mg X.base CX j C m' sp) (hr : Room k X.A) (hjk : j ≤ k) (hx : Passes CX X E) (hfI : fillsNumberSlot (.type "int") op.info.2 = pure true) (hl : Slot "int" (PySem.dunder op.info.2) idl)
    (he : entryFor table idl = some Bi) (ha : ∀ a b : Value, argsOk idl ⟨[a, b], []⟩)
    (hmt : ∀ (i : Int) (t : Tok) (x dx C : Addr), Meets (Bi ⟨[.int i t, .ref x], []⟩) (fun _ R s => s.heap.get? x = some (PySem.W.instObj C dx) ∧ R (.ok (.ret Value.notImplemented)) s)) (e2 : m' = dunderR op.info.2 := by rfl) : OpR X (binaryOp op) (rBinI C sp E) := by
  obtain ⟨g, F, hm⟩ := M.ex
  intro pins s σ H x y v u Q I rx ry h
  obtain ⟨i, a, dx, fs, rfl, rfl, ha', q⟩ := h
  cases (show u = Value.ref a from ry)
  obtain ⟨t, rfl⟩ := (show ∃ t, v = Value.int i t from rx)
  obtain ⟨mA, O, _⟩ := ins_get I.hok ha'
  have hobj := O.obj
  obtain ⟨od, J, _⟩ := O.look
  obtain ⟨mm, hF⟩ := I.fr
  subst e2
  refine rbin_int hF I.ok.mod.kin J sf hd hm.at_ hm.fn hfI hsub hl (call_meets hl (typeIs_int s i t) he (ha _ _) (hmt i t a dx C) ⟨hobj, rfl, rfl⟩) ?_
  refine wpAny_mono (runR (us := [.ref a, .int i t]) (vs := [.ref a, .int i]) F hr hjk hx I (.cons rfl (.cons rx .nil)) q) (fun w s' z => ?_) fun _ _ x => x
  obtain ⟨z', H', I', rz, qz⟩ := z
  exact SlX.cmpback rz ⟨z', H', I', rz, qz⟩
/-- op x, abs(x) -/
def rUnO (C : Addr) (sp : Sp) (E : XK) : V → Hp → VK → Prop := fun x H Q => ∃ a dx fs, x = .ref a ∧ H a = some (.ins C dx fs) ∧ sp [x] H Q E
theorem negO (M : MethOk X.prog X.w X.K X.mg X.base CX j C "__neg__" sp) (hr : Room k X.A) (hjk : j ≤ k) (hx : Passes CX X E) : UnR X (unaryOp .USub) (rUnO C sp E) := by
  obtain ⟨g, F, hm⟩ := M.ex
  intro pins s σ H x v Q I rx h
  obtain ⟨a, dx, fs, rfl, ha, q⟩ := h
  cases (show v = Value.ref a from rx)
  obtain ⟨mA, O, _⟩ := ins_get I.hok ha
  obtain ⟨od, J, _⟩ := O.look
  obtain ⟨mm, hF⟩ := I.fr
  exact PySem.W.ksp_neg hF I.ok.mod.kin J hm.at_ hm.fn (runR (us := [.ref a]) (vs := [.ref a]) F hr hjk hx I (.cons rfl .nil) q)
def rAbsO (C : Addr) (sp : Sp) (E : XK) : List V → Hp → VK → Prop := fun xs H Q => ∃ a dx fs, xs = [.ref a] ∧ H a = some (.ins C dx fs) ∧ sp [.ref a] H Q E
theorem run_at {A : Around} {n : Nat} {f : Addr} {pins : List (Addr × Obj)} {σ : L2.St} {H : Hp} {s : Shared} {Q : VK} {us : List Value} {ws : List V} (F : FnR X.prog X.w X.K X.mg X.base CX n f sp) (hr : Room n A) (e0 : Env0 X.prog X.w X.K X.mg X.base A X.stack s H) (hx : Passes CX X E) (I : Inv X pins σ H s) (r : Vals ws us) (h : sp ws H Q E) :
    codeAny (model X.prog X.w) A (.call (.ref f) ⟨us, []⟩) (fun r s' => match r with | .ok (.ret v) => EP X pins σ Q v s' | .ok _ => False | .error e => X.xe e s') s := SlX.run_at F hr e0 hx I r h
theorem cl_abs (M : MethOk X.prog X.w X.K X.mg X.base CX j C "__abs__" sp) (hr : Room k X.A) (hjk : j + 1 ≤ k) (hx : Passes CX X E) : CallR X (.builtin "abs") (rAbsO C sp E) := by
  obtain ⟨g, F, hm⟩ := M.ex
  intro pins s σ H xs us Q I r h
  obtain ⟨a, dx, fs, rfl, ha, q⟩ := h
  have e := Vals.ref1 r
  subst e
  obtain ⟨mA, O, _⟩ := ins_get I.hok ha
  obtain ⟨od, J, _⟩ := O.look
  have hr1 : Room j X.A.in1 := (hr.mono hjk).in1
  refine Calls.call_function_entry kind_abs plain_abs entry_abs (args_abs _) ?_
  unfold Builtin.«abs»
  refine wpAny_bind (m := oneArg "abs" _) (wpAny_pure ?_)
  refine wpAny_bind (m := callSpecial? (.ref a) (Str.ofString "__abs__")) (PySem.W.special_fn I.kIn J hm.at_ (beq_iff_eq.mp hm.fn) ?_)
  refine wpAny_mono (wpAny_call (run_at (us := [.ref a]) (ws := [.ref a]) F hr1 I.env0.in1 hx I (.cons rfl .nil) q)) (fun w s' z => ?_) fun _ _ x => x
  exact wpAny_pure ⟨_, rfl, z⟩
end
end Com
namespace Com
open PySem PySem.Spec PyProof.Rows L2
theorem UnR.or {X : Cx} {f : Value → Sem Value} {r r' : V → Hp → VK → Prop} (h : UnR X f r) (h' : UnR X f r') : UnR X f (fun x H Q => r x H Q ∨ r' x H Q) := by
  intro pins s σ H x v Q I rx q
  rcases q with q | q
  · exact h pins s σ H x v Q I rx q
  · exact h' pins s σ H x v Q I rx q
/-- // by any divisor but 0 below 2 ^ 9000 -/
def CDivX (_ j : Int) : Prop := j ≠ 0 ∧ j.natAbs < 2 ^ 9000
theorem fdivX {X : Cx} : OpR X (binaryOp .FloorDiv) (rI CDivX fun i j => .int (i.fdiv j)) := opI fun i j _ _ _ _ _ hc q =>
  floordiv_int hc.1 q (.inl (PyProof.noPylong_of_log2 (PySem.Flt.log2_lt_of (by decide) hc.2)))
theorem pgT {X : Cx} (K : PySem.W.Frag) {es : List Expr} {k : Nat} {t : TGs} {n : Nat} {pos : Pos} (h : PGs X es t) (hc : X.calm = true := by rfl)
    (hn : (assignEach es X.env).length = n := by rfl) (hst : (assignEach es X.env).findIdx? (·.1) = none := by rfl) (hK : X.K = K := by rfl) : PG X (.Tuple es k pos) (gTup K n t) := by subst hK; exact pg_tup hc h hn hst
theorem pe_gbfn {X : Cx} {x : Str} {p pos : Pos} {e : Expr} {es : List Expr} {t : TA} {id : String} {r : List V → Hp → VK → Prop} (hc : CallR X (.builtin id) r) (hm : X.mg x = some (.builtin id)) (ha : PA X (e :: es) t) (hg : Gl X x := by rfl) (hdb : (x == ("__debug__" : Str)) = false := by decide)
    (he : starEach (e :: es) X.env = (false, eval e X.env) :: starEach es X.env := by rfl) (hpl : (backTo pos (starEach es X.env)).any (·.1) = false := by rfl) : PE X (.Call (.Name x p) (e :: es) [] pos) (tCB r t) := pe_callBfun hc hg hm ha hdb he hpl
theorem small_n {x : Int} {n : Nat} (h : x.natAbs ≤ n) {b : Nat} (hb : n < 2 ^ b) : x.natAbs < 2 ^ b := Nat.lt_of_le_of_lt h hb
end Com
namespace Com
open PySem PySem.Spec PyProof.Rows L2
/-! ### sizes -/
def B (x : Int) (n : Nat) : Prop := x.natAbs < 2 ^ n
theorem B.mono {x : Int} {m n : Nat} (h : B x m) (hm : m ≤ n) : B x n := Nat.lt_of_lt_of_le h (Nat.pow_le_pow_right (by decide) hm)
theorem B.mul {x y : Int} {m n : Nat} (hx : B x m) (hy : B y n) : B (x * y) (m + n) := wide_lt hx hy
theorem B.add {x y : Int} {n : Nat} (hx : B x n) (hy : B y n) : B (x + y) (n + 1) := by
  unfold B at *
  have : (x + y).natAbs ≤ x.natAbs + y.natAbs := Int.natAbs_add_le x y
  rw [Nat.pow_succ]
  omega
theorem B.neg {x : Int} {n : Nat} (h : B x n) : B (-x) n := by
  unfold B at *
  rwa [Int.natAbs_neg]
theorem B.sub {x y : Int} {n : Nat} (hx : B x n) (hy : B y n) : B (x - y) (n + 1) := by
  have := hx.add hy.neg
  rwa [← Int.sub_eq_add_neg] at this
theorem B.abs {x : Int} {n : Nat} (h : B x n) : B (if x < 0 then -x else x) n := by
  split
  · exact h.neg
  · exact h
theorem B.le {x : Int} {y : Int} {n : Nat} (h : B y n) (hl : x.natAbs ≤ y.natAbs) : B x n := Nat.lt_of_le_of_lt hl h
theorem B.of {x : Int} {n : Nat} {k : Nat} (h : x.natAbs ≤ k) (hk : k < 2 ^ n) : B x n := Nat.lt_of_le_of_lt h hk
theorem mulB {x y : Int} {m n : Nat} (hx : B x m) (hy : B y n) (h0 : 0 < m := by decide) (h1 : 0 < n := by decide) (h : m + n ≤ 1000000 := by decide) : CMulW x y := wide_mul hx hy h0 h1 h
end Com
set_option linter.all false
/-! Standings as lists: order of pairs, loads, doors less calls. -/
namespace Sd
abbrev PP := Int × Int
def leP (p q : PP) : Bool := decide (p.1 < q.1) || (decide (p.1 = q.1) && decide (p.2 ≤ q.2))
theorem leP_iff {p q : PP} : leP p q = true ↔ p.1 < q.1 ∨ (p.1 = q.1 ∧ p.2 ≤ q.2) := by simp [leP]
theorem leP_trans (a b c : PP) (h : leP a b = true) (g : leP b c = true) : leP a c = true := by
  rw [leP_iff] at *
  omega
theorem leP_total (a b : PP) : (leP a b || leP b a) = true := by
  rw [Bool.or_eq_true, leP_iff, leP_iff]
  omega
theorem leP_anti {a b : PP} (h : leP a b = true) (g : leP b a = true) : a = b := by
  rw [leP_iff] at *
  exact Prod.ext (by omega) (by omega)
def srt (ps : List PP) : List PP := ps.mergeSort leP
theorem srt_perm (ps : List PP) : (srt ps).Perm ps := List.mergeSort_perm ps leP
theorem srt_le (ps : List PP) : (srt ps).Pairwise (fun a b => leP a b = true) := List.pairwise_mergeSort leP_trans leP_total ps
theorem srt_uniq {ps qs : List PP} (h : qs.Perm ps) (g : qs.Pairwise (fun a b => leP a b = true)) : qs = srt ps :=
  List.Perm.eq_of_pairwise (fun a b _ _ x y => leP_anti x y) g (srt_le ps) (h.trans (srt_perm ps).symm)
theorem srt_perm_eq {ps qs : List PP} (h : qs.Perm ps) : srt qs = srt ps := srt_uniq ((srt_perm qs).trans h) (srt_le qs)
theorem srt_len (ps : List PP) : (srt ps).length = ps.length := (srt_perm ps).length_eq
theorem srt_srt (ps : List PP) : srt (srt ps) = srt ps := srt_perm_eq (srt_perm ps)
/-- the pair's switches are free -/
def freeB (L : List PP) (p : PP) : Bool := L.all fun c => !decide (c.1 = p.1) && !decide (c.2 = p.2)
theorem freeB_iff {L : List PP} {p : PP} : freeB L p = true ↔ ∀ c ∈ L, c.1 ≠ p.1 ∧ c.2 ≠ p.2 := by
  simp [freeB, List.all_eq_true]
def InP (n m : Nat) (p : PP) : Prop := 0 ≤ p.1 ∧ p.1 < n ∧ 0 ≤ p.2 ∧ p.2 < m
instance {n m : Nat} {p : PP} : Decidable (InP n m p) := inferInstanceAs (Decidable (_ ∧ _ ∧ _ ∧ _))
structure LoadOk (n m : Nat) (L : List PP) : Prop where
  rng : ∀ p ∈ L, InP n m p
  asc : (L.map (·.1)).Pairwise (· < ·)
  nd : (L.map (·.2)).Nodup
theorem LoadOk.nil {n m : Nat} : LoadOk n m [] := ⟨(fun _ h => nomatch h), List.Pairwise.nil, List.nodup_nil⟩
theorem asc_nodup {L : List Int} (h : L.Pairwise (· < ·)) : L.Nodup := h.imp fun {a b} x => by omega
theorem asc_len : ∀ {L : List Int} {n : Nat} {k : Int}, 0 ≤ k → L.Pairwise (· < ·) → (∀ i ∈ L, k ≤ i ∧ i < n) → (L.length : Int) ≤ n - k ∨ L = []
  | [], _, _, _, _, _ => .inr rfl
  | i :: L, n, k, hk, h, g => by
    have gi := g i (List.mem_cons_self ..)
    rw [List.pairwise_cons] at h
    have := asc_len (L := L) (n := n) (k := i + 1) (by omega) h.2 fun j hj => ⟨by have := h.1 j hj; omega, (g j (List.mem_cons_of_mem _ hj)).2⟩
    left
    rcases this with e | e
    · rw [List.length_cons]; omega
    · rw [e]; simp; omega
theorem LoadOk.len {n m : Nat} {L : List PP} (h : LoadOk n m L) : L.length ≤ n := by
  have := asc_len (L := L.map (·.1)) (n := n) (k := 0) (by omega) h.asc fun i hi => by
    obtain ⟨p, hp, e⟩ := List.mem_map.mp hi
    have := h.rng p hp
    unfold InP at this
    omega
  rw [List.length_map] at this
  rcases this with e | e
  · omega
  · have : L = [] := List.map_eq_nil_iff.mp e
    rw [this]; simp
theorem LoadOk.srt_add {n m : Nat} {L : List PP} {p : PP} (h : LoadOk n m L) (hp : InP n m p) (hf : freeB L p = true) : LoadOk n m (srt (L ++ [p])) := by
  have pm : (srt (L ++ [p])).Perm (L ++ [p]) := srt_perm _
  rw [freeB_iff] at hf
  have nd1 : ((L ++ [p]).map (·.1)).Nodup := by
    rw [List.map_append, List.map_singleton, List.nodup_append]
    refine ⟨asc_nodup h.asc, by simp, fun a ha b hb => ?_⟩
    obtain ⟨c, hc, e⟩ := List.mem_map.mp ha
    have := hf c hc
    rw [List.mem_singleton.mp hb, ← e]
    exact this.1
  have nd2 : ((L ++ [p]).map (·.2)).Nodup := by
    rw [List.map_append, List.map_singleton, List.nodup_append]
    refine ⟨h.nd, by simp, fun a ha b hb => ?_⟩
    obtain ⟨c, hc, e⟩ := List.mem_map.mp ha
    have := hf c hc
    rw [List.mem_singleton.mp hb, ← e]
    exact this.2
  refine ⟨fun q hq => ?_, ?_, ((pm.map (·.2)).nodup_iff).mpr nd2⟩
  · rcases List.mem_append.mp (pm.mem_iff.mp hq) with e | e
    · exact h.rng q e
    · rw [List.mem_singleton.mp e]; exact hp
  · have n1 : ((srt (L ++ [p])).map (·.1)).Nodup := ((pm.map (·.1)).nodup_iff).mpr nd1
    have s1 := srt_le (L ++ [p])
    rw [List.Nodup, List.pairwise_map] at n1
    rw [List.pairwise_map]
    refine (s1.and n1).imp fun {a b} hh => ?_
    obtain ⟨x, y⟩ := hh
    rw [leP_iff] at x
    omega
/-- doors less calls -/
def left (ds : List Int) (is : List Int) : List Int := ds.mapIdx fun j d => d - ((is.count (j : Int) : Nat) : Int)
theorem left_len (ds is : List Int) : (left ds is).length = ds.length := by simp [left]
theorem left_get (ds is : List Int) (j : Nat) : (left ds is)[j]? = (ds[j]?).map fun d => d - ((is.count (j : Int) : Nat) : Int) := by
  unfold left
  rw [List.getElem?_mapIdx]
theorem left_nil (ds : List Int) : left ds [] = ds := by
  apply List.ext_getElem?
  intro j
  rw [left_get]
  simp
theorem left_perm {ds is js : List Int} (h : is.Perm js) : left ds is = left ds js := by
  apply List.ext_getElem?
  intro j
  rw [left_get, left_get, h.count_eq]
theorem left_snoc {ds is : List Int} {i : Nat} {x : Int} (h : (left ds is)[i]? = some x) : (left ds is).set i (x - 1) = left ds (is ++ [(i : Int)]) := by
  apply List.ext_getElem?
  intro j
  rw [List.getElem?_set, left_get ds (is ++ [(i : Int)]) j]
  by_cases e : i = j
  · subst e
    have hl : i < (left ds is).length := (List.getElem?_eq_some_iff.mp h).1
    rw [if_pos rfl, if_pos hl]
    rw [left_get] at h
    cases d : ds[i]? with
    | none => rw [d] at h; cases h
    | some d0 =>
      rw [d] at h
      simp only [Option.map_some, Option.some.injEq] at h
      simp only [Option.map_some, Option.some.injEq, List.count_append, List.count_singleton_self]
      omega
  · rw [if_neg e, left_get]
    have : (is ++ [(i : Int)]).count (j : Int) = is.count (j : Int) := by
      rw [List.count_append, List.count_singleton]
      have : ((i : Int) == (j : Int)) = false := by
        simp
        omega
      rw [this]
      simp
    rw [this]
def fs (S : List (List PP)) : List Int := S.flatten.map (·.1)
def sn (S : List (List PP)) : List Int := S.flatten.map (·.2)
structure StdOk (ds es : List Int) (m : Int) (S : List (List PP)) : Prop where
  len : (S.length : Int) = m
  ld : ∀ L ∈ S, LoadOk ds.length es.length L
  ci : ∀ d ∈ left ds (fs S), 0 ≤ d
  co : ∀ d ∈ left es (sn S), 0 ≤ d
theorem StdOk.set {ds es : List Int} {m : Int} {S : List (List PP)} {k : Nat} {L : List PP} {p : PP} {x y : Int} (h : StdOk ds es m S) (hk : S[k]? = some L) (hp : InP ds.length es.length p) (hf : freeB L p = true)
    (hx : (left ds (fs S))[p.1.toNat]? = some x) (x0 : 0 < x) (hy : (left es (sn S))[p.2.toNat]? = some y) (y0 : 0 < y) :
    StdOk ds es m (S.set k (srt (L ++ [p]))) ∧ (left ds (fs S)).set p.1.toNat (x - 1) = left ds (fs (S.set k (srt (L ++ [p])))) ∧ (left es (sn S)).set p.2.toNat (y - 1) = left es (sn (S.set k (srt (L ++ [p])))) := by
  have hkl : k < S.length := (List.getElem?_eq_some_iff.mp hk).1
  have pm : (S.set k (srt (L ++ [p]))).flatten.Perm (S.flatten ++ [p]) := by
    have e1 : S = S.take k ++ L :: S.drop (k + 1) := by
      have := List.getElem?_eq_some_iff.mp hk
      obtain ⟨_, e⟩ := this
      rw [← e]
      simp
    have e2 : S.set k (srt (L ++ [p])) = S.take k ++ srt (L ++ [p]) :: S.drop (k + 1) := by
      rw [List.set_eq_take_append_cons_drop, if_pos hkl]
    rw [e2]
    conv => rhs; rw [e1]
    rw [List.flatten_append, List.flatten_cons, List.flatten_append, List.flatten_cons, List.append_assoc, List.append_assoc]
    refine List.Perm.append_left _ ?_
    refine (List.Perm.append_right _ (srt_perm _)).trans ?_
    rw [List.append_assoc]
    refine List.Perm.append_left _ ?_
    exact List.perm_append_comm
  have p1 : (fs (S.set k (srt (L ++ [p])))).Perm (fs S ++ [p.1]) := by
    unfold fs
    have := pm.map (·.1)
    rwa [List.map_append] at this
  have p2 : (sn (S.set k (srt (L ++ [p])))).Perm (sn S ++ [p.2]) := by
    unfold sn
    have := pm.map (·.2)
    rwa [List.map_append] at this
  have c1 : ((p.1.toNat : Nat) : Int) = p.1 := by have := hp.1; omega
  have c2 : ((p.2.toNat : Nat) : Int) = p.2 := by have := hp.2.2.1; omega
  have e1 := left_snoc hx
  have e2 := left_snoc hy
  rw [c1, ← left_perm p1] at e1
  rw [c2, ← left_perm p2] at e2
  refine ⟨⟨by rw [List.length_set]; exact h.len, fun M hM => ?_, fun d hd => ?_, fun d hd => ?_⟩, e1, e2⟩
  · rcases List.mem_or_eq_of_mem_set hM with e | e
    · exact h.ld M e
    · rw [e]
      exact (h.ld L (List.mem_of_getElem? hk)).srt_add hp hf
  · rw [← e1] at hd
    rcases List.mem_or_eq_of_mem_set hd with e | e
    · exact h.ci d e
    · omega
  · rw [← e2] at hd
    rcases List.mem_or_eq_of_mem_set hd with e | e
    · exact h.co d e
    · omega
theorem StdOk.empty {ds es : List Int} {n : Nat} (hd : ∀ d ∈ ds, 1 ≤ d) (he : ∀ d ∈ es, 1 ≤ d) : StdOk ds es (n : Nat) (List.replicate n []) := by
  have f0 : fs (List.replicate n []) = [] := by simp [fs]
  have s0 : sn (List.replicate n []) = [] := by simp [sn]
  refine ⟨by simp, fun L hL => ?_, fun d h => ?_, fun d h => ?_⟩
  · rw [(List.mem_replicate.mp hL).2]; exact .nil
  · rw [f0, left_nil] at h
    have := hd d h; omega
  · rw [s0, left_nil] at h
    have := he d h; omega
/-- free middles -/
def frees (S : List (List PP)) (p : PP) : List Int := ((List.range S.length).filter fun k => freeB (S.getD k []) p).map Int.ofNat
def freesTo (S : List (List PP)) (p : PP) (i : Nat) : List Int := ((List.range i).filter fun k => freeB (S.getD k []) p).map Int.ofNat
theorem freesTo_succ (S : List (List PP)) (p : PP) (i : Nat) : freesTo S p (i + 1) = freesTo S p i ++ (if freeB (S.getD i []) p = true then [(i : Int)] else []) := by
  unfold freesTo
  rw [List.range_succ, List.filter_append, List.map_append]
  congr 1
  cases h : freeB (S.getD i []) p with
  | true =>
    have e : List.filter (fun k => freeB (S.getD k []) p) [i] = [i] := by rw [List.filter, h, List.filter]
    rw [e]; rfl
  | false =>
    have e : List.filter (fun k => freeB (S.getD k []) p) [i] = [] := by rw [List.filter, h, List.filter]
    rw [e]; rfl
/-- strictly ascending lists with the same members are equal -/
theorem asc_ext : ∀ {l m : List Int}, l.Pairwise (· < ·) → m.Pairwise (· < ·) → (∀ k, k ∈ l ↔ k ∈ m) → l = m := by
  intro l m hl hm h
  refine List.Perm.eq_of_pairwise (le := fun a b : Int => a < b) (fun a b _ _ x y => by omega) hl hm ?_
  rw [List.perm_ext_iff_of_nodup (asc_nodup hl) (asc_nodup hm)]
  exact h
theorem asc_dec {l ns : List Int} (hn : ns.Pairwise (· < ·)) (h : ∀ k, k ∈ ns ↔ k ∈ l) : decide (l = ns) = decide (l.Pairwise (· < ·)) := by
  refine decide_eq_decide.mpr ⟨fun e => by rw [e]; exact hn, fun p => asc_ext p hn fun k => (h k).symm⟩
theorem sub_perm : ∀ {ks l : List Int}, ks.Nodup → (∀ x ∈ ks, x ∈ l) → l.length ≤ ks.length → ks.Perm l
  | [], l, _, _, h => by
    have : l = [] := List.length_eq_zero_iff.mp (by simpa using h)
    rw [this]
  | x :: ks, l, n, s, h => by
    have hx := s x (List.mem_cons_self ..)
    have pm := List.perm_cons_erase hx
    have l1 := pm.length_eq
    rw [List.length_cons] at l1 h
    rw [List.nodup_cons] at n
    refine (List.Perm.cons x (sub_perm n.2 (fun y hy => ?_) (by omega))).trans pm.symm
    have hyl := s y (List.mem_cons_of_mem _ hy)
    have ne : y ≠ x := fun e => n.1 (e ▸ hy)
    exact (List.mem_erase_of_ne ne).mpr hyl
theorem nd_dec {l ks : List Int} (hk : ks.Nodup) (h : ∀ k, k ∈ ks ↔ k ∈ l) : decide (l.length = ks.length) = decide l.Nodup := by
  refine decide_eq_decide.mpr ⟨fun e => ?_, fun p => ?_⟩
  · have h2 : ∀ x ∈ ks, x ∈ l := fun x hx => (h x).mp hx
    exact (sub_perm hk h2 (by omega)).nodup_iff.mp hk
  · exact (List.Perm.length_eq ((List.perm_ext_iff_of_nodup p hk).mpr fun k => (h k).symm))
end Sd
set_option Elab.async false
set_option linter.all false
/-! A pair put into a load and taken out of it. -/
namespace Sd
def takeL (L : List PP) (p : PP) : List PP := L.filter fun c => !decide (c = p)
def putL (L : List PP) (p : PP) : List PP := srt (L ++ [p])
theorem LoadOk.le {n m : Nat} {L : List PP} (h : LoadOk n m L) : L.Pairwise (fun a b => leP a b = true) := by
  have := List.pairwise_map.mp h.asc
  exact this.imp fun {a b} x => leP_iff.mpr (.inl x)
theorem LoadOk.nodup {n m : Nat} {L : List PP} (h : LoadOk n m L) : L.Nodup := by
  have := List.pairwise_map.mp h.asc
  exact this.imp fun {a b} x e => by rw [e] at x; omega
theorem inj_nd {f : PP → Int} : ∀ {L : List PP}, (L.map f).Nodup → ∀ {a b : PP}, a ∈ L → b ∈ L → f a = f b → a = b
  | [], _, _, _, h, _, _ => nomatch h
  | c :: L, h, a, b, ha, hb, e => by
    rw [List.map_cons, List.nodup_cons] at h
    rcases List.mem_cons.mp ha with x | x <;> rcases List.mem_cons.mp hb with y | y
    · rw [x, y]
    · exact absurd (List.mem_map.mpr ⟨b, y, by rw [← e, x]⟩) h.1
    · exact absurd (List.mem_map.mpr ⟨a, x, by rw [e, y]⟩) h.1
    · exact inj_nd h.2 x y e
theorem take_put {n m : Nat} {L : List PP} {p : PP} (h : LoadOk n m L) (hf : freeB L p = true) : takeL (putL L p) p = L := by
  have no : p ∉ L := fun hp => (freeB_iff.mp hf p hp).1 rfl
  have e1 : takeL (L ++ [p]) p = L := by
    unfold takeL
    rw [List.filter_append]
    have : [p].filter (fun c => !decide (c = p)) = [] := by simp
    rw [this, List.append_nil]
    refine List.filter_eq_self.mpr fun c hc => ?_
    have : c ≠ p := fun z => no (z ▸ hc)
    simp [this]
  have pm : (takeL (putL L p) p).Perm L := by
    have := (srt_perm (L ++ [p])).filter fun c => !decide (c = p)
    rw [show (L ++ [p]).filter (fun c => !decide (c = p)) = L from e1] at this
    exact this
  have s1 := (srt_le (L ++ [p])).sublist (List.filter_sublist (p := fun c => !decide (c = p)))
  exact (srt_uniq pm s1).trans (srt_uniq (List.Perm.refl L) h.le).symm
theorem take_perm {L : List PP} {p : PP} (nd : L.Nodup) (hp : p ∈ L) : L.Perm (takeL L p ++ [p]) := by
  have e : takeL L p = L.erase p := by
    rw [List.Nodup.erase_eq_filter nd]
    unfold takeL
    congr 1
    funext c
    by_cases z : c = p <;> simp [z]
  rw [e]
  exact (List.perm_cons_erase hp).trans (List.perm_append_comm (l₁ := [p]))
theorem put_take {n m : Nat} {L : List PP} {p : PP} (h : LoadOk n m L) (hp : p ∈ L) : putL (takeL L p) p = L :=
  (srt_uniq (take_perm h.nodup hp) h.le).symm
theorem LoadOk.take {n m : Nat} {L : List PP} (p : PP) (h : LoadOk n m L) : LoadOk n m (takeL L p) :=
  ⟨fun q hq => h.rng q (List.mem_filter.mp hq).1, h.asc.sublist ((List.filter_sublist).map _), List.Pairwise.sublist ((List.filter_sublist).map _) h.nd⟩
theorem free_take {n m : Nat} {L : List PP} {p : PP} (h : LoadOk n m L) (hp : p ∈ L) : freeB (takeL L p) p = true := by
  refine freeB_iff.mpr fun c hc => ?_
  obtain ⟨h1, h2⟩ := List.mem_filter.mp hc
  have ne : c ≠ p := by simpa using h2
  exact ⟨fun e => ne (inj_nd (asc_nodup h.asc) h1 hp e), fun e => ne (inj_nd h.nd h1 hp e)⟩
theorem take_len (L : List PP) (p : PP) : (takeL L p).length ≤ L.length := List.length_filter_le _ _
theorem put_mem (L : List PP) (p : PP) : p ∈ putL L p := (srt_perm _).mem_iff.mpr (by simp)
theorem put_len (L : List PP) (p : PP) : (putL L p).length = L.length + 1 := by
  unfold putL
  rw [srt_len]
  simp
theorem left_more {ds is js : List Int} {i : Int} (h : is.Perm (js ++ [i])) (g : ∀ d ∈ left ds is, 0 ≤ d) : (∀ d ∈ left ds js, 0 ≤ d) ∧ (0 ≤ i → i < ds.length → 0 < (left ds js).getD i.toNat 0) := by
  have key : ∀ {j : Nat} {d : Int}, ds[j]? = some d → 0 ≤ d - ((is.count (j : Int) : Nat) : Int) := fun {j d} e => by
    refine g _ (List.mem_of_getElem? (i := j) ?_)
    rw [left_get, e]
    rfl
  have cnt : ∀ j : Nat, is.count (j : Int) = js.count (j : Int) + [i].count (j : Int) := fun j => by rw [h.count_eq, List.count_append]
  constructor
  · intro d hd
    obtain ⟨j, hj⟩ := List.getElem?_of_mem hd
    rw [left_get] at hj
    cases e : ds[j]? with
    | none => rw [e] at hj; cases hj
    | some z =>
      rw [e] at hj
      have := key e
      have c := cnt j
      simp only [Option.map_some, Option.some.injEq] at hj
      omega
  · intro h0 h1
    obtain ⟨n, rfl⟩ := Int.eq_ofNat_of_zero_le h0
    have hn : n < ds.length := by omega
    have e : ds[n]? = some ds[n] := List.getElem?_eq_getElem hn
    have k := key e
    have c := cnt n
    rw [List.count_singleton_self] at c
    rw [List.getD_eq_getElem?_getD, Int.toNat_natCast, left_get, e]
    show 0 < ds[n] - _
    omega
theorem set_flat {S : List (List PP)} {k : Nat} {L M : List PP} {p : PP} (hk : S[k]? = some L) (h : L.Perm (M ++ [p])) : S.flatten.Perm ((S.set k M).flatten ++ [p]) := by
  have hkl : k < S.length := (List.getElem?_eq_some_iff.mp hk).1
  have e1 : S = S.take k ++ L :: S.drop (k + 1) := by
    obtain ⟨_, e⟩ := List.getElem?_eq_some_iff.mp hk
    rw [← e]
    simp
  have e2 : S.set k M = S.take k ++ M :: S.drop (k + 1) := by rw [List.set_eq_take_append_cons_drop, if_pos hkl]
  rw [e2]
  conv => lhs; rw [e1]
  rw [List.flatten_append, List.flatten_cons, List.flatten_append, List.flatten_cons, List.append_assoc, List.append_assoc]
  refine List.Perm.append_left _ ?_
  refine (List.Perm.append_right _ h).trans ?_
  rw [List.append_assoc]
  exact List.Perm.append_left _ List.perm_append_comm
theorem StdOk.take {ds es : List Int} {m : Int} {S : List (List PP)} {k : Nat} {L : List PP} {p : PP} (h : StdOk ds es m S) (hk : S[k]? = some L) (hp : p ∈ L) :
    StdOk ds es m (S.set k (takeL L p)) ∧ 0 < (left ds (fs (S.set k (takeL L p)))).getD p.1.toNat 0 ∧ 0 < (left es (sn (S.set k (takeL L p)))).getD p.2.toNat 0 := by
  have lo := h.ld L (List.mem_of_getElem? hk)
  obtain ⟨r1, r2, r3, r4⟩ := lo.rng p hp
  have pm := set_flat hk (take_perm lo.nodup hp)
  have p1 : (fs S).Perm (fs (S.set k (takeL L p)) ++ [p.1]) := by
    unfold fs
    have := pm.map (·.1)
    rwa [List.map_append] at this
  have p2 : (sn S).Perm (sn (S.set k (takeL L p)) ++ [p.2]) := by
    unfold sn
    have := pm.map (·.2)
    rwa [List.map_append] at this
  obtain ⟨a1, a2⟩ := left_more p1 h.ci
  obtain ⟨b1, b2⟩ := left_more p2 h.co
  refine ⟨⟨by rw [List.length_set]; exact h.len, fun M hM => ?_, a1, b1⟩, a2 r1 r2, b2 r3 r4⟩
  rcases List.mem_or_eq_of_mem_set hM with e | e
  · exact h.ld M e
  · rw [e]
    exact lo.take p
theorem mem_frees {S : List (List PP)} {p : PP} {z : Int} : z ∈ frees S p ↔ ∃ k : Nat, z = (k : Int) ∧ k < S.length ∧ freeB (S.getD k []) p = true := by
  unfold frees
  simp only [List.mem_map, List.mem_filter, List.mem_range]
  exact ⟨fun ⟨k, ⟨h1, h2⟩, e⟩ => ⟨k, e.symm, h1, h2⟩, fun ⟨k, e, h1, h2⟩ => ⟨k, ⟨h1, h2⟩, e.symm⟩⟩
theorem set_back {S : List (List PP)} {k : Nat} {L M : List PP} (hk : S[k]? = some L) : (S.set k M).set k L = S := by
  obtain ⟨h, e⟩ := List.getElem?_eq_some_iff.mp hk
  rw [List.set_set, ← e]
  exact List.set_getElem_self h
theorem set_at {S : List (List PP)} {k : Nat} {L M : List PP} (hk : S[k]? = some L) : (S.set k M)[k]? = some M := by
  obtain ⟨h, _⟩ := List.getElem?_eq_some_iff.mp hk
  rw [List.getElem?_set, if_pos rfl, if_pos h]
end Sd
set_option linter.all false
/-! The busiest number of a pair, the greatest of a list, the degree. -/
namespace Sd
/-- doors da at the pair's input switch, db at its output switch; so, si: the doors of all other switches of the other side -/
def bzI (da db so si : Int) : Int := min (da - 1) so + min (db - 1) si + min (da - 1 - min (da - 1) so) (db - 1 - min (db - 1) si)
def bz (ds es : List Int) (p : PP) : Int := bzI (ds.getD p.1.toNat 0) (es.getD p.2.toNat 0) (es.sum - es.getD p.2.toNat 0) (ds.sum - ds.getD p.1.toNat 0)
theorem bzI_comm (a b c d : Int) : bzI a b c d = bzI b a d c := by unfold bzI; omega
theorem bz_comm (ds es : List Int) (i o : Int) : bz ds es (i, o) = bz es ds (o, i) := bzI_comm ..
theorem bzI_ge {a b c d x y z : Int} (h1 : x ≤ a - 1) (h2 : x ≤ c) (h3 : y ≤ b - 1) (h4 : y ≤ d) (h5 : z ≤ a - 1 - x) (h6 : z ≤ b - 1 - y) : x + y + z ≤ bzI a b c d := by unfold bzI; omega
theorem bzI_nn {a b c d : Int} (h1 : 1 ≤ a) (h2 : 1 ≤ b) (h3 : 0 ≤ c) (h4 : 0 ≤ d) : 0 ≤ bzI a b c d := by unfold bzI; omega
theorem bzI_deg {a b c d : Int} (h1 : 1 ≤ a) (h2 : 1 ≤ b) (h3 : 0 ≤ c) (h4 : 0 ≤ d) : min a (b + c) ≤ bzI a b c d + 1 ∧ min b (a + d) ≤ bzI a b c d + 1 := by unfold bzI; omega
def mx (l : List Int) : Int := l.foldl max 0
theorem mx_snoc (l : List Int) (x : Int) : mx (l ++ [x]) = max (mx l) x := by unfold mx; rw [List.foldl_append]; rfl
theorem fold_ge : ∀ (l : List Int) (a : Int), a ≤ l.foldl max a ∧ ∀ x ∈ l, x ≤ l.foldl max a
  | [], a => ⟨Int.le_refl a, fun x h => nomatch h⟩
  | y :: l, a => by
    have h := fold_ge l (max a y)
    refine ⟨by show a ≤ l.foldl max (max a y); omega, fun x hx => ?_⟩
    show x ≤ l.foldl max (max a y)
    rcases List.mem_cons.mp hx with e | e
    · subst e; omega
    · exact h.2 x e
theorem fold_in : ∀ (l : List Int) (a : Int), l.foldl max a = a ∨ l.foldl max a ∈ l
  | [], a => .inl rfl
  | y :: l, a => by
    show l.foldl max (max a y) = a ∨ l.foldl max (max a y) ∈ y :: l
    rcases fold_in l (max a y) with e | e
    · rw [e]
      rcases Int.le_total a y with h | h
      · right; rw [Int.max_eq_right h]; exact List.mem_cons_self ..
      · left; exact Int.max_eq_left h
    · exact .inr (List.mem_cons_of_mem _ e)
theorem mx_ge {l : List Int} {x : Int} (h : x ∈ l) : x ≤ mx l := (fold_ge l 0).2 x h
theorem mx_nn (l : List Int) : 0 ≤ mx l := (fold_ge l 0).1
theorem mx_le {l : List Int} {b : Int} (h0 : 0 ≤ b) (h : ∀ x ∈ l, x ≤ b) : mx l ≤ b := by
  rcases fold_in l 0 with e | e
  · unfold mx; omega
  · exact h _ e
theorem mx_uniq {l : List Int} {m : Int} (h : m ∈ l) (g : ∀ x ∈ l, x ≤ m) (h0 : 0 ≤ m) : m = mx l := by
  have := mx_ge h
  have := mx_le h0 g
  omega
theorem mx_ext {l m : List Int} (h : ∀ x, x ∈ l ↔ x ∈ m) : mx l = mx m := by
  have a := mx_le (l := l) (mx_nn m) fun x hx => mx_ge ((h x).mp hx)
  have b := mx_le (l := m) (mx_nn l) fun x hx => mx_ge ((h x).mpr hx)
  omega
def dg (ds es : List Int) : Int := mx (ds.map (fun d => min d es.sum) ++ es.map (fun d => min d ds.sum))
theorem dg_comm (ds es : List Int) : dg ds es = dg es ds := mx_ext fun x => by rw [List.mem_append, List.mem_append]; exact Or.comm
theorem sum_ge : ∀ {ds : List Int} (_ : ∀ d ∈ ds, 1 ≤ d) {n : Nat}, n < ds.length → ds.getD n 0 ≤ ds.sum ∧ 1 ≤ ds.getD n 0
  | [], _, n, h => absurd h (Nat.not_lt_zero n)
  | d :: ds, hd, n, h => by
    have h1 := hd d (List.mem_cons_self ..)
    have hs : 0 ≤ ds.sum := by
      have : ∀ (l : List Int), (∀ x ∈ l, 1 ≤ x) → 0 ≤ l.sum := fun l => by
        induction l with
        | nil => intro _; simp
        | cons x l ih =>
          intro hx
          have := hx x (List.mem_cons_self ..)
          have := ih fun y hy => hx y (List.mem_cons_of_mem _ hy)
          rw [List.sum_cons]; omega
      exact this ds fun x hx => hd x (List.mem_cons_of_mem _ hx)
    rw [List.sum_cons]
    cases n with
    | zero => refine ⟨?_, ?_⟩ <;> simp <;> omega
    | succ n =>
      have := sum_ge (ds := ds) (fun x hx => hd x (List.mem_cons_of_mem _ hx)) (n := n) (by simpa using h)
      rw [List.getD_cons_succ]
      omega
theorem sum_take {ds : List Int} {k : Nat} {x : Int} (h : ds[k]? = some x) : (ds.take (k + 1)).sum = (ds.take k).sum + x := by
  rw [List.take_add_one, h]
  simp
end Sd
namespace Sd
theorem sum_le4 : ∀ {l : List Int}, (∀ d ∈ l, 1 ≤ d ∧ d ≤ 4) → l.sum ≤ 4 * l.length ∧ 0 ≤ l.sum
  | [], _ => by simp
  | d :: l, h => by
    have h1 := h d (List.mem_cons_self ..)
    have h2 := sum_le4 (l := l) fun x hx => h x (List.mem_cons_of_mem _ hx)
    rw [List.sum_cons, List.length_cons]
    omega
/-- how many stand for the other switches, up to the k-th -/
def oth (ds : List Int) (n : Nat) (x : Int) (k : Nat) : Int := (ds.take k).sum - (if n < k then x else 0)
theorem oth_zero (ds : List Int) (n : Nat) (x : Int) : oth ds n x 0 = 0 := by simp [oth]
theorem oth_at {ds : List Int} {n : Nat} {x : Int} (h : ds[n]? = some x) : oth ds n x (n + 1) = oth ds n x n := by
  unfold oth
  rw [sum_take h, if_pos (by omega), if_neg (by omega)]
  omega
theorem oth_ne {ds : List Int} {n k : Nat} {x d : Int} (h : ds[k]? = some d) (ne : k ≠ n) : oth ds n x (k + 1) = oth ds n x k + d := by
  unfold oth
  rw [sum_take h]
  by_cases c : n < k
  · rw [if_pos c, if_pos (by omega)]; omega
  · rw [if_neg c, if_neg (by omega)]; omega
theorem oth_end {ds : List Int} {n : Nat} {x : Int} (h : n < ds.length) : oth ds n x ds.length = ds.sum - x := by
  unfold oth
  rw [if_pos h, List.take_length]
theorem oth_le {ds : List Int} {n : Nat} {x : Int} (h : ∀ d ∈ ds, 1 ≤ d ∧ d ≤ 4) (hx : 0 ≤ x) (k : Nat) (hl : ds.length ≤ 4) : oth ds n x k ≤ 16 := by
  have := sum_le4 (l := ds.take k) fun d hd => h d (List.mem_of_mem_take hd)
  have : (ds.take k).length ≤ 4 := by rw [List.length_take]; omega
  unfold oth
  split <;> omega
end Sd
set_option Elab.async false
set_option linter.all false
set_option maxRecDepth 100000
set_option maxHeartbeats 4000000
/-! set(list of ints), len(set), enumerate(tuple), sorted(list of pairs) by a Lean function. -/
namespace Ext
open PySem PySem.Spec PyProof.Rows L2 Com
section
variable {P : Program} {w : World} {A : Around} {E : Value → Shared → Prop} {s : Shared}
set_option maxRecDepth 100000 in
set_option maxHeartbeats 3200000 in
theorem call_set_listI {l : Addr} {items : Array Value} (ns : List Int) {Q : Value → Shared → Prop} (hh : A.handled = none) (hl : s.heap.IsList l items) (hit : IntsAre items.toList ns) (hb : ns.length + 1 < scanBound)
    (h : ∀ (h' : Heap) (tk c : Nat), SetR w h' s.heap.objs.size (fun j => decide (j ∈ ns)) c → c ≤ ns.length → (∀ b o, s.heap.get? b = some o → h'.get? b = some o) → Q (.ref s.heap.objs.size) { s with heap := h', toks := tk }) :
    wpAny (model P w) A (call (.type "set") [.ref l]) Q E s := by
  have hisz : items.size = ns.length := by
    have q := IntsAre.length hit
    rw [Array.length_toList] at q
    exact q
  obtain ⟨c, tl, hmro⟩ := F.called_set.mro
  have hmade := F.called_set.made
  have hsub := F.called_set.sub
  refine wpAny_call (codeAny_of_tree ?_)
  show wpAny _ _ (callAny (.type "set") _) _ _ _
  refine wpAny_pure ⟨Code.quiet_builtin _ (by decide +kernel), codeAny_builtin F.entry_type_call ?_⟩
  rw [Around.under_plain (weight_type_call_type "set" [.ref l] []) rfl]
  have h1 := F.called_set.notType
  have h2 := F.called_set.canCreate
  have hct := F.typeCall_set_1 (.ref l)
  repeat (any_goals (first | assumption | wp_step))
  refine codeAny_mono (code_set_led1 (.ref l) (E := E) (Q₁ := fun obj s₁ => obj = .ref s.heap.objs.size ∧ s₁ = { s with heap := s.heap.push { cls := .type "set", dict := none, data := .set #[] 0 (.fresh 0 0 (!w.params.followText "set-order")) } }) ⟨rfl, rfl⟩) fun r s₁ hr => ?_
  cases r with
  | error e => exact hr
  | ok fl =>
    cases fl with
    | ret obj =>
      obtain ⟨rfl, rfl⟩ := hr
      have hS : (s.heap.push { cls := .type "set", dict := none, data := .set #[] 0 (.fresh 0 0 (!w.params.followText "set-order")) }).get? s.heap.objs.size = some { cls := .type "set", dict := none, data := .set #[] 0 (.fresh 0 0 (!w.params.followText "set-order")) } := Heap.get?_push_size _ rfl
      have hT : Shared.TypeIs { s with heap := s.heap.push { cls := .type "set", dict := none, data := .set #[] 0 (.fresh 0 0 (!w.params.followText "set-order")) } } (.ref s.heap.objs.size) "set" := ⟨_, hS, rfl⟩
      have hli := F.called_set.init.lookup
      have hbi := F.called_set.init.bind (.ref s.heap.objs.size)
      repeat (any_goals (first | assumption | wp_step))
      refine codeAny_mono (codeAny_call_builtin (R := wants (fun r s₂ => r = .none ∧ ∃ h' tk c, s₂ = { s with heap := h', toks := tk } ∧ SetR w h' s.heap.objs.size (fun j => decide (j ∈ ns)) c ∧ c ≤ ns.length ∧
          (∀ b o, s.heap.get? b = some o → h'.get? b = some o)) E) F.called_set.init.plain F.entry_set_init (check_set_init_1 hT ?_)) fun r₂ s₂ hr₂ => ?_
      · obtain ⟨ol, hol, hcl, nl, hdl⟩ := hl
        obtain ⟨ocls, odict, odata, oslots⟩ := ol
        simp only at hcl hdl
        subst hcl; subst hdl
        have hol' : (s.heap.push { cls := .type "set", dict := none, data := .set #[] 0 (.fresh 0 0 (!w.params.followText "set-order")) }).get? l = some { cls := .type "list", dict := odict, data := .seq items nl, slots := oslots } := Heap.get?_push_of_some _ hol
        have hsls := F.sub_list_set
        have hslf := F.sub_list_frozenset
        have hne : (Value.type "list" == Value.type "dict") = false := by decide
        have hl1 : (s.heap.push { cls := .type "set", dict := none, data := .set #[] 0 (.fresh 0 0 (!w.params.followText "set-order")) }).IsList l items := ⟨_, hol', rfl, nl, rfl⟩
        unfold Builtin.«set.__init__» noKeywords Builtin.Frozenset.updateFrom
        generalize hPI : pyIter = PI
        wp_walk
        subst hPI
        refine wpAny_pyIter_list hl1 ?_
        refine wpAny_bind (wpAny_runValue ?_)
        have hlS : l < s.heap.objs.size := Heap.lt_size hol
        have hh3 : A.in1.in1.in1.handled = none := by simp [hh]
        have hz1 : (s.heap.push { cls := .type "set", dict := none, data := .set #[] 0 (.fresh 0 0 (!w.params.followText "set-order")) }).objs.size = s.heap.objs.size + 1 := Heap.size_push ..
        have hneI : l ≠ (s.heap.push { cls := .type "set", dict := none, data := .set #[] 0 (.fresh 0 0 (!w.params.followText "set-order")) }).objs.size := by
          rw [Heap.size_push]; exact Nat.ne_of_lt (Nat.lt_succ_of_lt hlS)
        have hSf : s.heap.objs.size ∉ [(s.heap.push { cls := .type "set", dict := none, data := .set #[] 0 (.fresh 0 0 (!w.params.followText "set-order")) }).objs.size, l] := by
          rw [Heap.size_push]; simp only [List.mem_cons, List.mem_singleton, List.not_mem_nil, or_false, not_or]
          exact ⟨Nat.ne_of_lt (Nat.lt_succ_self _), Nat.ne_of_gt hlS⟩
        have hval : ∀ (i : Nat) (v : Value), items[i]? = some v → ∃ k t, ns[i]? = some k ∧ v = .int k t := fun i v hv => by
          have hi : i < ns.length := by rw [← hisz]; exact (Array.getElem?_eq_some_iff.mp hv).1
          obtain ⟨t, e⟩ := PyProof.Rows.IntsAre.int_at hit i v (by rw [Array.getElem?_toList]; exact hv)
          refine ⟨ns[i], t, List.getElem?_eq_getElem hi, ?_⟩
          rw [e, List.getD_eq_getElem?_getD, List.getElem?_eq_getElem hi] <;> rfl
        refine set_update_ints ((Walks.list hh3 _ l hneI items).toS) s.heap.objs.size
          hSf ns hisz hb hval (items.size - 0) 0 _ (by omega) (Nat.zero_le _)
          ⟨⟨_, Heap.get?_push_size _ rfl, rfl, rfl⟩, (hl1.push _)⟩ ?hS0 ?hR
        case hS0 =>
          have hget : ((s.heap.push { cls := .type "set", dict := none, data := .set #[] 0 (.fresh 0 0 (!w.params.followText "set-order")) }).push { cls := .type "list_iterator", data := .fields #[.ref l, .int 0 0] }).get? s.heap.objs.size
              = some { cls := .type "set", dict := none, data := .set #[] 0 (.fresh 0 0 (!w.params.followText "set-order")) } := Heap.get?_push_of_some _ hS
          exact ⟨0, Nat.le_refl 0, setR_new_at hget⟩
        case hR =>
          intro s' c' hm hc' hS'
          obtain ⟨h', g2, d', tk', os'⟩ := s'
          have eg : g2 = s.gens := hm.gens
          have ed : d' = s.drawn := hm.drawn
          have eo : os' = s.os := hm.os
          subst eg; subst ed; subst eo
          show wpAny _ _ _ _ _ _
          refine wpAny_pure ?_
          show wpAny _ _ (ret Value.none) _ _ _
          rw [hisz] at hc'
          refine wpAny_pure ⟨rfl, h', tk', c', rfl, hS', hc', fun b o e => ?_⟩
          have hb0 : b < s.heap.objs.size := Heap.lt_size e
          have hb1 : b ≠ s.heap.objs.size := Nat.ne_of_lt hb0
          have hb2 : b ≠ (s.heap.push { cls := .type "set", dict := none, data := .set #[] 0 (.fresh 0 0 (!w.params.followText "set-order")) }).objs.size := by
            rw [Heap.size_push]; exact Nat.ne_of_lt (Nat.lt_succ_of_lt hb0)
          exact hm.heap b o (by simp only [List.mem_cons, List.mem_singleton, List.not_mem_nil, or_false, not_or]; exact ⟨hb1, hb2⟩) (Heap.get?_push_of_some _ (Heap.get?_push_of_some _ e))
      · cases r₂ with
        | error e => exact hr₂
        | ok fl₂ =>
          cases fl₂ with
          | ret r =>
            obtain ⟨rfl, h', tk, c', rfl, hS', hc', hk'⟩ := hr₂
            repeat (any_goals (first | assumption | wp_step))
            exact h _ _ _ hS' hc' hk'
          | _ => exact hr₂.elim
    | _ => exact hr.elim
end
end Ext
set_option Elab.async false
set_option linter.all false
set_option maxRecDepth 100000
set_option maxHeartbeats 4000000
namespace Ext
open PySem PySem.Spec PyProof.Rows L2 Com
/-! ### set(list of ints), its length -/
section
variable {X : Cx}
theorem setR_keys {P : Program} {w : World} {h : Heap} {a : Addr} {S : Int → Bool} {n : Nat} (R : SetR w h a S n) : ∃ ks : List Int, ks.Nodup ∧ (∀ k, k ∈ ks ↔ S k = true) ∧ ks.length = n := by
  obtain ⟨o, es, ep, t, ho, hex, hdt, g, nd, hm2, hb, hf, hn, hr, hl2⟩ := R
  refine ⟨es.toList.map keyOf, nd, fun k => ?_, ?_⟩
  · rw [hm2]
  · rw [List.length_map, Array.length_toList]
    first | exact hn.symm | exact hn | omega
def rSetI (K : PySem.W.Frag) (w : World) : List V → Hp → VK → Prop := fun xs H Q => ∃ (l : Addr) (ns : List Int), xs = [V.ref l] ∧ SqL K H l (ns.map V.int) ∧ ns.length ≤ 1000 ∧
  ∀ p n (ks : List Int), ks.Nodup → (∀ k, k ∈ ks ↔ k ∈ ns) → ks.length = n → n ≤ ns.length → H p = none → Q (.ref p) (upd H p (SetO w p (fun k => decide (k ∈ ns)) n))
theorem cr_setI (hc : X.calm = true) : CallR X (.type "set") (rSetI X.K X.w) := by
  intro pins s σ H vs us Q I r h
  obtain ⟨l, ns, rfl, hq, hl, q⟩ := h
  rw [Vals.ref1 r]
  obtain ⟨its, rv, pl, hz⟩ := I.list hq
  have hi : IntsAre its.toArray.toList ns := by simpa using RZ.intsAre_vals rv
  refine call_set_listI ns (I.ok.hd hc) pl.isList hi (by unfold scanBound; omega) fun h' tk c R hcn k => ?_
  obtain ⟨ks, nd, hm, hn⟩ := setR_keys (P := X.prog) R
  have hp : s.heap.objs.size ≤ s.heap.objs.size := Nat.le_refl _
  have hnone : H s.heap.objs.size = none := I.hok.fresh hp
  have J : Inv X pins σ (upd H s.heap.objs.size (SetO X.w s.heap.objs.size (fun k => decide (k ∈ ns)) c)) { s with heap := h', toks := tk } :=
    I.laid (t' := tk) (fun b u e => k b u e) hp (setO_new R)
  exact ⟨.ref s.heap.objs.size, _, J, rfl, q s.heap.objs.size c ks nd (fun k => by rw [hm k, decide_eq_true_eq]) hn hcn hnone⟩
def rLenSet (w : World) : List V → Hp → VK → Prop := fun xs H Q => ∃ (a : Addr) (S : Int → Bool) (n : Nat), xs = [V.ref a] ∧ H a = some (SetO w a S n) ∧ n ≤ 4000 ∧ Q (.int (n : Nat)) H
theorem cl_lenSet : CallR X (.builtin "len") (rLenSet X.w) := by
  intro pins s σ H vs us Q I r h
  obtain ⟨a, S, n, rfl, ha, hn, q⟩ := h
  rw [Vals.ref1 r]
  obtain ⟨o, es, ep, t, ho, hex, hd, _, _, _, _, hf, he, _, _⟩ := setO_get I ha
  exact call_len_set ho hex hd hf (by rw [he]; omega) ⟨.int n, H, I.tok _, ⟨_, by rw [he]⟩, q⟩
end

/-! ### enumerate(tuple) -/
set_option maxHeartbeats 4000000 in
theorem meets_enumerate_new1B {v : Value} {o : Obj} {H : Heap → Prop} (B : Begins v o H) :
    Meets (Builtin.«enumerate.__new__» ⟨[.type "enumerate", v], []⟩) (fun _ R s => H s.heap ∧
      R (.ok (.ret (.ref (s.heap.push o).objs.size))) { s with heap := (s.heap.push o).push { cls := .type "enumerate", data := .fields #[.none, .bool false, .ref s.heap.objs.size, rawInt 0, .none, .none] } }) :=
  .of_wp fun prog w A R s h => by
    obtain ⟨hp, g, d, tk, os⟩ := s; obtain ⟨h1, h⟩ := h
    have hsub := sub_enumerate
    have q1 : ∀ {A' : Around} {E : Value → Shared → Prop} {Q : Value → Shared → Prop}, Q (.ref hp.objs.size) ⟨hp.push o, g, d, tk, os⟩ → wpAny (model prog w) A' (pyIter v) Q E ⟨hp, g, d, tk, os⟩ :=
      fun q => B.iter prog w _ _ ⟨hp, g, d, tk, os⟩ _ h1 q
    wp_walk using q1
    refine wpAny_stack_any fun st => wpAny_pure ?_
    split
    · rename_i c _ _ _ _ _
      cases (c == Value.type "enumerate")
      · wp_walk using q1
        exact ⟨_, rfl, h⟩
      · wp_walk using q1
        exact ⟨_, rfl, h⟩
    · wp_walk using q1
      exact ⟨_, rfl, h⟩
section
variable {prog : Program} {w : World} {A : Around} {E : Value → Shared → Prop} {s : Shared}
theorem call_enumerate_tuple {l : Addr} {items : Array Value} {Q : Value → Shared → Prop} (hL : s.heap.IsTuple l items)
    (h : ∀ h', IsEnum h' (s.heap.objs.size + 1) s.heap.objs.size 0 .none → h'.IsTupleIter s.heap.objs.size l 0 → h'.objs.size = s.heap.objs.size + 2 →
      (∀ b o, s.heap.get? b = some o → h'.get? b = some o) → Q (.ref (s.heap.objs.size + 1)) { s with heap := h' }) :
    wpAny (model prog w) A (call (.type "enumerate") [.ref l]) Q E s := by
  refine callType_new F.called_enumerate (by decide) (F.typeCall_enumerate_1 _) (F.newCall_enumerate_1 _) (fun obj => F.args_object_init_2 obj _) F.entry_enumerate_new
    (meets_enumerate_new1B (begins_tuple l items)) ⟨hL, ?_⟩
  have hz : (s.heap.push { cls := .type "tuple_iterator", data := .fields #[.ref l, .int 0 0] }).objs.size = s.heap.objs.size + 1 := Heap.size_push ..
  show _ ∧ _
  rw [hz]
  have he : IsEnum ((s.heap.push { cls := .type "tuple_iterator", data := .fields #[.ref l, .int 0 0] }).push
      { cls := .type "enumerate", data := .fields #[.none, .bool false, .ref s.heap.objs.size, rawInt 0, .none, .none] }) (s.heap.objs.size + 1) s.heap.objs.size 0 .none := by
    have := Heap.get?_push_size (s.heap.push { cls := .type "tuple_iterator", data := .fields #[.ref l, .int 0 0] })
      (o := { cls := .type "enumerate", data := .fields #[.none, .bool false, .ref s.heap.objs.size, rawInt 0, .none, .none] }) rfl
    rw [hz] at this; exact this
  refine ⟨⟨_, he, rfl⟩, h _ he ⟨_, Heap.get?_push_of_some _ (Heap.get?_push_size _ rfl), rfl, rfl⟩ (by rw [Heap.size_push, hz]) fun b o x => Heap.get?_push_of_some _ (Heap.get?_push_of_some _ x)⟩
end
/-- the tuple at a, each item in a new pair -/
def Iet (K : PySem.W.Frag) (a : Addr) : It :=
  ⟨fun i H => ∃ (xs : List V) (x : V), SqT K H a xs ∧ xs[i]? = some x, fun i H v H' => ∃ T x, v = .ref T ∧ H T = none ∧ H' = upd H T (.tup [.int (i : Nat), x]) ∧ ∀ xs, SqT K H a xs → xs[i]? = some x, fun i H => ∃ xs : List V, SqT K H a xs ∧ xs.length ≤ i⟩
theorem turn_enumT {P : Program} {w : World} {K : PySem.W.Frag} {elts : List Expr} {kk : Nat} {tpos : Pos} (a e it : Addr) :
    Turn P w K (.Tuple elts kk tpos) (Iet K a) [e, it] e (fun i h => (∃ old, IsEnum h e it ((i : Nat) : Int) old) ∧ h.IsTupleIter it a i ∧ e ≠ it) where
  mem := by simp
  obj := fun i h st b hb => by
    obtain ⟨⟨old, he⟩, ⟨o, ho, hc, hd⟩, _⟩ := st
    have e' : b = e ∨ b = it := by simpa using hb
    rcases e' with z | z
    · rw [z]; exact ⟨_, he, fun v q => nomatch q⟩
    · rw [z]; exact ⟨o, ho, fun v q => by rw [hd] at q; cases q⟩
  keep := fun i h h' st k => let ⟨⟨old, he⟩, hi, hne⟩ := st; ⟨⟨old, k e (by simp) _ he⟩, hi.at fun o q => k it (by simp) o q, hne⟩
  item := by
    intro X hP hw hK hc i pins s σ H E I hf st hg
    subst hP hw hK
    obtain ⟨⟨old, he⟩, hit, hne⟩ := st
    obtain ⟨xs, x, hq, hx⟩ := hg
    obtain ⟨its, rv, p, hz⟩ := I.tuple hq
    obtain ⟨u, hu, ru⟩ := rv.get hx
    have hel : e < s.heap.objs.size := Heap.lt_size he
    have hil : it < s.heap.objs.size := by obtain ⟨_, q, _⟩ := hit; exact Heap.lt_size q
    have hat : s.heap.IsTuple a its.toArray := p
    have hae : a ≠ e := fun z => by
      obtain ⟨o, ho, hcl, n, hd⟩ := hat
      have he2 : s.heap.get? e = some _ := he
      rw [z, he2] at ho
      cases ho
      cases hd
    have hai : a ≠ it := fun z => by
      obtain ⟨o, ho, hcl, n, hd⟩ := hat
      obtain ⟨o2, q, _, hd2⟩ := hit
      rw [z, q] at ho
      cases ho
      rw [hd2] at hd
      cases hd
    have hlt : i < its.toArray.size := by
      have := (List.getElem?_eq_some_iff.mp hu).1
      simpa using this
    have hef : e ∉ [it, a] := by
      simp only [List.mem_cons, List.not_mem_nil, or_false, not_or]
      exact ⟨hne, hae.symm⟩
    refine wpAny_pyNext_enum_itemD (Draws.tuple (by have := I.ok.hd hc; simpa using this) it a hai its.toArray) he ⟨hit, hat⟩ hlt hne hef fun x2 h' tk hP ho hst hT hsz hk => ?_
    obtain rfl : u = x2 := by
      have : its.toArray[i]? = some u := by simpa using hu
      rw [this] at hP
      exact Option.some.inj hP
    refine ⟨_, rfl, wpAny_letOwnedTupleGo_enum (s := { s with heap := h', toks := tk + 1 }) ho fun h'' he' sb => ?_⟩
    have hT2 : h''.get? s.heap.objs.size = some { cls := .type "tuple", data := .seq #[.int i tk, u] } := (sb.2 _ (Nat.ne_of_gt hel)).trans hT
    have new : ObjOk X.prog X.w (upd H s.heap.objs.size (.tup [.int (i : Nat), x])) h'' s.heap.objs.size (.tup [.int (i : Nat), x]) :=
      ⟨by show 2 ≤ sizeLine; decide, [.int i tk, u], .cons ⟨_, rfl⟩ (.cons ru .nil), ⟨_, hT2, rfl, _, rfl⟩⟩
    have I1 : Inv X pins σ (upd H s.heap.objs.size (.tup [.int (i : Nat), x])) { s with heap := h'', toks := tk + 1 } :=
      I.turnedNew (ch := [e, it]) (fun b ob hb q => (sb.2 b (fun z => hb (by simp [z]))).trans (hk b ob (fun z => hb (by simp [z])) (fun z => hb (by simp [z])) q)) hf (Nat.le_refl _) new
    refine ⟨.ref s.heap.objs.size, _, I1, rfl, ⟨_, x, rfl, I.hok.fresh (Nat.le_refl _), rfl, fun ys hy => by rw [I.tuple_inj hy hq]; exact hx⟩, ⟨⟨u, ?_⟩, hst.1.at fun o q => (sb.2 it (Ne.symm hne)).trans q, hne⟩, fun b hb => ?_⟩
    · have e1 : ((i + 1 : Nat) : Int) = (i : Int) + 1 := by omega
      rw [e1]; exact he'
    · have hb' : b < s.heap.objs.size := by
        have e' : b = e ∨ b = it := by simpa using hb
        rcases e' with z | z
        · rw [z]; exact hel
        · rw [z]; exact hil
      rw [upd_ne (Nat.ne_of_lt hb')]
      exact (hf b hb).1
  done := by
    intro X hP hw hK hc i pins s σ H E I hf st hg
    subst hP hw hK
    obtain ⟨⟨old, he⟩, hit, hne⟩ := st
    obtain ⟨xs, hq, hx⟩ := hg
    obtain ⟨its, rv, p, hz⟩ := I.tuple hq
    obtain ⟨f0, f1, f2, f3, f4, f5⟩ := hf it (by simp)
    have hl := rv.length
    have hat : s.heap.IsTuple a its.toArray := p
    have hai : a ≠ it := fun z => by
      obtain ⟨o, ho, hcl, n, hd⟩ := hat
      obtain ⟨o2, q, _, hd2⟩ := hit
      rw [z, q] at ho
      cases ho
      rw [hd2] at hd
      cases hd
    unfold pyNext
    have hT : s.TypeIs (.ref e) "enumerate" := ⟨_, he, rfl⟩
    refine wpAny_bind (wpAny_attempt (wpAny_callSpecial?_slot (name := Str.ofString "__next__") hT F.slot_enumerate_next
      (wpAny_call_entry F.slot_enumerate_next hT F.entry_enumerate_next ?_ (F.args_enumerate_next_1 _))))
    show wpAny _ _ (field (.ref e) 2 >>= _) _ _ _
    refine wpAny_bind (wpAny_field he rfl (x := .ref it) rfl ?_)
    refine wpAny_bind (wpAny_nextOf_tuple_end (I.ok.hd hc) hit hat (by simp; omega) fun h' x he' hx' => ?_)
    obtain ⟨o, ho, hcc⟩ := hx'
    refine wpAny_bind (wpAny_isInstance (T := "StopIteration") (b := true) ⟨o, ho, hcc⟩ isSubtype_stop ?_)
    exact wpAny_pure ⟨rfl, I.turned (t' := s.toks) (fun b o hb q => he' b o hb q) f0 f1 f3 f4 f5⟩
  self := fun A i s Q E st h => let ⟨⟨_, he⟩, _⟩ := st; wpAny_pyIter_enum he h
def iEnumT (K : PySem.W.Frag) (ta : TA) : TI := fun σ H R => ta σ H fun vs H1 => ∃ a xs, vs = [.ref a] ∧ SqT K H1 a xs ∧ R (Iet K a) H1
theorem pi_enumT {X : Cx} (K : PySem.W.Frag) {e : Expr} {ta : TA} {p pos tpos : Pos} {elts : List Expr} {kk : Nat} (hg : Gl X "enumerate") (hm : X.mg "enumerate" = none) (ha : PA X [e] ta) (hs : starEach [e] X.env = [(false, eval e X.env)] := by rfl) (hK : X.K = K := by rfl) :
    PI X (.Tuple elts kk tpos) (.Call (.Name "enumerate" p) [e] [] pos) (iEnumT K ta) := by
  subst hK
  refine ⟨fun pins s σ H R I h => ?_⟩
  refine Call_ (ld_blt I hg hm boot_enumerate (PyProof.Rows.callWith_type1 (thn (ha.run pos pins s σ H _ I h) fun us s1 ⟨vs, H1, I1, r1, q1⟩ => ?_) hs rfl))
  obtain ⟨a, xs, ex, hq, q⟩ := q1
  subst ex
  cases r1 with
  | cons r rr =>
    cases rr
    cases r
    obtain ⟨its, rv, p', hz⟩ := I1.tuple hq
    refine call_enumerate_tuple (show s1.heap.IsTuple a its.toArray from p') fun h' he hit hsz hk => wpAny_pyIter_enum he ?_
    have I2 : Inv X pins σ H1 { s1 with heap := h' } := I1.kept (t' := s1.toks) hk
    refine ⟨s1.heap.objs.size + 1, [s1.heap.objs.size + 1, s1.heap.objs.size], _, _, H1, rfl, I2, turn_enumT a (s1.heap.objs.size + 1) s1.heap.objs.size, ⟨⟨.none, he⟩, hit, Nat.succ_ne_self _⟩, fun b hb => ?_, q⟩
    have e' : b = s1.heap.objs.size + 1 ∨ b = s1.heap.objs.size := by simpa using hb
    have hle : s1.heap.objs.size ≤ b := by
      rcases e' with z | z
      · rw [z]; exact Nat.le_add_right _ _
      · rw [z]; exact Nat.le_refl _
    exact I1.fpOk hle (I1.hok.fresh hle)
end Ext
set_option Elab.async false
set_option linter.all false
set_option maxRecDepth 100000
set_option maxHeartbeats 4000000
/-! sum(tuple of ints); == of two tuples of the very same items. -/
namespace Ext
open PySem PySem.Spec PyProof.Rows L2 Com
section
variable {prog : Program} {w : World} {A : Around} {E : Value → Shared → Prop} {s : Shared} {l : Addr} {xs : Array (Int × Tok)}
theorem sum_rawT {its : List Value} {ns : List Int} {Q : Value → Shared → Prop} (hh : A.handled = none) (hl : s.heap.IsTuple l its.toArray) (hi : IntsAre its ns)
    (h : ∀ h' tk t', (∀ b o, s.heap.get? b = some o → h'.get? b = some o) → Q (.int ns.sum t') { s with heap := h', toks := tk }) : wpAny (model prog w) A (call (.builtin "sum") [.ref l]) Q E s := by
  obtain ⟨xs, e⟩ := hi.allInts.items
  have hn : numsOf (intItems xs).toList = ns := by rw [← e]; exact hi.numsOf
  rw [nums_intItems] at hn
  rw [e] at hl
  have hlt : l < s.heap.objs.size := by obtain ⟨_, q, _⟩ := hl; exact Heap.lt_size q
  refine call_sum_walkG (wpAny_pyIter_tuple hl ?_)
  refine ⟨_, _, _, _, _, _, numAt xs, rfl, Walks.tuple (A := A.in1) hh s.heap.objs.size l (Nat.ne_of_lt hlt) (intItems xs), ⟨⟨_, Heap.get?_push_size _ rfl, rfl, rfl⟩, hl.push _⟩, (fun b hb => ?_), (fun _ _ => intItems_at), fun h' tk t' hk => ?_⟩
  · show b < (s.heap.push _).objs.size
    rw [Heap.size_push]
    rcases List.mem_cons.mp hb with rfl | hb
    · exact Nat.lt_succ_self _
    · rw [List.mem_singleton.mp hb]
      exact Nat.lt_succ_of_lt hlt
  · have := h h' tk t' fun b o q => hk b o (fun hm => by
      rw [List.mem_singleton.mp hm] at q
      exact absurd (Heap.lt_size q) (Nat.lt_irrefl _)) (Heap.get?_push_of_some _ q)
    have e2 : preSum (numAt xs) (intItems xs).size = ns.sum := by
      rw [preSum_eq, List.take_of_length_le (by simp [intItems]), hn]
    rw [e2]
    exact this
end
def rSumT (K : PySem.W.Frag) : List V → Hp → VK → Prop := fun vs H Q => ∃ (a : Addr) (ns : List Int), vs = [V.ref a] ∧ SqT K H a (ns.map V.int) ∧ Q (.int ns.sum) H
theorem cr_sumT {X : Cx} (K : PySem.W.Frag) (hc : X.calm = true := by rfl) (hK : X.K = K := by rfl) : CallR X (.builtin "sum") (rSumT K) := by
  subst hK
  intro pins s σ H vs us Q I r h
  obtain ⟨a, ns, rfl, hs, q⟩ := h
  obtain ⟨its, rv, hl, _⟩ := I.tuple hs
  rw [Vals.ref1 r]
  exact sum_rawT (I.ok.hd hc) (show s.heap.IsTuple a its.toArray from hl) rv.ints fun h' tk t' hk => ⟨.int _, H, I.kept hk, ⟨_, rfl⟩, q⟩
/-- each item a scalar or an object: two tuples of these very items are equal -/
def sameOk (x : V) : Bool := match x with
  | .ref _ => true
  | x => flatB x
def rEqTS (K : PySem.W.Frag) : R2 := fun x y H Q => ∃ a b xs, x = .ref a ∧ y = .ref b ∧ SqT K H a xs ∧ SqT K H b xs ∧ xs.all sameOk = true ∧ Q (.bl true) H
theorem same_at {A : Around} {s : Shared} {x : V} {v u : Value} (rv : RelV x v) (ru : RelV x u) (h : sameOk x = true) : SeqAt.EqAt A s v u true := by
  cases x with
  | ref a =>
    cases (show v = Value.ref a from rv)
    cases (show u = Value.ref a from ru)
    exact SeqAt.EqAt.same _
  | non => exact eqAt_same rv ru h
  | bl _ => exact eqAt_same rv ru h
  | int _ => exact eqAt_same rv ru h
  | str _ => exact eqAt_same rv ru h
  | byt _ => exact eqAt_same rv ru h
  | flt _ => exact eqAt_same rv ru h
  | ty _ => exact eqAt_same rv ru h
theorem vals_at : ∀ {xs : List V} {us ws : List Value}, Vals xs us → Vals xs ws → xs.all sameOk = true → ∀ (A : Around) (s : Shared) (j : Nat) (h1 : j < us.length) (h2 : j < ws.length), SeqAt.EqAt A s us[j] ws[j] true
  | _, _, _, .nil, .nil, _, _, _, j, h1, _ => absurd h1 (Nat.not_lt_zero j)
  | x :: xs, _, _, .cons r t, .cons r' t', h, A, s, 0, _, _ => by
    rw [List.all_cons, Bool.and_eq_true] at h
    exact same_at r r' h.1
  | x :: xs, _, _, .cons r t, .cons r' t', h, A, s, j + 1, h1, h2 => by
    rw [List.all_cons, Bool.and_eq_true] at h
    exact vals_at t t' h.2 A s j (Nat.lt_of_succ_lt_succ h1) (Nat.lt_of_succ_lt_succ h2)
theorem eqTS {X : Cx} (K : PySem.W.Frag) (hu : X.A.units + 64 < cLine) (hK : X.K = K := by rfl) : OpR X (compareOp .Eq) (rEqTS K) := by
  subst hK
  intro pins s σ H x y v u Q I rx ry h
  obtain ⟨a, b, xs, rfl, rfl, ha, hb, hall, q⟩ := h
  cases (show v = Value.ref a from rx)
  cases (show u = Value.ref b from ry)
  obtain ⟨us, r1, p1, _⟩ := I.tuple ha
  obtain ⟨ws, r2, p2, _⟩ := I.tuple hb
  refine SeqAt.eq_tupleAt (e := fun _ => true) (show s.heap.IsTuple a us.toArray from p1) (show s.heap.IsTuple b ws.toArray from p2) (by omega) (fun j h1 h2 => ?_) ?_
  · have := vals_at r1 r2 hall X.A.in1 s j (by simpa using h1) (by simpa using h2)
    simpa using this
  · have e : ((List.range (min us.toArray.size ws.toArray.size)).all (fun _ => true) && us.toArray.size == ws.toArray.size) = true := by simp [← r1.length, ← r2.length]
    rw [e]
    exact ⟨.bl true, H, I, rfl, q⟩
end Ext
set_option Elab.async false
set_option linter.all false
set_option maxRecDepth 100000
set_option maxHeartbeats 4000000
/-! Pairs, loads, standings in the heap; sorted lists of pairs. -/
namespace StV
open PySem PySem.Spec PyProof.Rows L2 Com Sd
/-! ### pairs -/
def kOf (H : Hp) (v : V) : Int × Int := match v with
  | .ref a => match H a with
    | some (.tup [.int i, .int j]) => (i, j)
    | _ => (0, 0)
  | _ => (0, 0)
def PairV (H : Hp) (v : V) (p : Int × Int) : Prop := ∃ a, v = .ref a ∧ H a = some (.tup [.int p.1, .int p.2])
theorem PairV.k {H : Hp} {v : V} {p : Int × Int} (h : PairV H v p) : kOf H v = p := by
  obtain ⟨a, rfl, e⟩ := h
  show (match H a with | some (.tup [.int i, .int j]) => (i, j) | _ => (0, 0)) = p
  rw [e]
theorem pairsV_map {H : Hp} : ∀ {vs : List V} {ps : List PP}, PairsV H vs ps → ps = vs.map (kOf H)
  | _, _, .nil => rfl
  | _, _, .cons h t => by rw [List.map_cons, ← pairsV_map t, PairV.k h]
theorem pairsV_mem {H : Hp} : ∀ {vs : List V} {ps : List PP}, PairsV H vs ps → ∀ v ∈ vs, PairV H v (kOf H v)
  | _, _, .nil, v, hv => nomatch hv
  | _, _, .cons h t, v, hv => by
    rcases List.mem_cons.mp hv with e | e
    · subst e
      have := PairV.k h
      rw [this]
      exact h
    · exact pairsV_mem t v e
theorem pairsV_of {H : Hp} : ∀ {vs : List V}, (∀ v ∈ vs, PairV H v (kOf H v)) → PairsV H vs (vs.map (kOf H))
  | [], _ => .nil
  | v :: vs, h => .cons (h v (List.mem_cons_self ..)) (pairsV_of fun u hu => h u (List.mem_cons_of_mem _ hu))
theorem pairsV_perm {H : Hp} {vs us : List V} {ps : List PP} (h : PairsV H vs ps) (g : us.Perm vs) : ∃ qs : List PP, qs.Perm ps ∧ PairsV H us qs := by
  refine ⟨us.map (kOf H), ?_, pairsV_of fun v hv => pairsV_mem h v (g.mem_iff.mp hv)⟩
  rw [pairsV_map h]
  exact g.map _
theorem paired_get {α β : Type} {F : α → β → Prop} : ∀ {xs : List α} {ys : List β}, Paired F xs ys → ∀ {i : Nat} {x : α}, xs[i]? = some x → ∃ y, ys[i]? = some y ∧ F x y
  | _, _, .nil, i, x, h => by simp at h
  | _, _, .cons (a := a) (b := b) r t, 0, x, h => by
    cases h
    exact ⟨_, rfl, r⟩
  | _, _, .cons r t, i + 1, x, h => by
    obtain ⟨y, hy, f⟩ := paired_get t (i := i) (x := x) h
    exact ⟨y, hy, f⟩
theorem paired_get' {α β : Type} {F : α → β → Prop} : ∀ {xs : List α} {ys : List β}, Paired F xs ys → ∀ {i : Nat} {y : β}, ys[i]? = some y → ∃ x, xs[i]? = some x ∧ F x y
  | _, _, .nil, i, x, h => by simp at h
  | _, _, .cons r t, 0, x, h => by
    cases h
    exact ⟨_, rfl, r⟩
  | _, _, .cons r t, i + 1, x, h => by
    obtain ⟨y, hy, f⟩ := paired_get' t (i := i) (y := x) h
    exact ⟨y, hy, f⟩
theorem paired_set {α β : Type} {F : α → β → Prop} {x : α} {y : β} (f : F x y) : ∀ {xs : List α} {ys : List β} {i : Nat}, Paired F xs ys → Paired F (xs.set i x) (ys.set i y)
  | _, _, _, .nil => .nil
  | _, _, 0, .cons r t => .cons f t
  | _, _, i + 1, .cons r t => .cons r (paired_set f t)
theorem paired_imp {α β : Type} {F G : α → β → Prop} (h : ∀ x y, F x y → G x y) : ∀ {xs : List α} {ys : List β}, Paired F xs ys → Paired G xs ys
  | _, _, .nil => .nil
  | _, _, .cons r t => .cons (h _ _ r) (paired_imp h t)
theorem paired_app {α β : Type} {F : α → β → Prop} {us : List α} {ws : List β} (g : Paired F us ws) : ∀ {xs : List α} {ys : List β}, Paired F xs ys → Paired F (xs ++ us) (ys ++ ws)
  | _, _, .nil => g
  | _, _, .cons r t => .cons r (paired_app g t)
theorem paired_rep {α β : Type} {F : α → β → Prop} {x : α} {y : β} (f : F x y) : ∀ n : Nat, Paired F (List.replicate n x) (List.replicate n y)
  | 0 => .nil
  | n + 1 => .cons f (paired_rep f n)
/-! ### loads, standings -/
def LoadV (H : Hp) (v : V) (L : List PP) : Prop := ∃ b us, v = .ref b ∧ H b = some (.tup us) ∧ PairsV H us L
def LoadsV (H : Hp) : List V → List (List PP) → Prop := Paired (LoadV H)
def StaV (H : Hp) (v : V) (S : List (List PP)) : Prop := ∃ a us, v = .ref a ∧ H a = some (.tup us) ∧ LoadsV H us S
theorem PairV.same {H H' : Hp} (s : Same H H') {v : V} {p : PP} (h : PairV H v p) : PairV H' v p := let ⟨a, e, x⟩ := h; ⟨a, e, s _ _ x⟩
theorem LoadV.same {H H' : Hp} (s : Same H H') {v : V} {L : List PP} (h : LoadV H v L) : LoadV H' v L := let ⟨b, us, e, x, p⟩ := h; ⟨b, us, e, s _ _ x, PairsV.same s p⟩
theorem LoadsV.same {H H' : Hp} (s : Same H H') {vs : List V} {S : List (List PP)} (h : LoadsV H vs S) : LoadsV H' vs S := paired_imp (fun _ _ x => LoadV.same s x) h
theorem StaV.same {H H' : Hp} (s : Same H H') {v : V} {S : List (List PP)} (h : StaV H v S) : StaV H' v S := let ⟨a, us, e, x, p⟩ := h; ⟨a, us, e, s _ _ x, LoadsV.same s p⟩
/-- tuples stay -/
def TupS (H H' : Hp) : Prop := ∀ b xs, H b = some (.tup xs) → H' b = some (.tup xs)
theorem TupS.of {H H' : Hp} (s : Same H H') : TupS H H' := fun b xs e => s b _ e
theorem TupS.trans {H H1 H2 : Hp} (s : TupS H H1) (t : TupS H1 H2) : TupS H H2 := fun b xs e => t b xs (s b xs e)
theorem PairV.tupS {H H' : Hp} (s : TupS H H') {v : V} {p : PP} (h : PairV H v p) : PairV H' v p := let ⟨a, e, x⟩ := h; ⟨a, e, s _ _ x⟩
theorem LoadV.tupS {H H' : Hp} (s : TupS H H') {v : V} {L : List PP} (h : LoadV H v L) : LoadV H' v L := let ⟨b, us, e, x, p⟩ := h; ⟨b, us, e, s _ _ x, PairsV.mono s p⟩
theorem LoadsV.tupS {H H' : Hp} (s : TupS H H') {vs : List V} {S : List (List PP)} (h : LoadsV H vs S) : LoadsV H' vs S := paired_imp (fun _ _ x => LoadV.tupS s x) h
theorem StaV.tupS {H H' : Hp} (s : TupS H H') {v : V} {S : List (List PP)} (h : StaV H v S) : StaV H' v S := let ⟨a, us, e, x, p⟩ := h; ⟨a, us, e, s _ _ x, LoadsV.tupS s p⟩
theorem TupS.new {H : Hp} {p : Addr} {o : HO} (n : H p = none) : TupS H (upd H p o) := fun b xs e => by rw [upd_ne (ne_of_none e n)]; exact e
theorem TupS.lset {H : Hp} {p : Addr} {o : HO} {ys : List V} (n : H p = some (.lst ys)) : TupS H (upd H p o) := fun b xs e => by
  rw [upd_ne (fun z => by rw [z, n] at e; cases e)]
  exact e
/-! ### as data, for == -/
def dL (L : List PP) : PyData := .tuple (L.map pD)
def dS (S : List (List PP)) : PyData := .tuple (S.map dL)
theorem dp_pairV {K : PySem.W.Frag} {H : Hp} {v : V} {p : PP} (h : PairV H v p) : Dp K H v (pD p) := by
  obtain ⟨a, rfl, e⟩ := h
  exact dp_tI (ds := [_, _]) e
theorem dp_loadV {K : PySem.W.Frag} {H : Hp} {v : V} {L : List PP} (h : LoadV H v L) : Dp K H v (dL L) := by
  obtain ⟨b, us, rfl, e, p⟩ := h
  exact .tup (SqT.of e) p.dp
theorem dp_loadsV {K : PySem.W.Frag} {H : Hp} : ∀ {vs : List V} {S : List (List PP)}, LoadsV H vs S → DpAll K H vs (S.map dL)
  | _, _, .nil => .nil
  | _, _, .cons h t => .cons (dp_loadV h) (dp_loadsV t)
theorem dp_staV {K : PySem.W.Frag} {H : Hp} {v : V} {S : List (List PP)} (h : StaV H v S) : Dp K H v (dS S) := by
  obtain ⟨b, us, rfl, e, p⟩ := h
  exact .tup (SqT.of e) (dp_loadsV p)
theorem eqv_dL (L M : List PP) : PyData.eqv (dL L) (dL M) = decide (L = M) := by
  show PyData.eqv (.tuple _) (.tuple _) = _
  rw [PyData.eqv]
  exact eqvAll_pairs L M
theorem eqvAll_loads : ∀ S T : List (List PP), PyData.eqvAll (S.map dL) (T.map dL) = decide (S = T)
  | [], [] => rfl
  | [], e :: es => by simp [PyData.eqvAll]
  | d :: ds, [] => by simp [PyData.eqvAll]
  | d :: ds, e :: es => by
    rw [List.map_cons, List.map_cons, PyData.eqvAll, eqvAll_loads ds es, eqv_dL]
    by_cases h : d = e
    · subst h
      by_cases h2 : ds = es
      · subst h2; simp
      · simp [h2]
    · simp [h]
theorem eqv_dS (S T : List (List PP)) : PyData.eqv (dS S) (dS T) = decide (S = T) := by
  show PyData.eqv (.tuple _) (.tuple _) = _
  rw [PyData.eqv]
  exact eqvAll_loads S T
theorem lay_dL (L : List PP) : PyData.canLay0 (dL L) = true := by
  show PyData.canLay0 (.tuple _) = true
  rw [PyData.canLay0, lay_pairs]
theorem depth_dL (L : List PP) : PyData.depth (dL L) ≤ 2 := by
  have := depth_pairs L
  show PyData.depth (.tuple _) ≤ 2
  rw [PyData.depth]
  omega
theorem lay_loads : ∀ S : List (List PP), PyData.canLayAll0 (S.map dL) = true
  | [] => rfl
  | d :: ds => by rw [List.map_cons, PyData.canLayAll0, lay_loads ds, lay_dL]; rfl
theorem depth_loads : ∀ S : List (List PP), PyData.depthAll (S.map dL) ≤ 2
  | [] => by rw [List.map_nil, PyData.depthAll]; omega
  | d :: ds => by
    have := depth_loads ds
    have := depth_dL d
    rw [List.map_cons, PyData.depthAll]
    omega
theorem shaped_dL (L : List PP) : SeqAt.shaped (dL L) = true := by
  have h := depth_dL L
  show (PyData.canLay0 (dL L) && decide (PyData.depth (dL L) ≤ 64)) = true
  rw [lay_dL, Bool.true_and]
  exact decide_eq_true (by omega)
theorem shaped_dS (S : List (List PP)) : SeqAt.shaped (dS S) = true := by
  have h := depth_loads S
  show (PyData.canLay0 (.tuple _) && decide (PyData.depth (.tuple _) ≤ 64)) = true
  rw [PyData.canLay0, lay_loads, PyData.depth, Bool.true_and]
  exact decide_eq_true (by omega)
theorem shaped_pD (p : PP) : SeqAt.shaped (pD p) = true := shaped_tI _
/-- lists of ints -/
def lI (ds : List Int) : PyData := .list (ds.map .int)
theorem eqv_lI (ds es : List Int) : PyData.eqv (lI ds) (lI es) = decide (ds = es) := by
  show PyData.eqv (.list _) (.list _) = _
  rw [PyData.eqv]
  exact eqvAll_ints ds es
theorem lay_lI (ds : List Int) : PyData.canLay0 (lI ds) = true := by
  show PyData.canLay0 (.list _) = true
  rw [PyData.canLay0, lay_ints]
theorem depth_lI (ds : List Int) : PyData.depth (lI ds) = 1 := by
  show PyData.depth (.list _) = 1
  rw [PyData.depth, depth_ints]
theorem shaped_lI (ds : List Int) : SeqAt.shaped (lI ds) = true := by
  show (PyData.canLay0 (lI ds) && decide (PyData.depth (lI ds) ≤ 64)) = true
  rw [lay_lI, depth_lI]
  rfl
theorem dp_lI {K : PySem.W.Frag} {H : Hp} {a : Addr} {ds : List Int} (h : H a = some (.lst (ds.map V.int))) : Dp K H (.ref a) (lI ds) := .lst (SqL.of h) (dpAll_ints ds)
/-- a list of two lists of ints -/
def lII (ds es : List Int) : PyData := .list [lI ds, lI es]
theorem eqv_lII (ds es ds' es' : List Int) : PyData.eqv (lII ds es) (lII ds' es') = (decide (ds = ds') && decide (es = es')) := by
  show PyData.eqv (.list _) (.list _) = _
  rw [PyData.eqv, PyData.eqvAll, PyData.eqvAll, PyData.eqvAll, eqv_lI, eqv_lI]
  simp
theorem shaped_lII (ds es : List Int) : SeqAt.shaped (lII ds es) = true := by
  show (PyData.canLay0 (.list _) && decide (PyData.depth (.list _) ≤ 64)) = true
  rw [PyData.canLay0, PyData.canLayAll0, PyData.canLayAll0, PyData.canLayAll0, lay_lI, lay_lI, PyData.depth, PyData.depthAll, PyData.depthAll, PyData.depthAll, depth_lI, depth_lI]
  rfl
theorem dp_lII {K : PySem.W.Frag} {H : Hp} {a b c : Addr} {ds es : List Int} (h : H a = some (.lst [.ref b, .ref c])) (hb : H b = some (.lst (ds.map V.int))) (hc : H c = some (.lst (es.map V.int))) : Dp K H (.ref a) (lII ds es) :=
  .lst (SqL.of h) (.cons (dp_lI hb) (.cons (dp_lI hc) .nil))
/-! ### sorted(a list of pairs) -/
def rSrtP (K : PySem.W.Frag) : List V → Hp → VK → Prop := fun xs H Q => ∃ (a : Addr) (vs : List V) (ps : List PP), xs = [V.ref a] ∧ SqL K H a vs ∧ PairsV H vs ps ∧
  ∀ us p, PairsV H us (srt ps) → H p = none → Q (.ref p) (upd H p (.lst us))
theorem cr_srtP {X : Cx} (K : PySem.W.Frag) (hK : X.K = K := by rfl) : CallR X (.builtin "sorted") (rSrtP K) := by
  subst hK
  intro pins s σ H vs us Q I r h
  obtain ⟨a, xs, ps, e, hs, hp, q⟩ := h
  refine cr_sortedPO pins s σ H vs us Q I r ⟨a, xs, kOf H, e, hs, fun x hx => pairsV_mem hp x hx, fun ys p h1 h2 hn => ?_⟩
  refine q ys p ?_ hn
  have pm := h2.perm
  have e1 : srt ps = ys.map (kOf H) := by
    refine (srt_uniq ?_ ?_).symm
    · rw [pairsV_map hp]
      exact pm.map _
    · rw [List.pairwise_map]
      refine h1.imp fun {a b} z => ?_
      have := SrtO.lexB_no.mp z
      rw [leP_iff]
      omega
  rw [e1]
  exact pairsV_of fun v hv => pairsV_mem hp v (pm.mem_iff.mp hv)
end StV
set_option Elab.async false
set_option linter.all false
set_option maxRecDepth 100000
set_option maxHeartbeats 4000000
/-! An own exception over ValueError, its __init__: super().__init__(text); self.field = field. -/
namespace PySem
namespace Exo
open PySem.W PySem.Calls PyProof.Rows PySem.HandSPX
def iA (p1 p2 : Pos) : Arguments := { posonlyargs := [], args := [{ arg := "self", annotation := none, pos := p1 }, { arg := "field", annotation := none, pos := p2 }], vararg := none, kwonlyargs := [], kw_defaults := [], kwarg := none, defaults := [] }
abbrev sCall (msg : Str) (q1 q2 q3 q4 q5 : Pos) : Expr := .Call (.Attribute (.Call (.Name "super" q1) [] [] q2) "__init__" q3) [.Constant (.str msg) 0 q4] [] q5
def iB (msg : Str) (q1 q2 q3 q4 q5 q6 q7 q8 q9 q10 : Pos) : List Stmt :=
  [.Expr (sCall msg q1 q2 q3 q4 q5) q6, .Assign [.Attribute (.Name "self" q7) "field" q8] (.Name "field" q9) q10]
def iS : Scope := { kind := .function, names := [(PySem.Str.ofString "self", .local), (PySem.Str.ofString "field", .local), (PySem.Str.ofString "__class__", .free), (PySem.Str.ofString "super", .globalImplicit)], isGenerator := false, isCoroutine := false, more := [] }
/-- how the call of the bound __init__ is read -/
def Reads (msg : Str) (q1 q2 q3 q4 q5 : Pos) (env : Env) : Prop := ∃ pl : Sem Bool, eval (sCall msg q1 q2 q3 q4 q5) env = (do
  let ov ← attributeBase (.Call (.Name "super" q1) [] [] q2) "__init__" env (eval (.Call (.Name "super" q1) [] [] q2) env)
  standAt q3.atName
  let (f, first) ← holding [ov] (getMethod ov "__init__" pl)
  callWith q5 f first (backTo q5 (starEach [.Constant (.str msg) 0 q4] env)) [])
/-- what the written part says of the class x, at C, and of its __init__, at fI -/
structure Txt (prog : Program) (K : Frag) (mg : Str → Option Value) (x : Str) (C fI : Addr) : Prop where
  gC : mg x = some (.ref C)
  gS : mg "super" = none
  cls : ∃ nm q N bs bm sn sub ab col dd k0 k1 k2 k3 k5, K.lookup C = some (excClassObj nm q C N bs bm true sn sub ab col dd k0 k1 k2 k3 k5 "ValueError.__new__") ∧ refsVE bm = true
  sup : ks_superIn K C C "__init__" = some (some (.builtin "ValueError.__init__"))
  sVE : subIn K (.ref C) (.type "ValueError") = some true
  own : mroIn K C (.ref C) = some true
  op : nsIn K cStatics "thirdparty.any" = some none
  sa : findIn K (.ref C) "__setattr__" = some (some (.builtin "object.__setattr__"))
  ga : findIn K (.ref C) "__getattribute__" = some (some (.builtin "BaseException.__getattribute__"))
  gg : findIn K (.ref C) "__getattr__" = some none
  noN : findIn K (.ref C) "field" = some none
  iC : findIn K (.ref C) "__init__" = some (some (.ref fI))
  tC : typeIn K (.ref fI) = some (.type "function")
  kC : keepIn K (.ref C) = true
  exC : subIn K (.ref C) (.type "BaseException") = some true
  tyC : typeIn K (.ref C) = some (.type "type")
  hdC : hasDictIn K C = true
  te : exmOne K (.ref C) (.ref C) = some true
  top : (prog.main.scope.names.lookup ("super" : Str)).isSome = false
  fn : ∃ (oc : Value) (od : Option Addr) (doc pm : Value) (an : Option Addr) (ct : Value) (osl : Array (Option Value)) (cda cc : Addr) (qual : Str) (p1 p2 : Pos) (msg : Str) (q1 q2 q3 q4 q5 q6 q7 q8 q9 q10 : Pos)
      (cl : Value) (cld : Option Addr) (csl : Array (Option Value)) (ccl : Value) (cdd : Option Addr) (vs : Array Value) (ccs : Array (Option Value)) (file : Str) (tf : Tok),
    K.lookup fI = some ⟨oc, od, .func (ksFn "__init__" qual (iA p1 p2) (iB msg q1 q2 q3 q4 q5 q6 q7 q8 q9 q10) iS .none .none doc pm an (.ref cda) ct cc), osl⟩ ∧ codeIn K (.ref cda) qual = true ∧
    K.lookup cc = some ⟨cl, cld, .cell (some (.ref C)), csl⟩ ∧ K.lookup cda = some ⟨ccl, cdd, .fields vs, ccs⟩ ∧ vs[2]? = some (.str file tf) ∧ ((prog.main.file : Str) == file) = true ∧ (∀ L : Addr, Reads msg q1 q2 q3 q4 q5 (ksEnv qual iS L fI (.ref cda) cc))
theorem kept_but {K : Frag} {h h' : Heap} {x : Addr} (X : K.In h) (hx : K.lookup x = none) (k : ∀ b o, b ≠ x → h.get? b = some o → h'.get? b = some o) : K.In h' := fun a o e =>
  k a o (fun z => by rw [z, hx] at e; cases e) (X a o e)
theorem one_size (v : Value) : [v].length ≤ sizeLine := by
  rw [sizeLine_eq]
  exact (by decide : 1 ≤ 16777216)
/-- what __init__ leaves of a fresh exception at x -/
structure InitEnd (h h' : Heap) (x C dx t1 : Addr) (v : Value) : Prop where
  keep : ∀ b o, b ≠ x → h.get? b = some o → h'.get? b = some o
  obj : h'.get? x = some { cls := .ref C, dict := some dx, data := .fields #[.ref t1, .none, .none, .none, .bool false, .none] }
  dbig : h.objs.size ≤ dx
  dne : dx ≠ x
  ns : h'.Ns1 dx (fun y => if y = "field" then some v else none)
/-- a made one -/
structure OwnMade (h h' : Heap) (e C d : Addr) (v : Value) : Prop where
  keep : ∀ b o, h.get? b = some o → h'.get? b = some o
  new : h.objs.size ≤ e
  obj : ∃ oe vs, h'.get? e = some oe ∧ oe.cls = .ref C ∧ oe.dict = some d ∧ oe.data = .fields vs ∧ vs[1]? = some .none
  dbig : h.objs.size ≤ d
  dne : d ≠ e
  ns : h'.Ns1 d (fun y => if y = "field" then some v else none)
section
variable {M : Model} {prog : Program} {w : World} {A : Around} {E : Value → Shared → Prop} {h : Heap} {g : Array GenState} {d : Drawn} {t : Nat} {os : OsState}
variable {nm q : Str} {C N : Addr} {bs bm : List Value} {hdct : Bool} {sn : List Str} {sub : List Value} {ab : Bool} {col : Option Bool} {dd : Option Addr} {k0 k1 k2 k3 k5 : Option Value}
/-- the bound ValueError.__init__ is called -/
theorem call_mw {u e t0 : Addr} {rest : List Value} {Q : Value → Shared → Prop}
    (hC : h.get? C = some (excClassObj nm q C N bs bm hdct sn sub ab col dd k0 k1 k2 k3 k5 "ValueError.__new__")) (he : h.get? e = some (excO C t0)) (hu : h.get? u = some (kxs_mw "ValueError.__init__" e)) (hrest : rest.length ≤ sizeLine)
    (hq : ∀ h' t1, (∀ b o, b ≠ e → h.get? b = some o → h'.get? b = some o) → h'.get? e = some (excO C t1) → h.objs.size ≤ h'.objs.size → Q .none ⟨h', g, d, t, os⟩) :
    wpAny (model prog w) A (call (.ref u) rest) Q E ⟨h, g, d, t, os⟩ := by
  refine wpAny_call (codeAny_of_tree ?_)
  show wpAny _ A.in1 (callAny (.ref u) ⟨rest, []⟩) _ _ _
  simp only [callAny]
  refine wpAny_bind (wpAny_load hu ?_)
  simp only [kxs_mw, show (Value.type "method-wrapper" == Value.type "method" || Value.type "method-wrapper" == Value.type "builtin_function_or_method" || Value.type "method-wrapper" == Value.type "method-wrapper") = true by decide, if_true]
  refine KFB.if_so (by decide) ?_
  refine wpAny_bind (check_bound_init F.excBase_ValueError.toExcCallFacts hC he rfl ?_)
  refine wpAny_bind (wpAny_pure (wpAny_pure ?_))
  refine ⟨plainId_quiet F.excBase_ValueError.init.plain _, codeAny_builtin F.excBase_ValueError.initEntry ?_⟩
  refine exc_init_tree (cls := .ref C) (t0 := t0) (dv := none) (c2 := .none) (c3 := .none) (b4 := .bool false) he hrest fun h' k hx ht => hq h' h.objs.size k hx (Nat.le_of_lt (Heap.lt_size ht))
end
section
variable {prog : Program} {w : World} {A : Around} {E : Value → Shared → Prop} {R : Result → Shared → Prop} {s : Shared} {K : Frag} {mg : Str → Option Value} {C fI : Addr} {nm : Str}
theorem ldC {M : Model} {s : Shared} {env : Env} {m : Str → Option Value} {x : Str} {pos : Pos} {v : Value} {Q : Value → Shared → Prop} {A : Around} {E : Value → Shared → Prop} (hn : s.heap.Ns env.locals m) (hv : m x = some v) (h : Q v s)
    (hk : env.scope.kind = .function := by rfl) (hl : env.kindOf x = some .local := by rfl) (hd : (x == ("__debug__" : Str)) = false := by decide) : wpAny M A (eval (.Name x pos) env) Q E s := wpAny_Name (wpAny_loadName_local hk hl hn hv h) hd
theorem init (T : Txt prog K mg nm C fI) {x t0 : Addr} {v : Value} {mb : Str → Option Value} (X : K.In s.heap) (hg : s.heap.Ns mainGlobals mg) (hb : s.heap.Ns builtinsNs mb) (hbv : ∀ y : Str, y ≠ "__name__" → mb y = bootBuiltins y)
    (hlim : s.heap.NoLimit) (hx : s.heap.get? x = some (excO C t0)) (hnx : K.lookup x = none) (hroom : A.depth < recursionLimit)
    (hq : ∀ h' tk dx t1, InitEnd s.heap h' x C dx t1 v → R (.ok (.ret .none)) { s with heap := h', toks := tk }) :
    codeAny (model prog w) A (.call (.ref fI) ⟨[.ref x, v], []⟩) R s := by
  obtain ⟨oc, od, doc, pm, an, ct, osl, cda, cc, qual, p1, p2, msg, q1, q2, q3, q4, q5, q6, q7, q8, q9, q10, cl, cld, csl, ccl, cdd, vs, ccs, file, tf, lk, hcd, hcell, hcode, hvs, hfile, hrd⟩ := T.fn
  obtain ⟨pl, hpl⟩ := hrd s.heap.objs.size
  obtain ⟨cn, q, N, bs, bm, sn, sub, ab, col, dd, k0, k1, k2, k3, k5, hC, hbm⟩ := T.cls
  have hcl : clsIn K C = some { name := cn, bases := bs, mro := .ref C :: bm, ns := N, qualname := q, hasDict := true, slotNames := sn, subclasses := sub, abstract := ab, collection := col, hasDel := false } := by unfold clsIn; rw [hC] <;> rfl
  refine ks_codeAny_call_defAt (fd := ksFn "__init__" qual (iA p1 p2) (iB msg q1 q2 q3 q4 q5 q6 q7 q8 q9 q10) iS .none .none doc pm an (.ref cda) ct cc) (body := iB msg q1 q2 q3 q4 q5 q6 q7 q8 q9 q10) (binds := [("self", .ref x), ("field", v)]) hroom (X _ _ lk) rfl hlim (codeRec_of X hcd) rfl
    (BindsTo.of_eq (by first | rfl | with_unfolding_all rfl)) (show ∀ y ∈ iS.names, y.2 ≠ .cell by decide) (by intro y hy; rcases List.mem_cons.mp hy with rfl | hy <;> first | rfl | (rcases List.mem_cons.mp hy with rfl | hy <;> first | rfl | cases hy)) (fun h₁ hns k => ?_) rfl rfl rfl
  have X₁ : K.In h₁ := X.keeps k
  have hx₁ := k _ _ hx
  have hxL : s.heap.objs.size ≠ x := Nat.ne_of_gt (Heap.lt_size hx)
  have hxC : x ≠ C := fun z => by
    have y := X _ _ hC
    rw [← z, hx] at y
    cases y
  show PySem.wpAt (model prog w) _ _ (execs (iB msg q1 q2 q3 q4 q5 q6 q7 q8 q9 q10) (ksEnv qual iS s.heap.objs.size fI (.ref cda) cc)) _ _ _
  refine ks_wpAt_execs_cons (ks_wpAt_Expr_any (ks_wpAt_MethodCall (pl := pl) ?_ hpl))
  refine ks_wpAt_super_base (env := ksEnv qual iS s.heap.objs.size fI (.ref cda) cc) rfl rfl rfl rfl (X₁ _ _ lk) rfl rfl rfl (X₁ _ _ hcode) rfl hvs hfile T.top ?_
  refine ks_loadName_global rfl rfl (loadGlobal_builtin (env := ksEnv qual iS s.heap.objs.size fI (.ref cda) cc) (hg.keeps k) T.gS (hb.keeps k) ((hbv _ (by decide)).trans PyProof.Rows.Boot.«super») ⟨rfl, ?_⟩)
  refine wpAny_loadName_free (env := ksEnv qual iS s.heap.objs.size fI (.ref cda) cc) rfl rfl rfl ⟨_, X₁ _ _ hcell, rfl⟩ ?_
  refine wpAny_loadName_local (env := ksEnv qual iS s.heap.objs.size fI (.ref cda) cc) (v := .ref x) rfl rfl hns (by first | rfl | with_unfolding_all rfl | kernel_rfl) ?_
  refine ks_wpAny_isType_cls (X₁ _ _ hC) rfl ⟨rfl, ?_⟩
  refine ks_wpAny_call_super (X₁ _ _ hC) rfl hx₁ rfl (fun c e => nomatch e) (looks_mroIn X₁ T.own) (fun h₂ hso k₂ => ?_)
  have X₂ : K.In h₂ := X₁.keeps k₂
  have hx₂ := k₂ _ _ hx₁
  have I₂ : InstAt h₂ x (excO C t0) C none := ⟨hx₂, rfl, rfl, trivial⟩
  have hm := T.sup
  unfold ks_superIn at hm
  rw [hcl] at hm
  refine kxs_getMethod kxs_ValueError hso (looks_opaque X₂ T.op) (l₀ := .ref C :: bm) ((looks_clsIn X₂ hcl).andThen .now) rfl X₂ hm (I₂.type.andThen (looks_subIn X₂ T.sVE)) hxC rfl ?_
  have k₁₂ : ∀ b o, h₁.get? b = some o → (h₂.push (kxs_mw "ValueError.__init__" x)).get? b = some o := fun b o e => Heap.get?_push_of_some _ (k₂ b o e)
  have hu : (h₂.push (kxs_mw "ValueError.__init__" x)).get? h₂.objs.size = some (kxs_mw "ValueError.__init__" x) := Heap.get?_push_at rfl rfl
  have sz₂ : s.heap.objs.size ≤ (h₂.push (kxs_mw "ValueError.__init__" x)).objs.size := by
    have a : h₂.objs.size < (h₂.push (kxs_mw "ValueError.__init__" x)).objs.size := Heap.lt_size hu
    have b : h₁.objs.size < h₂.objs.size := Heap.lt_size hso
    have c : s.heap.objs.size < h₁.objs.size := hns.lt
    omega
  generalize h₂.push (kxs_mw "ValueError.__init__" x) = h₂' at k₁₂ hu sz₂ ⊢
  have X₂' : K.In h₂' := X₁.keeps k₁₂
  show wpAny _ _ (callWith q5 (.ref h₂.objs.size) [] (backTo q5 (starEach (.Constant (.str msg) 0 q4 :: []) (ksEnv qual iS s.heap.objs.size fI (.ref cda) cc))) []) _ _ _
  rw [show starEach (.Constant (.str msg) 0 q4 :: []) (ksEnv qual iS s.heap.objs.size fI (.ref cda) cc) = (false, eval (.Constant (.str msg) 0 q4) (ksEnv qual iS s.heap.objs.size fI (.ref cda) cc)) :: starEach [] (ksEnv qual iS s.heap.objs.size fI (.ref cda) cc) from rfl]
  refine kxs_callWith (i := "ValueError.__init__") (x := x) rfl (evalArgs_plain (Calls.spliced_cons (wpAny_Constant_str (env := ksEnv qual iS s.heap.objs.size fI (.ref cda) cc) (x := msg) (k := 0) (pos := q4) (Calls.spliced_nil ⟨hu, ?_⟩))))
  refine call_mw (X₂' _ _ hC) (k₁₂ _ _ hx₁) hu (one_size _) fun h₃ t1 k₃ hx₃ sz₃ => ?_
  have X₃ : K.In h₃ := kept_but X₂' hnx k₃
  have hns₃ : h₃.Ns s.heap.objs.size (fun y => List.lookup y [(PySem.Str.ofString "self", Value.ref x), (PySem.Str.ofString "field", v)].reverse) := by
    obtain ⟨oL, es, ep, hL, r⟩ := hns
    exact ⟨oL, es, ep, k₃ _ _ hxL (k₁₂ _ _ hL), r⟩
  -- self.field = field
  show PySem.wpAt _ _ _ (execs [.Assign [.Attribute (.Name "self" q7) "field" q8] (.Name "field" q9) q10] (ksEnv qual iS s.heap.objs.size fI (.ref cda) cc)) _ _ _
  refine ks_wpAt_execs_cons (wpAt_of_wpAny (plainObj_wpAny_Assign_Attribute ?_))
  refine ldC (env := ksEnv qual iS s.heap.objs.size fI (.ref cda) cc) (v := v) hns₃ (by first | rfl | with_unfolding_all rfl | kernel_rfl) (ldC (env := ksEnv qual iS s.heap.objs.size fI (.ref cda) cc) (v := .ref x) hns₃ (by first | rfl | with_unfolding_all rfl | kernel_rfl) ?_)
  refine set_plain X₃ (ox := excO C t1) (od := none) ⟨hx₃, rfl, rfl, trivial⟩ T.sa ?_
  refine exc_osa X₃ hx₃ hcl (show refsVE (.ref C :: bm) = true from hbm) rfl T.noN (fun h₄ tk₄ dx k₄ dn dne hx₄ hn₄ => ?_)
  refine wpAt_of_wpAny (wpAny_execs_nil (hq h₄ tk₄ dx t1 ⟨fun b o hb e => k₄ b o hb (k₃ b o hb (k₁₂ b o (k b o e))), hx₄, Nat.le_trans sz₂ (Nat.le_trans sz₃ dn), dne, hn₄⟩))
theorem made (T : Txt prog K mg nm C fI) {v : Value} {mb : Str → Option Value} (X : K.In s.heap) (hg : s.heap.Ns mainGlobals mg) (hb : s.heap.Ns builtinsNs mb) (hbv : ∀ y : Str, y ≠ "__name__" → mb y = bootBuiltins y) (hlim : s.heap.NoLimit)
    (hroom : A.depth + 1 < recursionLimit) (hq : ∀ h' tk e d, OwnMade s.heap h' e C d v → R (.ok (.ret (.ref e))) { s with heap := h', toks := tk }) :
    codeAny (model prog w) A (.call (.ref C) ⟨[v], []⟩) R s := by
  obtain ⟨cn, q, N, bs, bm, sn, sub, ab, col, dd, k0, k1, k2, k3, k5, hC, hbm⟩ := T.cls
  obtain ⟨hp, g, dr, tk, os⟩ := s
  have k : ∀ b o, hp.get? b = some o → ((hp.push (kdv_tup [v])).push (excO C hp.objs.size)).get? b = some o := fun b o e => Heap.get?_push_of_some _ (Heap.get?_push_of_some _ e)
  have hget : ((hp.push (kdv_tup [v])).push (excO C hp.objs.size)).get? (hp.objs.size + 1) = some (excO C hp.objs.size) := by heap_get
  have hnx : K.lookup (hp.objs.size + 1) = none := by
    cases e : K.lookup (hp.objs.size + 1) with
    | none => rfl
    | some o =>
      have z : hp.get? (hp.objs.size + 1) = some o := X _ _ e
      exact absurd (Nat.lt_of_succ_lt (Heap.lt_size z)) (Nat.lt_irrefl _)
  refine call_own F.excBase_ValueError (fun X => refsVE_contains X bm hbm) (X _ _ hC) (looks_findIn X T.iC) (fun self => bind_fn X self T.tC) (one_size v) ?_
  refine init (s := ⟨(hp.push (kdv_tup [v])).push (excO C hp.objs.size), g, dr, tk, os⟩) T (X.keeps k) (hg.keeps k) (hb.keeps k) hbv (hlim.keeps k) hget hnx ?_ fun h' tk' dx t1 ⟨k', hx, dn, dne, hns⟩ => ?_
  · show A.depth + 1 < recursionLimit
    exact hroom
  · have old : ∀ b o, hp.get? b = some o → h'.get? b = some o := fun b o e => k' b o (Nat.ne_of_lt (Nat.lt_succ_of_lt (Heap.lt_size e))) (k b o e)
    have z : hp.objs.size + 1 + 1 ≤ dx := by
      first
        | (simpa only [Heap.size_push] using dn)
        | exact dn
        | (have q := dn; rw [Heap.size_push, Heap.size_push] at q; exact q)
    exact ⟨rfl, hq h' tk' (hp.objs.size + 1) dx ⟨old, Nat.le_succ _, ⟨_, _, hx, rfl, rfl, rfl, rfl⟩, Nat.le_trans (Nat.le_trans (Nat.le_succ _) (Nat.le_succ _)) z, dne, hns⟩⟩
end
end Exo
end PySem
namespace Com
open PySem PySem.Spec PyProof.Rows L2
theorem relO_fld {v : V} {v' : Value} (r : RelV v v') (f : Str) : RelO (List.lookup f [(("field" : Str), v)]) (if f = "field" then some v' else none) := by
  by_cases hw : f = "field"
  · subst hw
    rw [if_pos rfl]
    have q : List.lookup ("field" : Str) [(("field" : Str), v)] = some v := by simp [List.lookup]
    rw [q]
    exact r
  · rw [if_neg hw]
    have qw : (f == ("field" : Str)) = false := by simpa using hw
    have q2 : List.lookup f [(("field" : Str), v)] = none := by simp [List.lookup, qw]
    rw [q2]
    trivial
section
variable {X : Cx} {C fI : Addr}
/-- x(e), x an own exception class at C: a new dict of one field -/
def tMkE (C : Addr) (ta : TA) : L2.St → Hp → XK → Prop := fun σ H Q => ta σ H fun vs H1 => ∃ v, vs = [v] ∧ ∀ d, H1 d = none → Q (.ref C) (some d) (upd H1 d (.xd [(("field" : Str), v)]))
theorem pmk_e {x : Str} {a : Expr} {ta : TA} {p pos : Pos} {k : Nat} (T : PySem.Exo.Txt X.prog X.K X.mg x C fI) (hr : Room k X.A) (ha : PA X [a] ta) (hg : Gl X x := by rfl) (hdb : (x == ("__debug__" : Str)) = false := by decide)
    (he : starEach (a :: []) X.env = (false, eval a X.env) :: starEach [] X.env := by rfl) (hpl : (backTo pos (starEach [] X.env)).any (·.1) = false := by rfl) :
    PMk X (.Call (.Name x p) [a] [] pos) (tMkE C ta) := by
  intro pins s σ H Q I h
  refine wpAny_Call_Name_kw (ld_glob I hg T.gC ?_ hdb)
  refine PySem.W.callWith_K (h₀ := X.base) I.ok.mod.kin T.kC (thn (ha.run pos pins s σ H _ I h) fun us s1 hh => ?_) he hpl
  obtain ⟨vs, H1, I1, r1, v, ev, q1⟩ := hh
  subst ev
  refine ⟨I1.kIn, ?_⟩
  cases r1 with
  | cons rv rn =>
    rename_i v' us'
    cases rn
    show wpAny _ _ (call (.ref C) [v']) _ _ _
    have hlim := I1.nolimit
    obtain ⟨mb, hb1, hb2⟩ := I1.mod.blt
    have hbk := hb1.keeps I1.bk
    have hgk := I1.mod.glob.keeps I1.bk
    obtain ⟨hp, g, dr, tk, os⟩ := s1
    refine wpAny_call (PySem.Exo.made T I1.kIn hgk hbk hb2 hlim (by have := hr.dp; omega) fun h' tk' e d M => ?_)
    show MkP X pins σ Q (.ref e) ⟨h', g, dr, tk', os⟩
    obtain ⟨oe, fv, hoe, hc, hd, hdat, h1⟩ := M.obj
    have hns := M.ns
    obtain ⟨G', g1, g2⟩ := restrict h' fun b => decide (b ≠ e)
    have gk : ∀ b, b ≠ e → G'.get? b = h'.get? b := fun b hb => g1 b (decide_eq_true hb)
    have ge : G'.get? e = none := g2 e (by simp)
    have old : ∀ b o, hp.get? b = some o → G'.get? b = some o := fun b o q => (gk b (Nat.ne_of_lt (Nat.lt_of_lt_of_le (Heap.lt_size q) M.new))).trans (M.keep b o q)
    have ob : ObjOk X.prog X.w (upd H1 d (.xd [(("field" : Str), v)])) G' d (.xd [(("field" : Str), v)]) :=
      ⟨_, hns.at (fun o q => (gk d M.dne).trans q), fun f => relO_fld rv f⟩
    have J : Inv X pins σ (upd H1 d (.xd [(("field" : Str), v)])) ⟨G', g, dr, tk', os⟩ := I1.laid (t' := tk') old M.dbig ob
    refine ⟨e, oe, fv, ⟨G', g, dr, tk', os⟩, _, .ref C, some d, rfl, J, fun b o q => ?_, ge, hoe, ⟨hc, hd⟩, hdat, h1, ?_, rfl, I1.bare, raises_own T.exC T.tyC, q1 d (I1.hok.fresh M.dbig)⟩
    · by_cases hb : b = e
      · have q' : G'.get? b = some o := q
        rw [hb, ge] at q'; cases q'
      · exact (gk b hb).symm.trans q
    · rw [upd_ne (Ne.symm M.dne)]
      exact I1.hok.fresh M.new
/-- raise x(e) -/
theorem ps_raiseE {x : Str} {a : Expr} {ta : TA} {W : WX} {p pos pos2 : Pos} {k : Nat} (T : PySem.Exo.Txt X.prog X.K X.mg x C fI) (hr : Room k X.A) (tk : Takes X W) (ha : PA X [a] ta) (hc : X.calm = true := by rfl) (hg : Gl X x := by rfl) (hdb : (x == ("__debug__" : Str)) = false := by decide)
    (he : starEach (a :: []) X.env = (false, eval a X.env) :: starEach [] X.env := by rfl) (hpl : (backTo pos (starEach [] X.env)).any (·.1) = false := by rfl) :
    PS X (.Raise (some (.Call (.Name x p) [a] [] pos)) none pos2) (fun _ σ H => tMkE C ta σ H fun cls d H' => W cls d σ H') := ps_raise hc tk (pmk_e T hr ha hg hdb he hpl)
theorem xf_of {prog : Program} {K : PySem.W.Frag} {mg : Str → Option Value} {x : Str} (T : PySem.Exo.Txt prog K mg x C fI) : XfC K C := ⟨T.ga, T.gg, T.exC, T.hdC⟩
end
end Com
set_option Elab.async false
set_option linter.all false
set_option maxRecDepth 100000
set_option maxHeartbeats 4000000
/-! An own exception over ValueError, its __init__: super().__init__(text); self.field = field. -/
namespace PySem
namespace Exo_thing
open PySem.W PySem.Calls PyProof.Rows PySem.HandSPX
def iA (p1 p2 : Pos) : Arguments := { posonlyargs := [], args := [{ arg := "self", annotation := none, pos := p1 }, { arg := "thing", annotation := none, pos := p2 }], vararg := none, kwonlyargs := [], kw_defaults := [], kwarg := none, defaults := [] }
abbrev sCall (msg : Str) (q1 q2 q3 q4 q5 : Pos) : Expr := .Call (.Attribute (.Call (.Name "super" q1) [] [] q2) "__init__" q3) [.Constant (.str msg) 0 q4] [] q5
def iB (msg : Str) (q1 q2 q3 q4 q5 q6 q7 q8 q9 q10 : Pos) : List Stmt :=
  [.Expr (sCall msg q1 q2 q3 q4 q5) q6, .Assign [.Attribute (.Name "self" q7) "thing" q8] (.Name "thing" q9) q10]
def iS : Scope := { kind := .function, names := [(PySem.Str.ofString "self", .local), (PySem.Str.ofString "thing", .local), (PySem.Str.ofString "__class__", .free), (PySem.Str.ofString "super", .globalImplicit)], isGenerator := false, isCoroutine := false, more := [] }
/-- how the call of the bound __init__ is read -/
def Reads (msg : Str) (q1 q2 q3 q4 q5 : Pos) (env : Env) : Prop := ∃ pl : Sem Bool, eval (sCall msg q1 q2 q3 q4 q5) env = (do
  let ov ← attributeBase (.Call (.Name "super" q1) [] [] q2) "__init__" env (eval (.Call (.Name "super" q1) [] [] q2) env)
  standAt q3.atName
  let (f, first) ← holding [ov] (getMethod ov "__init__" pl)
  callWith q5 f first (backTo q5 (starEach [.Constant (.str msg) 0 q4] env)) [])
/-- what the written part says of the class x, at C, and of its __init__, at fI -/
structure Txt (prog : Program) (K : Frag) (mg : Str → Option Value) (x : Str) (C fI : Addr) : Prop where
  gC : mg x = some (.ref C)
  gS : mg "super" = none
  cls : ∃ nm q N bs bm sn sub ab col dd k0 k1 k2 k3 k5, K.lookup C = some (excClassObj nm q C N bs bm true sn sub ab col dd k0 k1 k2 k3 k5 "ValueError.__new__") ∧ refsVE bm = true
  sup : ks_superIn K C C "__init__" = some (some (.builtin "ValueError.__init__"))
  sVE : subIn K (.ref C) (.type "ValueError") = some true
  own : mroIn K C (.ref C) = some true
  op : nsIn K cStatics "thirdparty.any" = some none
  sa : findIn K (.ref C) "__setattr__" = some (some (.builtin "object.__setattr__"))
  ga : findIn K (.ref C) "__getattribute__" = some (some (.builtin "BaseException.__getattribute__"))
  gg : findIn K (.ref C) "__getattr__" = some none
  noN : findIn K (.ref C) "thing" = some none
  iC : findIn K (.ref C) "__init__" = some (some (.ref fI))
  tC : typeIn K (.ref fI) = some (.type "function")
  kC : keepIn K (.ref C) = true
  exC : subIn K (.ref C) (.type "BaseException") = some true
  tyC : typeIn K (.ref C) = some (.type "type")
  hdC : hasDictIn K C = true
  te : exmOne K (.ref C) (.ref C) = some true
  top : (prog.main.scope.names.lookup ("super" : Str)).isSome = false
  fn : ∃ (oc : Value) (od : Option Addr) (doc pm : Value) (an : Option Addr) (ct : Value) (osl : Array (Option Value)) (cda cc : Addr) (qual : Str) (p1 p2 : Pos) (msg : Str) (q1 q2 q3 q4 q5 q6 q7 q8 q9 q10 : Pos)
      (cl : Value) (cld : Option Addr) (csl : Array (Option Value)) (ccl : Value) (cdd : Option Addr) (vs : Array Value) (ccs : Array (Option Value)) (file : Str) (tf : Tok),
    K.lookup fI = some ⟨oc, od, .func (ksFn "__init__" qual (iA p1 p2) (iB msg q1 q2 q3 q4 q5 q6 q7 q8 q9 q10) iS .none .none doc pm an (.ref cda) ct cc), osl⟩ ∧ codeIn K (.ref cda) qual = true ∧
    K.lookup cc = some ⟨cl, cld, .cell (some (.ref C)), csl⟩ ∧ K.lookup cda = some ⟨ccl, cdd, .fields vs, ccs⟩ ∧ vs[2]? = some (.str file tf) ∧ ((prog.main.file : Str) == file) = true ∧ (∀ L : Addr, Reads msg q1 q2 q3 q4 q5 (ksEnv qual iS L fI (.ref cda) cc))
theorem kept_but {K : Frag} {h h' : Heap} {x : Addr} (X : K.In h) (hx : K.lookup x = none) (k : ∀ b o, b ≠ x → h.get? b = some o → h'.get? b = some o) : K.In h' := fun a o e =>
  k a o (fun z => by rw [z, hx] at e; cases e) (X a o e)
theorem one_size (v : Value) : [v].length ≤ sizeLine := by
  rw [sizeLine_eq]
  exact (by decide : 1 ≤ 16777216)
/-- what __init__ leaves of a fresh exception at x -/
structure InitEnd (h h' : Heap) (x C dx t1 : Addr) (v : Value) : Prop where
  keep : ∀ b o, b ≠ x → h.get? b = some o → h'.get? b = some o
  obj : h'.get? x = some { cls := .ref C, dict := some dx, data := .fields #[.ref t1, .none, .none, .none, .bool false, .none] }
  dbig : h.objs.size ≤ dx
  dne : dx ≠ x
  ns : h'.Ns1 dx (fun y => if y = "thing" then some v else none)
/-- a made one -/
structure OwnMade (h h' : Heap) (e C d : Addr) (v : Value) : Prop where
  keep : ∀ b o, h.get? b = some o → h'.get? b = some o
  new : h.objs.size ≤ e
  obj : ∃ oe vs, h'.get? e = some oe ∧ oe.cls = .ref C ∧ oe.dict = some d ∧ oe.data = .fields vs ∧ vs[1]? = some .none
  dbig : h.objs.size ≤ d
  dne : d ≠ e
  ns : h'.Ns1 d (fun y => if y = "thing" then some v else none)
section
variable {M : Model} {prog : Program} {w : World} {A : Around} {E : Value → Shared → Prop} {h : Heap} {g : Array GenState} {d : Drawn} {t : Nat} {os : OsState}
variable {nm q : Str} {C N : Addr} {bs bm : List Value} {hdct : Bool} {sn : List Str} {sub : List Value} {ab : Bool} {col : Option Bool} {dd : Option Addr} {k0 k1 k2 k3 k5 : Option Value}
/-- the bound ValueError.__init__ is called -/
theorem call_mw {u e t0 : Addr} {rest : List Value} {Q : Value → Shared → Prop}
    (hC : h.get? C = some (excClassObj nm q C N bs bm hdct sn sub ab col dd k0 k1 k2 k3 k5 "ValueError.__new__")) (he : h.get? e = some (excO C t0)) (hu : h.get? u = some (kxs_mw "ValueError.__init__" e)) (hrest : rest.length ≤ sizeLine)
    (hq : ∀ h' t1, (∀ b o, b ≠ e → h.get? b = some o → h'.get? b = some o) → h'.get? e = some (excO C t1) → h.objs.size ≤ h'.objs.size → Q .none ⟨h', g, d, t, os⟩) :
    wpAny (model prog w) A (call (.ref u) rest) Q E ⟨h, g, d, t, os⟩ := by
  refine wpAny_call (codeAny_of_tree ?_)
  show wpAny _ A.in1 (callAny (.ref u) ⟨rest, []⟩) _ _ _
  simp only [callAny]
  refine wpAny_bind (wpAny_load hu ?_)
  simp only [kxs_mw, show (Value.type "method-wrapper" == Value.type "method" || Value.type "method-wrapper" == Value.type "builtin_function_or_method" || Value.type "method-wrapper" == Value.type "method-wrapper") = true by decide, if_true]
  refine KFB.if_so (by decide) ?_
  refine wpAny_bind (check_bound_init F.excBase_ValueError.toExcCallFacts hC he rfl ?_)
  refine wpAny_bind (wpAny_pure (wpAny_pure ?_))
  refine ⟨plainId_quiet F.excBase_ValueError.init.plain _, codeAny_builtin F.excBase_ValueError.initEntry ?_⟩
  refine exc_init_tree (cls := .ref C) (t0 := t0) (dv := none) (c2 := .none) (c3 := .none) (b4 := .bool false) he hrest fun h' k hx ht => hq h' h.objs.size k hx (Nat.le_of_lt (Heap.lt_size ht))
end
section
variable {prog : Program} {w : World} {A : Around} {E : Value → Shared → Prop} {R : Result → Shared → Prop} {s : Shared} {K : Frag} {mg : Str → Option Value} {C fI : Addr} {nm : Str}
theorem ldC {M : Model} {s : Shared} {env : Env} {m : Str → Option Value} {x : Str} {pos : Pos} {v : Value} {Q : Value → Shared → Prop} {A : Around} {E : Value → Shared → Prop} (hn : s.heap.Ns env.locals m) (hv : m x = some v) (h : Q v s)
    (hk : env.scope.kind = .function := by rfl) (hl : env.kindOf x = some .local := by rfl) (hd : (x == ("__debug__" : Str)) = false := by decide) : wpAny M A (eval (.Name x pos) env) Q E s := wpAny_Name (wpAny_loadName_local hk hl hn hv h) hd
theorem init (T : Txt prog K mg nm C fI) {x t0 : Addr} {v : Value} {mb : Str → Option Value} (X : K.In s.heap) (hg : s.heap.Ns mainGlobals mg) (hb : s.heap.Ns builtinsNs mb) (hbv : ∀ y : Str, y ≠ "__name__" → mb y = bootBuiltins y)
    (hlim : s.heap.NoLimit) (hx : s.heap.get? x = some (excO C t0)) (hnx : K.lookup x = none) (hroom : A.depth < recursionLimit)
    (hq : ∀ h' tk dx t1, InitEnd s.heap h' x C dx t1 v → R (.ok (.ret .none)) { s with heap := h', toks := tk }) :
    codeAny (model prog w) A (.call (.ref fI) ⟨[.ref x, v], []⟩) R s := by
  obtain ⟨oc, od, doc, pm, an, ct, osl, cda, cc, qual, p1, p2, msg, q1, q2, q3, q4, q5, q6, q7, q8, q9, q10, cl, cld, csl, ccl, cdd, vs, ccs, file, tf, lk, hcd, hcell, hcode, hvs, hfile, hrd⟩ := T.fn
  obtain ⟨pl, hpl⟩ := hrd s.heap.objs.size
  obtain ⟨cn, q, N, bs, bm, sn, sub, ab, col, dd, k0, k1, k2, k3, k5, hC, hbm⟩ := T.cls
  have hcl : clsIn K C = some { name := cn, bases := bs, mro := .ref C :: bm, ns := N, qualname := q, hasDict := true, slotNames := sn, subclasses := sub, abstract := ab, collection := col, hasDel := false } := by unfold clsIn; rw [hC] <;> rfl
  refine ks_codeAny_call_defAt (fd := ksFn "__init__" qual (iA p1 p2) (iB msg q1 q2 q3 q4 q5 q6 q7 q8 q9 q10) iS .none .none doc pm an (.ref cda) ct cc) (body := iB msg q1 q2 q3 q4 q5 q6 q7 q8 q9 q10) (binds := [("self", .ref x), ("thing", v)]) hroom (X _ _ lk) rfl hlim (codeRec_of X hcd) rfl
    (BindsTo.of_eq (by first | rfl | with_unfolding_all rfl)) (show ∀ y ∈ iS.names, y.2 ≠ .cell by decide) (by intro y hy; rcases List.mem_cons.mp hy with rfl | hy <;> first | rfl | (rcases List.mem_cons.mp hy with rfl | hy <;> first | rfl | cases hy)) (fun h₁ hns k => ?_) rfl rfl rfl
  have X₁ : K.In h₁ := X.keeps k
  have hx₁ := k _ _ hx
  have hxL : s.heap.objs.size ≠ x := Nat.ne_of_gt (Heap.lt_size hx)
  have hxC : x ≠ C := fun z => by
    have y := X _ _ hC
    rw [← z, hx] at y
    cases y
  show PySem.wpAt (model prog w) _ _ (execs (iB msg q1 q2 q3 q4 q5 q6 q7 q8 q9 q10) (ksEnv qual iS s.heap.objs.size fI (.ref cda) cc)) _ _ _
  refine ks_wpAt_execs_cons (ks_wpAt_Expr_any (ks_wpAt_MethodCall (pl := pl) ?_ hpl))
  refine ks_wpAt_super_base (env := ksEnv qual iS s.heap.objs.size fI (.ref cda) cc) rfl rfl rfl rfl (X₁ _ _ lk) rfl rfl rfl (X₁ _ _ hcode) rfl hvs hfile T.top ?_
  refine ks_loadName_global rfl rfl (loadGlobal_builtin (env := ksEnv qual iS s.heap.objs.size fI (.ref cda) cc) (hg.keeps k) T.gS (hb.keeps k) ((hbv _ (by decide)).trans PyProof.Rows.Boot.«super») ⟨rfl, ?_⟩)
  refine wpAny_loadName_free (env := ksEnv qual iS s.heap.objs.size fI (.ref cda) cc) rfl rfl rfl ⟨_, X₁ _ _ hcell, rfl⟩ ?_
  refine wpAny_loadName_local (env := ksEnv qual iS s.heap.objs.size fI (.ref cda) cc) (v := .ref x) rfl rfl hns (by first | rfl | with_unfolding_all rfl | kernel_rfl) ?_
  refine ks_wpAny_isType_cls (X₁ _ _ hC) rfl ⟨rfl, ?_⟩
  refine ks_wpAny_call_super (X₁ _ _ hC) rfl hx₁ rfl (fun c e => nomatch e) (looks_mroIn X₁ T.own) (fun h₂ hso k₂ => ?_)
  have X₂ : K.In h₂ := X₁.keeps k₂
  have hx₂ := k₂ _ _ hx₁
  have I₂ : InstAt h₂ x (excO C t0) C none := ⟨hx₂, rfl, rfl, trivial⟩
  have hm := T.sup
  unfold ks_superIn at hm
  rw [hcl] at hm
  refine kxs_getMethod kxs_ValueError hso (looks_opaque X₂ T.op) (l₀ := .ref C :: bm) ((looks_clsIn X₂ hcl).andThen .now) rfl X₂ hm (I₂.type.andThen (looks_subIn X₂ T.sVE)) hxC rfl ?_
  have k₁₂ : ∀ b o, h₁.get? b = some o → (h₂.push (kxs_mw "ValueError.__init__" x)).get? b = some o := fun b o e => Heap.get?_push_of_some _ (k₂ b o e)
  have hu : (h₂.push (kxs_mw "ValueError.__init__" x)).get? h₂.objs.size = some (kxs_mw "ValueError.__init__" x) := Heap.get?_push_at rfl rfl
  have sz₂ : s.heap.objs.size ≤ (h₂.push (kxs_mw "ValueError.__init__" x)).objs.size := by
    have a : h₂.objs.size < (h₂.push (kxs_mw "ValueError.__init__" x)).objs.size := Heap.lt_size hu
    have b : h₁.objs.size < h₂.objs.size := Heap.lt_size hso
    have c : s.heap.objs.size < h₁.objs.size := hns.lt
    omega
  generalize h₂.push (kxs_mw "ValueError.__init__" x) = h₂' at k₁₂ hu sz₂ ⊢
  have X₂' : K.In h₂' := X₁.keeps k₁₂
  show wpAny _ _ (callWith q5 (.ref h₂.objs.size) [] (backTo q5 (starEach (.Constant (.str msg) 0 q4 :: []) (ksEnv qual iS s.heap.objs.size fI (.ref cda) cc))) []) _ _ _
  rw [show starEach (.Constant (.str msg) 0 q4 :: []) (ksEnv qual iS s.heap.objs.size fI (.ref cda) cc) = (false, eval (.Constant (.str msg) 0 q4) (ksEnv qual iS s.heap.objs.size fI (.ref cda) cc)) :: starEach [] (ksEnv qual iS s.heap.objs.size fI (.ref cda) cc) from rfl]
  refine kxs_callWith (i := "ValueError.__init__") (x := x) rfl (evalArgs_plain (Calls.spliced_cons (wpAny_Constant_str (env := ksEnv qual iS s.heap.objs.size fI (.ref cda) cc) (x := msg) (k := 0) (pos := q4) (Calls.spliced_nil ⟨hu, ?_⟩))))
  refine call_mw (X₂' _ _ hC) (k₁₂ _ _ hx₁) hu (one_size _) fun h₃ t1 k₃ hx₃ sz₃ => ?_
  have X₃ : K.In h₃ := kept_but X₂' hnx k₃
  have hns₃ : h₃.Ns s.heap.objs.size (fun y => List.lookup y [(PySem.Str.ofString "self", Value.ref x), (PySem.Str.ofString "thing", v)].reverse) := by
    obtain ⟨oL, es, ep, hL, r⟩ := hns
    exact ⟨oL, es, ep, k₃ _ _ hxL (k₁₂ _ _ hL), r⟩
  -- self.field = field
  show PySem.wpAt _ _ _ (execs [.Assign [.Attribute (.Name "self" q7) "thing" q8] (.Name "thing" q9) q10] (ksEnv qual iS s.heap.objs.size fI (.ref cda) cc)) _ _ _
  refine ks_wpAt_execs_cons (wpAt_of_wpAny (plainObj_wpAny_Assign_Attribute ?_))
  refine ldC (env := ksEnv qual iS s.heap.objs.size fI (.ref cda) cc) (v := v) hns₃ (by first | rfl | with_unfolding_all rfl | kernel_rfl) (ldC (env := ksEnv qual iS s.heap.objs.size fI (.ref cda) cc) (v := .ref x) hns₃ (by first | rfl | with_unfolding_all rfl | kernel_rfl) ?_)
  refine set_plain X₃ (ox := excO C t1) (od := none) ⟨hx₃, rfl, rfl, trivial⟩ T.sa ?_
  refine exc_osa X₃ hx₃ hcl (show refsVE (.ref C :: bm) = true from hbm) rfl T.noN (fun h₄ tk₄ dx k₄ dn dne hx₄ hn₄ => ?_)
  refine wpAt_of_wpAny (wpAny_execs_nil (hq h₄ tk₄ dx t1 ⟨fun b o hb e => k₄ b o hb (k₃ b o hb (k₁₂ b o (k b o e))), hx₄, Nat.le_trans sz₂ (Nat.le_trans sz₃ dn), dne, hn₄⟩))
theorem made (T : Txt prog K mg nm C fI) {v : Value} {mb : Str → Option Value} (X : K.In s.heap) (hg : s.heap.Ns mainGlobals mg) (hb : s.heap.Ns builtinsNs mb) (hbv : ∀ y : Str, y ≠ "__name__" → mb y = bootBuiltins y) (hlim : s.heap.NoLimit)
    (hroom : A.depth + 1 < recursionLimit) (hq : ∀ h' tk e d, OwnMade s.heap h' e C d v → R (.ok (.ret (.ref e))) { s with heap := h', toks := tk }) :
    codeAny (model prog w) A (.call (.ref C) ⟨[v], []⟩) R s := by
  obtain ⟨cn, q, N, bs, bm, sn, sub, ab, col, dd, k0, k1, k2, k3, k5, hC, hbm⟩ := T.cls
  obtain ⟨hp, g, dr, tk, os⟩ := s
  have k : ∀ b o, hp.get? b = some o → ((hp.push (kdv_tup [v])).push (excO C hp.objs.size)).get? b = some o := fun b o e => Heap.get?_push_of_some _ (Heap.get?_push_of_some _ e)
  have hget : ((hp.push (kdv_tup [v])).push (excO C hp.objs.size)).get? (hp.objs.size + 1) = some (excO C hp.objs.size) := by heap_get
  have hnx : K.lookup (hp.objs.size + 1) = none := by
    cases e : K.lookup (hp.objs.size + 1) with
    | none => rfl
    | some o =>
      have z : hp.get? (hp.objs.size + 1) = some o := X _ _ e
      exact absurd (Nat.lt_of_succ_lt (Heap.lt_size z)) (Nat.lt_irrefl _)
  refine call_own F.excBase_ValueError (fun X => refsVE_contains X bm hbm) (X _ _ hC) (looks_findIn X T.iC) (fun self => bind_fn X self T.tC) (one_size v) ?_
  refine init (s := ⟨(hp.push (kdv_tup [v])).push (excO C hp.objs.size), g, dr, tk, os⟩) T (X.keeps k) (hg.keeps k) (hb.keeps k) hbv (hlim.keeps k) hget hnx ?_ fun h' tk' dx t1 ⟨k', hx, dn, dne, hns⟩ => ?_
  · show A.depth + 1 < recursionLimit
    exact hroom
  · have old : ∀ b o, hp.get? b = some o → h'.get? b = some o := fun b o e => k' b o (Nat.ne_of_lt (Nat.lt_succ_of_lt (Heap.lt_size e))) (k b o e)
    have z : hp.objs.size + 1 + 1 ≤ dx := by
      first
        | (simpa only [Heap.size_push] using dn)
        | exact dn
        | (have q := dn; rw [Heap.size_push, Heap.size_push] at q; exact q)
    exact ⟨rfl, hq h' tk' (hp.objs.size + 1) dx ⟨old, Nat.le_succ _, ⟨_, _, hx, rfl, rfl, rfl, rfl⟩, Nat.le_trans (Nat.le_trans (Nat.le_succ _) (Nat.le_succ _)) z, dne, hns⟩⟩
end
end Exo_thing
end PySem
namespace Com_thing
open PySem PySem.Spec PyProof.Rows L2 Com
theorem relO_fld {v : V} {v' : Value} (r : RelV v v') (f : Str) : RelO (List.lookup f [(("thing" : Str), v)]) (if f = "thing" then some v' else none) := by
  by_cases hw : f = "thing"
  · subst hw
    rw [if_pos rfl]
    have q : List.lookup ("thing" : Str) [(("thing" : Str), v)] = some v := by simp [List.lookup]
    rw [q]
    exact r
  · rw [if_neg hw]
    have qw : (f == ("thing" : Str)) = false := by simpa using hw
    have q2 : List.lookup f [(("thing" : Str), v)] = none := by simp [List.lookup, qw]
    rw [q2]
    trivial
section
variable {X : Cx} {C fI : Addr}
/-- x(e), x an own exception class at C: a new dict of one field -/
def tMkE (C : Addr) (ta : TA) : L2.St → Hp → XK → Prop := fun σ H Q => ta σ H fun vs H1 => ∃ v, vs = [v] ∧ ∀ d, H1 d = none → Q (.ref C) (some d) (upd H1 d (.xd [(("thing" : Str), v)]))
theorem pmk_e {x : Str} {a : Expr} {ta : TA} {p pos : Pos} {k : Nat} (T : PySem.Exo_thing.Txt X.prog X.K X.mg x C fI) (hr : Room k X.A) (ha : PA X [a] ta) (hg : Gl X x := by rfl) (hdb : (x == ("__debug__" : Str)) = false := by decide)
    (he : starEach (a :: []) X.env = (false, eval a X.env) :: starEach [] X.env := by rfl) (hpl : (backTo pos (starEach [] X.env)).any (·.1) = false := by rfl) :
    PMk X (.Call (.Name x p) [a] [] pos) (tMkE C ta) := by
  intro pins s σ H Q I h
  refine wpAny_Call_Name_kw (ld_glob I hg T.gC ?_ hdb)
  refine PySem.W.callWith_K (h₀ := X.base) I.ok.mod.kin T.kC (thn (ha.run pos pins s σ H _ I h) fun us s1 hh => ?_) he hpl
  obtain ⟨vs, H1, I1, r1, v, ev, q1⟩ := hh
  subst ev
  refine ⟨I1.kIn, ?_⟩
  cases r1 with
  | cons rv rn =>
    rename_i v' us'
    cases rn
    show wpAny _ _ (call (.ref C) [v']) _ _ _
    have hlim := I1.nolimit
    obtain ⟨mb, hb1, hb2⟩ := I1.mod.blt
    have hbk := hb1.keeps I1.bk
    have hgk := I1.mod.glob.keeps I1.bk
    obtain ⟨hp, g, dr, tk, os⟩ := s1
    refine wpAny_call (PySem.Exo_thing.made T I1.kIn hgk hbk hb2 hlim (by have := hr.dp; omega) fun h' tk' e d M => ?_)
    show MkP X pins σ Q (.ref e) ⟨h', g, dr, tk', os⟩
    obtain ⟨oe, fv, hoe, hc, hd, hdat, h1⟩ := M.obj
    have hns := M.ns
    obtain ⟨G', g1, g2⟩ := restrict h' fun b => decide (b ≠ e)
    have gk : ∀ b, b ≠ e → G'.get? b = h'.get? b := fun b hb => g1 b (decide_eq_true hb)
    have ge : G'.get? e = none := g2 e (by simp)
    have old : ∀ b o, hp.get? b = some o → G'.get? b = some o := fun b o q => (gk b (Nat.ne_of_lt (Nat.lt_of_lt_of_le (Heap.lt_size q) M.new))).trans (M.keep b o q)
    have ob : ObjOk X.prog X.w (upd H1 d (.xd [(("thing" : Str), v)])) G' d (.xd [(("thing" : Str), v)]) :=
      ⟨_, hns.at (fun o q => (gk d M.dne).trans q), fun f => relO_fld rv f⟩
    have J : Inv X pins σ (upd H1 d (.xd [(("thing" : Str), v)])) ⟨G', g, dr, tk', os⟩ := I1.laid (t' := tk') old M.dbig ob
    refine ⟨e, oe, fv, ⟨G', g, dr, tk', os⟩, _, .ref C, some d, rfl, J, fun b o q => ?_, ge, hoe, ⟨hc, hd⟩, hdat, h1, ?_, rfl, I1.bare, raises_own T.exC T.tyC, q1 d (I1.hok.fresh M.dbig)⟩
    · by_cases hb : b = e
      · have q' : G'.get? b = some o := q
        rw [hb, ge] at q'; cases q'
      · exact (gk b hb).symm.trans q
    · rw [upd_ne (Ne.symm M.dne)]
      exact I1.hok.fresh M.new
/-- raise x(e) -/
theorem ps_raiseE {x : Str} {a : Expr} {ta : TA} {W : WX} {p pos pos2 : Pos} {k : Nat} (T : PySem.Exo_thing.Txt X.prog X.K X.mg x C fI) (hr : Room k X.A) (tk : Takes X W) (ha : PA X [a] ta) (hc : X.calm = true := by rfl) (hg : Gl X x := by rfl) (hdb : (x == ("__debug__" : Str)) = false := by decide)
    (he : starEach (a :: []) X.env = (false, eval a X.env) :: starEach [] X.env := by rfl) (hpl : (backTo pos (starEach [] X.env)).any (·.1) = false := by rfl) :
    PS X (.Raise (some (.Call (.Name x p) [a] [] pos)) none pos2) (fun _ σ H => tMkE C ta σ H fun cls d H' => W cls d σ H') := ps_raise hc tk (pmk_e T hr ha hg hdb he hpl)
theorem xf_of {prog : Program} {K : PySem.W.Frag} {mg : Str → Option Value} {x : Str} (T : PySem.Exo_thing.Txt prog K mg x C fI) : XfC K C := ⟨T.ga, T.gg, T.exC, T.hdC⟩
end
end Com_thing
set_option Elab.async false
set_option linter.all false
set_option maxRecDepth 100000
set_option maxHeartbeats 4000000
/-! An own exception over ValueError, its __init__: super().__init__(text); self.field = field. -/
namespace PySem
namespace Exo_side
open PySem.W PySem.Calls PyProof.Rows PySem.HandSPX
def iA (p1 p2 : Pos) : Arguments := { posonlyargs := [], args := [{ arg := "self", annotation := none, pos := p1 }, { arg := "side", annotation := none, pos := p2 }], vararg := none, kwonlyargs := [], kw_defaults := [], kwarg := none, defaults := [] }
abbrev sCall (msg : Str) (q1 q2 q3 q4 q5 : Pos) : Expr := .Call (.Attribute (.Call (.Name "super" q1) [] [] q2) "__init__" q3) [.Constant (.str msg) 0 q4] [] q5
def iB (msg : Str) (q1 q2 q3 q4 q5 q6 q7 q8 q9 q10 : Pos) : List Stmt :=
  [.Expr (sCall msg q1 q2 q3 q4 q5) q6, .Assign [.Attribute (.Name "self" q7) "side" q8] (.Name "side" q9) q10]
def iS : Scope := { kind := .function, names := [(PySem.Str.ofString "self", .local), (PySem.Str.ofString "side", .local), (PySem.Str.ofString "__class__", .free), (PySem.Str.ofString "super", .globalImplicit)], isGenerator := false, isCoroutine := false, more := [] }
/-- how the call of the bound __init__ is read -/
def Reads (msg : Str) (q1 q2 q3 q4 q5 : Pos) (env : Env) : Prop := ∃ pl : Sem Bool, eval (sCall msg q1 q2 q3 q4 q5) env = (do
  let ov ← attributeBase (.Call (.Name "super" q1) [] [] q2) "__init__" env (eval (.Call (.Name "super" q1) [] [] q2) env)
  standAt q3.atName
  let (f, first) ← holding [ov] (getMethod ov "__init__" pl)
  callWith q5 f first (backTo q5 (starEach [.Constant (.str msg) 0 q4] env)) [])
/-- what the written part says of the class x, at C, and of its __init__, at fI -/
structure Txt (prog : Program) (K : Frag) (mg : Str → Option Value) (x : Str) (C fI : Addr) : Prop where
  gC : mg x = some (.ref C)
  gS : mg "super" = none
  cls : ∃ nm q N bs bm sn sub ab col dd k0 k1 k2 k3 k5, K.lookup C = some (excClassObj nm q C N bs bm true sn sub ab col dd k0 k1 k2 k3 k5 "ValueError.__new__") ∧ refsVE bm = true
  sup : ks_superIn K C C "__init__" = some (some (.builtin "ValueError.__init__"))
  sVE : subIn K (.ref C) (.type "ValueError") = some true
  own : mroIn K C (.ref C) = some true
  op : nsIn K cStatics "thirdparty.any" = some none
  sa : findIn K (.ref C) "__setattr__" = some (some (.builtin "object.__setattr__"))
  ga : findIn K (.ref C) "__getattribute__" = some (some (.builtin "BaseException.__getattribute__"))
  gg : findIn K (.ref C) "__getattr__" = some none
  noN : findIn K (.ref C) "side" = some none
  iC : findIn K (.ref C) "__init__" = some (some (.ref fI))
  tC : typeIn K (.ref fI) = some (.type "function")
  kC : keepIn K (.ref C) = true
  exC : subIn K (.ref C) (.type "BaseException") = some true
  tyC : typeIn K (.ref C) = some (.type "type")
  hdC : hasDictIn K C = true
  te : exmOne K (.ref C) (.ref C) = some true
  top : (prog.main.scope.names.lookup ("super" : Str)).isSome = false
  fn : ∃ (oc : Value) (od : Option Addr) (doc pm : Value) (an : Option Addr) (ct : Value) (osl : Array (Option Value)) (cda cc : Addr) (qual : Str) (p1 p2 : Pos) (msg : Str) (q1 q2 q3 q4 q5 q6 q7 q8 q9 q10 : Pos)
      (cl : Value) (cld : Option Addr) (csl : Array (Option Value)) (ccl : Value) (cdd : Option Addr) (vs : Array Value) (ccs : Array (Option Value)) (file : Str) (tf : Tok),
    K.lookup fI = some ⟨oc, od, .func (ksFn "__init__" qual (iA p1 p2) (iB msg q1 q2 q3 q4 q5 q6 q7 q8 q9 q10) iS .none .none doc pm an (.ref cda) ct cc), osl⟩ ∧ codeIn K (.ref cda) qual = true ∧
    K.lookup cc = some ⟨cl, cld, .cell (some (.ref C)), csl⟩ ∧ K.lookup cda = some ⟨ccl, cdd, .fields vs, ccs⟩ ∧ vs[2]? = some (.str file tf) ∧ ((prog.main.file : Str) == file) = true ∧ (∀ L : Addr, Reads msg q1 q2 q3 q4 q5 (ksEnv qual iS L fI (.ref cda) cc))
theorem kept_but {K : Frag} {h h' : Heap} {x : Addr} (X : K.In h) (hx : K.lookup x = none) (k : ∀ b o, b ≠ x → h.get? b = some o → h'.get? b = some o) : K.In h' := fun a o e =>
  k a o (fun z => by rw [z, hx] at e; cases e) (X a o e)
theorem one_size (v : Value) : [v].length ≤ sizeLine := by
  rw [sizeLine_eq]
  exact (by decide : 1 ≤ 16777216)
/-- what __init__ leaves of a fresh exception at x -/
structure InitEnd (h h' : Heap) (x C dx t1 : Addr) (v : Value) : Prop where
  keep : ∀ b o, b ≠ x → h.get? b = some o → h'.get? b = some o
  obj : h'.get? x = some { cls := .ref C, dict := some dx, data := .fields #[.ref t1, .none, .none, .none, .bool false, .none] }
  dbig : h.objs.size ≤ dx
  dne : dx ≠ x
  ns : h'.Ns1 dx (fun y => if y = "side" then some v else none)
/-- a made one -/
structure OwnMade (h h' : Heap) (e C d : Addr) (v : Value) : Prop where
  keep : ∀ b o, h.get? b = some o → h'.get? b = some o
  new : h.objs.size ≤ e
  obj : ∃ oe vs, h'.get? e = some oe ∧ oe.cls = .ref C ∧ oe.dict = some d ∧ oe.data = .fields vs ∧ vs[1]? = some .none
  dbig : h.objs.size ≤ d
  dne : d ≠ e
  ns : h'.Ns1 d (fun y => if y = "side" then some v else none)
section
variable {M : Model} {prog : Program} {w : World} {A : Around} {E : Value → Shared → Prop} {h : Heap} {g : Array GenState} {d : Drawn} {t : Nat} {os : OsState}
variable {nm q : Str} {C N : Addr} {bs bm : List Value} {hdct : Bool} {sn : List Str} {sub : List Value} {ab : Bool} {col : Option Bool} {dd : Option Addr} {k0 k1 k2 k3 k5 : Option Value}
/-- the bound ValueError.__init__ is called -/
theorem call_mw {u e t0 : Addr} {rest : List Value} {Q : Value → Shared → Prop}
    (hC : h.get? C = some (excClassObj nm q C N bs bm hdct sn sub ab col dd k0 k1 k2 k3 k5 "ValueError.__new__")) (he : h.get? e = some (excO C t0)) (hu : h.get? u = some (kxs_mw "ValueError.__init__" e)) (hrest : rest.length ≤ sizeLine)
    (hq : ∀ h' t1, (∀ b o, b ≠ e → h.get? b = some o → h'.get? b = some o) → h'.get? e = some (excO C t1) → h.objs.size ≤ h'.objs.size → Q .none ⟨h', g, d, t, os⟩) :
    wpAny (model prog w) A (call (.ref u) rest) Q E ⟨h, g, d, t, os⟩ := by
  refine wpAny_call (codeAny_of_tree ?_)
  show wpAny _ A.in1 (callAny (.ref u) ⟨rest, []⟩) _ _ _
  simp only [callAny]
  refine wpAny_bind (wpAny_load hu ?_)
  simp only [kxs_mw, show (Value.type "method-wrapper" == Value.type "method" || Value.type "method-wrapper" == Value.type "builtin_function_or_method" || Value.type "method-wrapper" == Value.type "method-wrapper") = true by decide, if_true]
  refine KFB.if_so (by decide) ?_
  refine wpAny_bind (check_bound_init F.excBase_ValueError.toExcCallFacts hC he rfl ?_)
  refine wpAny_bind (wpAny_pure (wpAny_pure ?_))
  refine ⟨plainId_quiet F.excBase_ValueError.init.plain _, codeAny_builtin F.excBase_ValueError.initEntry ?_⟩
  refine exc_init_tree (cls := .ref C) (t0 := t0) (dv := none) (c2 := .none) (c3 := .none) (b4 := .bool false) he hrest fun h' k hx ht => hq h' h.objs.size k hx (Nat.le_of_lt (Heap.lt_size ht))
end
section
variable {prog : Program} {w : World} {A : Around} {E : Value → Shared → Prop} {R : Result → Shared → Prop} {s : Shared} {K : Frag} {mg : Str → Option Value} {C fI : Addr} {nm : Str}
theorem ldC {M : Model} {s : Shared} {env : Env} {m : Str → Option Value} {x : Str} {pos : Pos} {v : Value} {Q : Value → Shared → Prop} {A : Around} {E : Value → Shared → Prop} (hn : s.heap.Ns env.locals m) (hv : m x = some v) (h : Q v s)
    (hk : env.scope.kind = .function := by rfl) (hl : env.kindOf x = some .local := by rfl) (hd : (x == ("__debug__" : Str)) = false := by decide) : wpAny M A (eval (.Name x pos) env) Q E s := wpAny_Name (wpAny_loadName_local hk hl hn hv h) hd
theorem init (T : Txt prog K mg nm C fI) {x t0 : Addr} {v : Value} {mb : Str → Option Value} (X : K.In s.heap) (hg : s.heap.Ns mainGlobals mg) (hb : s.heap.Ns builtinsNs mb) (hbv : ∀ y : Str, y ≠ "__name__" → mb y = bootBuiltins y)
    (hlim : s.heap.NoLimit) (hx : s.heap.get? x = some (excO C t0)) (hnx : K.lookup x = none) (hroom : A.depth < recursionLimit)
    (hq : ∀ h' tk dx t1, InitEnd s.heap h' x C dx t1 v → R (.ok (.ret .none)) { s with heap := h', toks := tk }) :
    codeAny (model prog w) A (.call (.ref fI) ⟨[.ref x, v], []⟩) R s := by
  obtain ⟨oc, od, doc, pm, an, ct, osl, cda, cc, qual, p1, p2, msg, q1, q2, q3, q4, q5, q6, q7, q8, q9, q10, cl, cld, csl, ccl, cdd, vs, ccs, file, tf, lk, hcd, hcell, hcode, hvs, hfile, hrd⟩ := T.fn
  obtain ⟨pl, hpl⟩ := hrd s.heap.objs.size
  obtain ⟨cn, q, N, bs, bm, sn, sub, ab, col, dd, k0, k1, k2, k3, k5, hC, hbm⟩ := T.cls
  have hcl : clsIn K C = some { name := cn, bases := bs, mro := .ref C :: bm, ns := N, qualname := q, hasDict := true, slotNames := sn, subclasses := sub, abstract := ab, collection := col, hasDel := false } := by unfold clsIn; rw [hC] <;> rfl
  refine ks_codeAny_call_defAt (fd := ksFn "__init__" qual (iA p1 p2) (iB msg q1 q2 q3 q4 q5 q6 q7 q8 q9 q10) iS .none .none doc pm an (.ref cda) ct cc) (body := iB msg q1 q2 q3 q4 q5 q6 q7 q8 q9 q10) (binds := [("self", .ref x), ("side", v)]) hroom (X _ _ lk) rfl hlim (codeRec_of X hcd) rfl
    (BindsTo.of_eq (by first | rfl | with_unfolding_all rfl)) (show ∀ y ∈ iS.names, y.2 ≠ .cell by decide) (by intro y hy; rcases List.mem_cons.mp hy with rfl | hy <;> first | rfl | (rcases List.mem_cons.mp hy with rfl | hy <;> first | rfl | cases hy)) (fun h₁ hns k => ?_) rfl rfl rfl
  have X₁ : K.In h₁ := X.keeps k
  have hx₁ := k _ _ hx
  have hxL : s.heap.objs.size ≠ x := Nat.ne_of_gt (Heap.lt_size hx)
  have hxC : x ≠ C := fun z => by
    have y := X _ _ hC
    rw [← z, hx] at y
    cases y
  show PySem.wpAt (model prog w) _ _ (execs (iB msg q1 q2 q3 q4 q5 q6 q7 q8 q9 q10) (ksEnv qual iS s.heap.objs.size fI (.ref cda) cc)) _ _ _
  refine ks_wpAt_execs_cons (ks_wpAt_Expr_any (ks_wpAt_MethodCall (pl := pl) ?_ hpl))
  refine ks_wpAt_super_base (env := ksEnv qual iS s.heap.objs.size fI (.ref cda) cc) rfl rfl rfl rfl (X₁ _ _ lk) rfl rfl rfl (X₁ _ _ hcode) rfl hvs hfile T.top ?_
  refine ks_loadName_global rfl rfl (loadGlobal_builtin (env := ksEnv qual iS s.heap.objs.size fI (.ref cda) cc) (hg.keeps k) T.gS (hb.keeps k) ((hbv _ (by decide)).trans PyProof.Rows.Boot.«super») ⟨rfl, ?_⟩)
  refine wpAny_loadName_free (env := ksEnv qual iS s.heap.objs.size fI (.ref cda) cc) rfl rfl rfl ⟨_, X₁ _ _ hcell, rfl⟩ ?_
  refine wpAny_loadName_local (env := ksEnv qual iS s.heap.objs.size fI (.ref cda) cc) (v := .ref x) rfl rfl hns (by first | rfl | with_unfolding_all rfl | kernel_rfl) ?_
  refine ks_wpAny_isType_cls (X₁ _ _ hC) rfl ⟨rfl, ?_⟩
  refine ks_wpAny_call_super (X₁ _ _ hC) rfl hx₁ rfl (fun c e => nomatch e) (looks_mroIn X₁ T.own) (fun h₂ hso k₂ => ?_)
  have X₂ : K.In h₂ := X₁.keeps k₂
  have hx₂ := k₂ _ _ hx₁
  have I₂ : InstAt h₂ x (excO C t0) C none := ⟨hx₂, rfl, rfl, trivial⟩
  have hm := T.sup
  unfold ks_superIn at hm
  rw [hcl] at hm
  refine kxs_getMethod kxs_ValueError hso (looks_opaque X₂ T.op) (l₀ := .ref C :: bm) ((looks_clsIn X₂ hcl).andThen .now) rfl X₂ hm (I₂.type.andThen (looks_subIn X₂ T.sVE)) hxC rfl ?_
  have k₁₂ : ∀ b o, h₁.get? b = some o → (h₂.push (kxs_mw "ValueError.__init__" x)).get? b = some o := fun b o e => Heap.get?_push_of_some _ (k₂ b o e)
  have hu : (h₂.push (kxs_mw "ValueError.__init__" x)).get? h₂.objs.size = some (kxs_mw "ValueError.__init__" x) := Heap.get?_push_at rfl rfl
  have sz₂ : s.heap.objs.size ≤ (h₂.push (kxs_mw "ValueError.__init__" x)).objs.size := by
    have a : h₂.objs.size < (h₂.push (kxs_mw "ValueError.__init__" x)).objs.size := Heap.lt_size hu
    have b : h₁.objs.size < h₂.objs.size := Heap.lt_size hso
    have c : s.heap.objs.size < h₁.objs.size := hns.lt
    omega
  generalize h₂.push (kxs_mw "ValueError.__init__" x) = h₂' at k₁₂ hu sz₂ ⊢
  have X₂' : K.In h₂' := X₁.keeps k₁₂
  show wpAny _ _ (callWith q5 (.ref h₂.objs.size) [] (backTo q5 (starEach (.Constant (.str msg) 0 q4 :: []) (ksEnv qual iS s.heap.objs.size fI (.ref cda) cc))) []) _ _ _
  rw [show starEach (.Constant (.str msg) 0 q4 :: []) (ksEnv qual iS s.heap.objs.size fI (.ref cda) cc) = (false, eval (.Constant (.str msg) 0 q4) (ksEnv qual iS s.heap.objs.size fI (.ref cda) cc)) :: starEach [] (ksEnv qual iS s.heap.objs.size fI (.ref cda) cc) from rfl]
  refine kxs_callWith (i := "ValueError.__init__") (x := x) rfl (evalArgs_plain (Calls.spliced_cons (wpAny_Constant_str (env := ksEnv qual iS s.heap.objs.size fI (.ref cda) cc) (x := msg) (k := 0) (pos := q4) (Calls.spliced_nil ⟨hu, ?_⟩))))
  refine call_mw (X₂' _ _ hC) (k₁₂ _ _ hx₁) hu (one_size _) fun h₃ t1 k₃ hx₃ sz₃ => ?_
  have X₃ : K.In h₃ := kept_but X₂' hnx k₃
  have hns₃ : h₃.Ns s.heap.objs.size (fun y => List.lookup y [(PySem.Str.ofString "self", Value.ref x), (PySem.Str.ofString "side", v)].reverse) := by
    obtain ⟨oL, es, ep, hL, r⟩ := hns
    exact ⟨oL, es, ep, k₃ _ _ hxL (k₁₂ _ _ hL), r⟩
  -- self.field = field
  show PySem.wpAt _ _ _ (execs [.Assign [.Attribute (.Name "self" q7) "side" q8] (.Name "side" q9) q10] (ksEnv qual iS s.heap.objs.size fI (.ref cda) cc)) _ _ _
  refine ks_wpAt_execs_cons (wpAt_of_wpAny (plainObj_wpAny_Assign_Attribute ?_))
  refine ldC (env := ksEnv qual iS s.heap.objs.size fI (.ref cda) cc) (v := v) hns₃ (by first | rfl | with_unfolding_all rfl | kernel_rfl) (ldC (env := ksEnv qual iS s.heap.objs.size fI (.ref cda) cc) (v := .ref x) hns₃ (by first | rfl | with_unfolding_all rfl | kernel_rfl) ?_)
  refine set_plain X₃ (ox := excO C t1) (od := none) ⟨hx₃, rfl, rfl, trivial⟩ T.sa ?_
  refine exc_osa X₃ hx₃ hcl (show refsVE (.ref C :: bm) = true from hbm) rfl T.noN (fun h₄ tk₄ dx k₄ dn dne hx₄ hn₄ => ?_)
  refine wpAt_of_wpAny (wpAny_execs_nil (hq h₄ tk₄ dx t1 ⟨fun b o hb e => k₄ b o hb (k₃ b o hb (k₁₂ b o (k b o e))), hx₄, Nat.le_trans sz₂ (Nat.le_trans sz₃ dn), dne, hn₄⟩))
theorem made (T : Txt prog K mg nm C fI) {v : Value} {mb : Str → Option Value} (X : K.In s.heap) (hg : s.heap.Ns mainGlobals mg) (hb : s.heap.Ns builtinsNs mb) (hbv : ∀ y : Str, y ≠ "__name__" → mb y = bootBuiltins y) (hlim : s.heap.NoLimit)
    (hroom : A.depth + 1 < recursionLimit) (hq : ∀ h' tk e d, OwnMade s.heap h' e C d v → R (.ok (.ret (.ref e))) { s with heap := h', toks := tk }) :
    codeAny (model prog w) A (.call (.ref C) ⟨[v], []⟩) R s := by
  obtain ⟨cn, q, N, bs, bm, sn, sub, ab, col, dd, k0, k1, k2, k3, k5, hC, hbm⟩ := T.cls
  obtain ⟨hp, g, dr, tk, os⟩ := s
  have k : ∀ b o, hp.get? b = some o → ((hp.push (kdv_tup [v])).push (excO C hp.objs.size)).get? b = some o := fun b o e => Heap.get?_push_of_some _ (Heap.get?_push_of_some _ e)
  have hget : ((hp.push (kdv_tup [v])).push (excO C hp.objs.size)).get? (hp.objs.size + 1) = some (excO C hp.objs.size) := by heap_get
  have hnx : K.lookup (hp.objs.size + 1) = none := by
    cases e : K.lookup (hp.objs.size + 1) with
    | none => rfl
    | some o =>
      have z : hp.get? (hp.objs.size + 1) = some o := X _ _ e
      exact absurd (Nat.lt_of_succ_lt (Heap.lt_size z)) (Nat.lt_irrefl _)
  refine call_own F.excBase_ValueError (fun X => refsVE_contains X bm hbm) (X _ _ hC) (looks_findIn X T.iC) (fun self => bind_fn X self T.tC) (one_size v) ?_
  refine init (s := ⟨(hp.push (kdv_tup [v])).push (excO C hp.objs.size), g, dr, tk, os⟩) T (X.keeps k) (hg.keeps k) (hb.keeps k) hbv (hlim.keeps k) hget hnx ?_ fun h' tk' dx t1 ⟨k', hx, dn, dne, hns⟩ => ?_
  · show A.depth + 1 < recursionLimit
    exact hroom
  · have old : ∀ b o, hp.get? b = some o → h'.get? b = some o := fun b o e => k' b o (Nat.ne_of_lt (Nat.lt_succ_of_lt (Heap.lt_size e))) (k b o e)
    have z : hp.objs.size + 1 + 1 ≤ dx := by
      first
        | (simpa only [Heap.size_push] using dn)
        | exact dn
        | (have q := dn; rw [Heap.size_push, Heap.size_push] at q; exact q)
    exact ⟨rfl, hq h' tk' (hp.objs.size + 1) dx ⟨old, Nat.le_succ _, ⟨_, _, hx, rfl, rfl, rfl, rfl⟩, Nat.le_trans (Nat.le_trans (Nat.le_succ _) (Nat.le_succ _)) z, dne, hns⟩⟩
end
end Exo_side
end PySem
namespace Com_side
open PySem PySem.Spec PyProof.Rows L2 Com
theorem relO_fld {v : V} {v' : Value} (r : RelV v v') (f : Str) : RelO (List.lookup f [(("side" : Str), v)]) (if f = "side" then some v' else none) := by
  by_cases hw : f = "side"
  · subst hw
    rw [if_pos rfl]
    have q : List.lookup ("side" : Str) [(("side" : Str), v)] = some v := by simp [List.lookup]
    rw [q]
    exact r
  · rw [if_neg hw]
    have qw : (f == ("side" : Str)) = false := by simpa using hw
    have q2 : List.lookup f [(("side" : Str), v)] = none := by simp [List.lookup, qw]
    rw [q2]
    trivial
section
variable {X : Cx} {C fI : Addr}
/-- x(e), x an own exception class at C: a new dict of one field -/
def tMkE (C : Addr) (ta : TA) : L2.St → Hp → XK → Prop := fun σ H Q => ta σ H fun vs H1 => ∃ v, vs = [v] ∧ ∀ d, H1 d = none → Q (.ref C) (some d) (upd H1 d (.xd [(("side" : Str), v)]))
theorem pmk_e {x : Str} {a : Expr} {ta : TA} {p pos : Pos} {k : Nat} (T : PySem.Exo_side.Txt X.prog X.K X.mg x C fI) (hr : Room k X.A) (ha : PA X [a] ta) (hg : Gl X x := by rfl) (hdb : (x == ("__debug__" : Str)) = false := by decide)
    (he : starEach (a :: []) X.env = (false, eval a X.env) :: starEach [] X.env := by rfl) (hpl : (backTo pos (starEach [] X.env)).any (·.1) = false := by rfl) :
    PMk X (.Call (.Name x p) [a] [] pos) (tMkE C ta) := by
  intro pins s σ H Q I h
  refine wpAny_Call_Name_kw (ld_glob I hg T.gC ?_ hdb)
  refine PySem.W.callWith_K (h₀ := X.base) I.ok.mod.kin T.kC (thn (ha.run pos pins s σ H _ I h) fun us s1 hh => ?_) he hpl
  obtain ⟨vs, H1, I1, r1, v, ev, q1⟩ := hh
  subst ev
  refine ⟨I1.kIn, ?_⟩
  cases r1 with
  | cons rv rn =>
    rename_i v' us'
    cases rn
    show wpAny _ _ (call (.ref C) [v']) _ _ _
    have hlim := I1.nolimit
    obtain ⟨mb, hb1, hb2⟩ := I1.mod.blt
    have hbk := hb1.keeps I1.bk
    have hgk := I1.mod.glob.keeps I1.bk
    obtain ⟨hp, g, dr, tk, os⟩ := s1
    refine wpAny_call (PySem.Exo_side.made T I1.kIn hgk hbk hb2 hlim (by have := hr.dp; omega) fun h' tk' e d M => ?_)
    show MkP X pins σ Q (.ref e) ⟨h', g, dr, tk', os⟩
    obtain ⟨oe, fv, hoe, hc, hd, hdat, h1⟩ := M.obj
    have hns := M.ns
    obtain ⟨G', g1, g2⟩ := restrict h' fun b => decide (b ≠ e)
    have gk : ∀ b, b ≠ e → G'.get? b = h'.get? b := fun b hb => g1 b (decide_eq_true hb)
    have ge : G'.get? e = none := g2 e (by simp)
    have old : ∀ b o, hp.get? b = some o → G'.get? b = some o := fun b o q => (gk b (Nat.ne_of_lt (Nat.lt_of_lt_of_le (Heap.lt_size q) M.new))).trans (M.keep b o q)
    have ob : ObjOk X.prog X.w (upd H1 d (.xd [(("side" : Str), v)])) G' d (.xd [(("side" : Str), v)]) :=
      ⟨_, hns.at (fun o q => (gk d M.dne).trans q), fun f => relO_fld rv f⟩
    have J : Inv X pins σ (upd H1 d (.xd [(("side" : Str), v)])) ⟨G', g, dr, tk', os⟩ := I1.laid (t' := tk') old M.dbig ob
    refine ⟨e, oe, fv, ⟨G', g, dr, tk', os⟩, _, .ref C, some d, rfl, J, fun b o q => ?_, ge, hoe, ⟨hc, hd⟩, hdat, h1, ?_, rfl, I1.bare, raises_own T.exC T.tyC, q1 d (I1.hok.fresh M.dbig)⟩
    · by_cases hb : b = e
      · have q' : G'.get? b = some o := q
        rw [hb, ge] at q'; cases q'
      · exact (gk b hb).symm.trans q
    · rw [upd_ne (Ne.symm M.dne)]
      exact I1.hok.fresh M.new
/-- raise x(e) -/
theorem ps_raiseE {x : Str} {a : Expr} {ta : TA} {W : WX} {p pos pos2 : Pos} {k : Nat} (T : PySem.Exo_side.Txt X.prog X.K X.mg x C fI) (hr : Room k X.A) (tk : Takes X W) (ha : PA X [a] ta) (hc : X.calm = true := by rfl) (hg : Gl X x := by rfl) (hdb : (x == ("__debug__" : Str)) = false := by decide)
    (he : starEach (a :: []) X.env = (false, eval a X.env) :: starEach [] X.env := by rfl) (hpl : (backTo pos (starEach [] X.env)).any (·.1) = false := by rfl) :
    PS X (.Raise (some (.Call (.Name x p) [a] [] pos)) none pos2) (fun _ σ H => tMkE C ta σ H fun cls d H' => W cls d σ H') := ps_raise hc tk (pmk_e T hr ha hg hdb he hpl)
theorem xf_of {prog : Program} {K : PySem.W.Frag} {mg : Str → Option Value} {x : Str} (T : PySem.Exo_side.Txt prog K mg x C fI) : XfC K C := ⟨T.ga, T.gg, T.exC, T.hdC⟩
end
end Com_side
set_option Elab.async false
set_option linter.all false
set_option maxRecDepth 100000
set_option maxHeartbeats 4000000
/-! Defs that raise, calls within a try. -/
namespace Com
open PySem PySem.Spec PyProof.Rows L2
/-- within a def that lets out what E allows: a callee of the same wish -/
theorem passE {P : Program} {w : World} {K : PySem.W.Frag} {mg : Str → Option Value} {base : Heap} {N : List Str} {qual : Str} {scope : Scope} {f : Addr} {cd : Value} {A : Around} {outer : List Env} {s : Shared} {H : Hp} {E : XK} :
    Passes (L2.CX P w) (cxOf (L2.CX P w) P w K mg base N qual scope f cd A outer s H E) E :=
  passes_call (X := cxOf (L2.CX P w) P w K mg base N qual scope f cd A outer s H E) (takes_of rfl rfl rfl rfl) fun _ _ _ _ h => h
section
variable {P : Program} {w : World} {K : PySem.W.Frag} {mg : Str → Option Value} {base : Heap} {x qual : Str} {C : Addr} {st : Stmt} {ps N : List Str} {k : Nat} {sp : Sp}
theorem DefAt.okX (D : DefAt K mg x st ps) (S : FnScope N ps (defScope st)) (len : ∀ vs H Q E, sp vs H Q E → vs.length = ps.length)
    (hbody : ∀ (f : Addr) (cdv : Value) (A : Around) (outer : List Env) (s : Shared) (H : Hp) (vs : List V) (Q : VK) (E : XK), Room k (A.deeper (envOfC x (defScope st) s.heap.objs.size f cdv)) → sp vs H Q E →
      ∃ t, PSs (cxOf (L2.CX P w) P w K mg base N x (defScope st) f cdv A outer s H E) (defBody st) t ∧ t { nx := fun _ H' => Q .non H', rt := Q } (start N vs) H) : DefOk P w K mg base (L2.CX P w) (k + 1) x sp := by
  obtain ⟨f, fd, F, m, b⟩ := D.ex
  exact ⟨f, raw0 (F.okX S len (fun cdv A outer s H vs Q E hr h => hbody f cdv A outer s H vs Q E hr h)) b, m, F.kp⟩
theorem MethAt.fnX (D : MethAt K C x qual st ps) (S : FnScope N ps (defScope st)) (len : ∀ vs H Q E, sp vs H Q E → vs.length = ps.length)
    (hbody : ∀ (f : Addr) (cdv : Value) (A : Around) (outer : List Env) (s : Shared) (H : Hp) (vs : List V) (Q : VK) (E : XK), Room k (A.deeper (envOfC qual (defScope st) s.heap.objs.size f cdv)) → sp vs H Q E →
      ∃ t, PSs (cxOf (L2.CX P w) P w K mg base N qual (defScope st) f cdv A outer s H E) (defBody st) t ∧ t { nx := fun _ H' => Q .non H', rt := Q } (start N vs) H) : MethOk P w K mg base (L2.CX P w) (k + 1) C x sp := by
  obtain ⟨f, fd, F, m, b⟩ := D.ex
  exact ⟨f, raw0 (F.okX S len (fun cdv A outer s H vs Q E hr h => hbody f cdv A outer s H vs Q E hr h)) b, m⟩
end
/-! ### calls whose wish about exceptions speaks of the slots -/
section
variable {X : Cx} {CX : CXT} {k j : Nat} {C f : Addr} {sp : Sp} {E : XK} {ES : L2.St → XK} {x m : Str} {p pos apos : Pos} {o e : Expr} {es : List Expr} {ta : TE} {t : TA}
theorem runS {pins : List (Addr × Obj)} {σ : L2.St} {H : Hp} {s : Shared} {Q : VK} {us : List Value} {vs : List V} (F : FnR X.prog X.w X.K X.mg X.base CX j f sp) (hr : Room k X.A) (hjk : j ≤ k) (hx : PassesAt CX X σ E) (I : Inv X pins σ H s) (r : Vals vs us) (h : sp vs H Q E) :
    wpAny (model X.prog X.w) X.A (call (.ref f) us) (EP X pins σ Q) X.xe s := by
  refine wpAny_call (codeAny_mono (F X.A X.stack s H us vs Q E (hr.mono hjk) I.env0 r h) fun r s' hq => ?_)
  cases r with
  | error e => exact hx pins H s e s' I hq
  | ok fl =>
    cases fl with
    | ret u => exact I.after hq
    | next => exact False.elim hq
    | brk => exact False.elim hq
    | cont => exact False.elim hq
theorem runNewS {pins : List (Addr × Obj)} {σ : L2.St} {H : Hp} {s : Shared} {Q : VK} {us : List Value} {vs : List V} (M : Mk X.K C f) (F : FnR X.prog X.w X.K X.mg X.base CX j f sp) (hr : Room (k + 1) X.A) (hjk : j ≤ k)
    (hx : PassesAt CX X σ E) (I : Inv X pins σ H s) (r : Vals vs us)
    (h : ∀ x dx, H x = none → H dx = none → dx ≠ x → sp (.ref x :: vs) (upd (upd H dx (.own x)) x (.ins C dx [])) (fun v H2 => v = .non ∧ Q (.ref x) H2) E) :
    wpAny (model X.prog X.w) X.A (call (.ref C) us) (EP X pins σ Q) X.xe s := by
  have hq := h (s.heap.objs.size + 1) s.heap.objs.size (I.hok.fresh (Nat.le_succ _)) (I.hok.fresh (Nat.le_refl _)) (Nat.ne_of_lt (Nat.lt_succ_self _))
  have I2 := Inv.made (C := C) I
  have r2 : Vals (V.ref (s.heap.objs.size + 1) :: vs) (Value.ref (s.heap.objs.size + 1) :: us) := .cons rfl r
  refine wpAny_call (make_map (f := f) I.kIn M.makes M.init (beq_iff_eq.mp M.fn) (codeAny_mono (F _ X.stack _ _ (Value.ref (s.heap.objs.size + 1) :: us) _ _ E ((hr.make C us []).mono hjk)
    (I2.env0.make C us []) r2 hq) fun r s' hq' => ?_))
  cases r with
  | error e => exact hx pins _ _ e s' I2 hq'
  | ok fl =>
    cases fl with
    | ret u =>
      obtain ⟨v, H', I3, rv, ev, q3⟩ := I2.after hq'
      subst ev
      exact ⟨rv, ⟨V.ref (s.heap.objs.size + 1), H', I3, rfl, q3⟩⟩
    | next => exact False.elim hq'
    | brk => exact False.elim hq'
    | cont => exact False.elim hq'
def tNewS (C : Addr) (sp : Sp) (ES : L2.St → XK) (t : TA) : TE := fun σ H Q => t σ H fun vs H1 => ∀ x dx, H1 x = none → H1 dx = none → dx ≠ x →
  sp (.ref x :: vs) (upd (upd H1 dx (.own x)) x (.ins C dx [])) (fun v H2 => v = .non ∧ Q (.ref x) H2) (ES σ)
def tMthS (C : Addr) (m : Str) (sp : Sp) (ES : L2.St → XK) (ta : TE) (t : TA) : TE := fun σ H Q => ta σ H fun x H1 => ∃ a dx fs, x = .ref a ∧ H1 a = some (.ins C dx fs) ∧ fs.lookup m = none ∧ t σ H1 fun vs H2 => sp (x :: vs) H2 Q (ES σ)
theorem pe_newS (M : NewOk X.prog X.w X.K X.mg X.base CX j x C sp) (hr : Room (k + 1) X.A) (hjk : j ≤ k) (hx : ∀ σ, PassesAt CX X σ (ES σ)) (ha : PA X (e :: es) t) (hg : Gl X x := by rfl) (hdb : (x == ("__debug__" : Str)) = false := by decide)
    (he : starEach (e :: es) X.env = (false, eval e X.env) :: starEach es X.env := by rfl) (hpl : (backTo pos (starEach es X.env)).any (·.1) = false := by rfl) :
    PE X (.Call (.Name x p) (e :: es) [] pos) (tNewS C sp ES t) := by
  obtain ⟨f, F, M1⟩ := M.ex
  refine ⟨fun pins s σ H Q I h => ?_⟩
  refine wpAny_Call_Name_kw (ld_glob I hg M.mg ?_ hdb)
  refine PySem.W.callWith_K (h₀ := X.base) I.ok.mod.kin M1.kp (thn (ha.run pos pins s σ H _ I h) fun us s1 ⟨vs, H1, I1, r, q⟩ => ⟨I1.kIn, ?_⟩) he hpl
  exact runNewS M1 F hr hjk (hx σ) I1 r q
theorem pe_mthS {pl : Sem Bool} (he : PE X o ta) (c : Cls X.K C) (M : MethOk X.prog X.w X.K X.mg X.base CX j C m sp) (hr : Room k X.A) (hjk : j ≤ k) (hx : ∀ σ, PassesAt CX X σ (ES σ)) (ha : PA X (e :: es) t)
    (hst : starEach (e :: es) X.env = (false, eval e X.env) :: starEach es X.env := by rfl) (hpl : (backTo pos (starEach es X.env)).any (·.1) = false := by rfl)
    (ht : eval (.Call (.Attribute o m apos) (e :: es) [] pos) X.env = (do
      let ov ← eval o X.env
      standAt apos.atName
      let (f, first) ← holding [ov] (getMethod ov m pl)
      callWith pos f first (backTo pos (starEach (e :: es) X.env)) (backToKw pos (keywordEach [] X.env))) := by rfl) :
    PE X (.Call (.Attribute o m apos) (e :: es) [] pos) (tMthS C m sp ES ta t) := by
  obtain ⟨g, F, hm⟩ := M.ex
  refine ⟨fun pins s σ H Q I h => ?_⟩
  refine PySem.W.methodCall_KW (pl := pl) (thn (he.run pins s σ H _ I h) fun u s1 ⟨x, H1, I1, rx, a, dx, fs, ex, ea, l, q⟩ => ?_) ht
  subst ex
  obtain rfl : u = Value.ref a := rx
  refine getmeth_ok I1 ea c hm l ?_
  refine PySem.W.callWith_K (first := [.ref a]) (h₀ := X.base) I.ok.mod.kin hm.kp (thn (ha.run pos pins s1 σ H1 _ I1 q) fun us s2 ⟨vs, H2, I2, r, q2⟩ => ⟨I2.kIn, ?_⟩) hst hpl
  exact runS (us := .ref a :: us) (vs := .ref a :: vs) F hr hjk (hx σ) I2 (.cons rfl r) q2
end
section
open ClX
variable {X : Cx} {CX : CXT} {k j : Nat} {C p g q : Addr} {mc : Value} {sp : Sp} {E : XK} {ES : L2.St → XK} {o e : Expr} {es : List Expr} {f m : Str} {pos apos : Pos} {ta : TE} {t : TA} {pl : Sem Bool}
theorem run_cmS {pins : List (Addr × Obj)} {σ : L2.St} {H : Hp} {s : Shared} {Q : VK} {us : List Value} {vs : List V} (F : FnR X.prog X.w X.K X.mg X.base CX j g sp) (hr : Room k X.A) (hjk : j ≤ k) (hx : PassesAt CX X σ E) (I : Inv X ((q, PySem.W.methodObj (.ref g) (.ref C)) :: pins) σ H s)
    (r : Vals vs us) (h : sp (.ref C :: vs) H Q E) : wpAny (model X.prog X.w) X.A (call (.ref q) us) (EP X pins σ Q) X.xe s := by
  refine thn (Q := EP X ((q, PySem.W.methodObj (.ref g) (.ref C)) :: pins) σ Q) (wpAny_call (PySem.W.method_call (pin_at I) (codeAny_mono (F X.A X.stack s H (.ref C :: us) (.ref C :: vs) Q E (hr.mono hjk) I.env0 (.cons rfl r) h) fun r s' hq => ?_))) fun _ _ y => unpinE y
  cases r with
  | error e => exact hx _ H s e s' I hq
  | ok fl =>
    cases fl with
    | ret u => exact I.after hq
    | next => exact False.elim hq
    | brk => exact False.elim hq
    | cont => exact False.elim hq
def tClsS (C : Addr) (sp : Sp) (ES : L2.St → XK) (ta : TE) (t : TA) : TE := fun σ H Q => ta σ H fun x H1 => x = .ref C ∧ t σ H1 fun vs H2 => sp (.ref C :: vs) H2 Q (ES σ)
theorem pe_clsS (he : PE X o ta) (M : CMethOk X.prog X.w X.K X.mg X.base CX j C m sp) (hr : Room k X.A) (hjk : j ≤ k) (hx : ∀ σ, PassesAt CX X σ (ES σ)) (ha : PA X (e :: es) t)
    (hst : starEach (e :: es) X.env = (false, eval e X.env) :: starEach es X.env := by rfl) (hpl : (backTo pos (starEach es X.env)).any (·.1) = false := by rfl)
    (ht : eval (.Call (.Attribute o m apos) (e :: es) [] pos) X.env = (do
      let ov ← eval o X.env
      standAt apos.atName
      let (f, first) ← holding [ov] (getMethod ov m pl)
      callWith pos f first (backTo pos (starEach (e :: es) X.env)) (backToKw pos (keywordEach [] X.env))) := by rfl) :
    PE X (.Call (.Attribute o m apos) (e :: es) [] pos) (tClsS C sp ES ta t) := by
  obtain ⟨mc, p, g, r, c, F⟩ := M.ex
  refine ⟨fun pins s σ H Q I h => ?_⟩
  refine PySem.W.methodCall_KW (pl := pl) (thn (he.run pins s σ H _ I h) fun u s1 ⟨x, H1, I1, rx, ex, q⟩ => ?_) ht
  subst ex
  obtain rfl : u = Value.ref C := rx
  refine getmethcm_ok I1 r c fun s2 I2 => ?_
  refine callwith_cm I2 (base_none I1 (Nat.le_refl _)) c.fi (thn (ha.run pos _ s2 σ H1 _ I2 q) fun us s3 ⟨vs, H2, I3, rv, q2⟩ => ⟨⟨pin_at I3, I3.kIn⟩, ?_⟩) hst hpl
  exact run_cmS F hr hjk (hx σ) I3 rv q2
end
/-! ### try: a call / except C as e: a suite of one statement -/
section
variable {X : Cx} {x n : Str} {i : Nat} {e : Expr} {suite : List Stmt} {b₀ : Stmt} {np pos pos' pos2 : Pos} {C fI : Addr} {te : WX → TE} {ts : Addr → Value → Option Addr → TS}
/-- in a def that lets nothing out -/
theorem ps_tryE (T : PySem.Exo.Txt X.prog X.K X.mg x C fI) (hN : X.N.Nodup) (hi : X.N[i]? = some n) (hln : X.env.kindOf n = some .local)
    (hb : ∀ (W : WX) (pn : List (Addr × Obj)) (xe : Value → Shared → Prop), Takes (X.tr pn xe) W → PE (X.tr pn xe) e (te W))
    (hsu : ∀ (a : Addr) (oe : Obj) (cls : Value) (d : Option Addr) (pn : List (Addr × Obj)), Zc cls d oe → (∃ vs, oe.data = .fields vs) → PSs (X.suite a ((a, oe) :: pn)) (b₀ :: suite) (ts a cls d))
    (hs : X.stack = X.env :: X.outer := by rfl) (hf : X.env.frame = some X.env.locals := by rfl) (hg : Gl X x := by rfl) (hdb : (x == ("__debug__" : Str)) = false := by decide) (hsw : swapsWith e none pos2.line X.env = pure false := by rfl) :
    PS X (.Try [.Expr e pos2] [.ExceptHandler (some (.Name x np)) (some n) (b₀ :: suite) pos'] [] [] pos) (fun D σ H => tDrop (te (wAs X.K (.ref C) i ts (fun _ _ _ _ => False) D)) D σ H) :=
  ps_try_as (tb := fun W => tDrop (te W)) hs hf hN hi hln ⟨hg, hdb, .inl T.gC⟩ takes0 (fun W pn xe tk _ => pss_one (ps_expr (hb W pn xe tk) hsw)) hsu
end
end Com
set_option Elab.async false
set_option linter.all false
set_option maxRecDepth 100000
set_option maxHeartbeats 4000000
/-! x == y, y of an own class, x of a built-in kind: the left side declines, the own __eq__ answers. -/
namespace Com
open PySem PySem.Spec PyProof.Rows L2 PySem.W
theorem int_eq_ins (a : Int) (t : Tok) (x dx C : Addr) :
    Meets (Builtin.«int.__eq__» ⟨[.int a t, .ref x], []⟩) (fun _ R s => s.heap.get? x = some (instObj C dx) ∧ R (.ok (.ret Value.notImplemented)) s) :=
  .of_wp fun prog w A R s h => by
    obtain ⟨hp, g, d, tk, os⟩ := s; obtain ⟨hl, h⟩ := h
    unfold instObj at hl
    wp_walk using wpAny_loadPart' hl
    exact ⟨_, rfl, h⟩
theorem bool_eq_ins (a : Bool) (x dx C : Addr) :
    Meets (Builtin.«int.__eq__» ⟨[.bool a, .ref x], []⟩) (fun _ R s => s.heap.get? x = some (instObj C dx) ∧ R (.ok (.ret Value.notImplemented)) s) :=
  .of_wp fun prog w A R s h => by
    obtain ⟨hp, g, d, tk, os⟩ := s; obtain ⟨hl, h⟩ := h
    unfold instObj at hl
    wp_walk using wpAny_loadPart' hl
    exact ⟨_, rfl, h⟩
theorem str_eq_ins (a : Str) (t : Tok) (x dx C : Addr) :
    Meets (Builtin.«str.__eq__» ⟨[.str a t, .ref x], []⟩) (fun _ R s => s.heap.get? x = some (instObj C dx) ∧ R (.ok (.ret Value.notImplemented)) s) :=
  .of_wp fun prog w A R s h => by
    obtain ⟨hp, g, d, tk, os⟩ := s; obtain ⟨hl, h⟩ := h
    unfold instObj at hl
    wp_walk using wpAny_loadPart' hl
    exact ⟨_, rfl, h⟩
theorem none_eq_ins (x dx C : Addr) :
    Meets (Builtin.«NoneType.__eq__» ⟨[.none, .ref x], []⟩) (fun _ R s => s.heap.get? x = some (instObj C dx) ∧ R (.ok (.ret Value.notImplemented)) s) :=
  .of_wp fun prog w A R s h => by
    obtain ⟨hp, g, d, tk, os⟩ := s; obtain ⟨hl, h⟩ := h
    unfold instObj at hl
    wp_walk using wpAny_loadPart' hl
    exact ⟨_, rfl, h⟩
theorem list_eq_ins (a x dx C : Addr) (o : Obj) (its : Array Value) (n : Nat) :
    Meets (Builtin.«list.__eq__» ⟨[.ref a, .ref x], []⟩) (fun _ R s => s.heap.get? x = some (instObj C dx) ∧ s.heap.get? a = some o ∧ o.cls = .type "list" ∧ (∀ M, PySem.W.Looks M s.heap (isSubtype (.ref C) (.type "list")) false) ∧ o.data = .seq its n ∧ R (.ok (.ret Value.notImplemented)) s) :=
  .of_wp fun prog w A R s h => by
    obtain ⟨hp, g, d, tk, os⟩ := s; obtain ⟨hl, ha, hc, hs, hd, h⟩ := h
    unfold instObj at hl
    wp_walk using wpAny_loadPart' hl, wpAny_loadPart' ha
    refine (hs _).here ?_
    wp_walk using wpAny_loadPart' hl, wpAny_loadPart' ha
    exact ⟨_, rfl, h⟩
theorem tuple_eq_ins (a x dx C : Addr) (o : Obj) (its : Array Value) (n : Nat) :
    Meets (Builtin.«tuple.__eq__» ⟨[.ref a, .ref x], []⟩) (fun _ R s => s.heap.get? x = some (instObj C dx) ∧ s.heap.get? a = some o ∧ o.cls = .type "tuple" ∧ (∀ M, PySem.W.Looks M s.heap (isSubtype (.ref C) (.type "tuple")) false) ∧ o.data = .seq its n ∧ R (.ok (.ret Value.notImplemented)) s) :=
  .of_wp fun prog w A R s h => by
    obtain ⟨hp, g, d, tk, os⟩ := s; obtain ⟨hl, ha, hc, hs, hd, h⟩ := h
    unfold instObj at hl
    wp_walk using wpAny_loadPart' hl, wpAny_loadPart' ha
    refine (hs _).here ?_
    wp_walk using wpAny_loadPart' hl, wpAny_loadPart' ha
    exact ⟨_, rfl, h⟩
theorem dict_eq_ins (a x dx C : Addr) (o : Obj) (es : Array DictEntry) (n : Nat) :
    Meets (Builtin.«dict.__eq__» ⟨[.ref a, .ref x], []⟩) (fun _ R s => s.heap.get? x = some (instObj C dx) ∧ s.heap.get? a = some o ∧ o.cls = .type "dict" ∧ (∀ M, PySem.W.Looks M s.heap (isSubtype (.ref C) (.type "dict")) false) ∧ o.data = .dict es n ∧ R (.ok (.ret Value.notImplemented)) s) :=
  .of_wp fun prog w A R s h => by
    obtain ⟨hp, g, d, tk, os⟩ := s; obtain ⟨hl, ha, hc, hs, hd, h⟩ := h
    unfold instObj at hl
    wp_walk using wpAny_loadPart' hl, wpAny_loadPart' ha
    refine (hs _).here ?_
    wp_walk using wpAny_loadPart' hl, wpAny_loadPart' ha
    exact ⟨_, rfl, h⟩
end Com
namespace Com
open PySem PySem.Spec PyProof.Rows L2 PySem.W
section
variable {prog : Program} {w : World} {A : Around} {E : Value → Shared → Prop} {s : Shared} {K : Frag} {x C L f : Addr} {h₀ : Heap} {m : Str → Option Value} {ox : Obj} {od : Option Obj}
theorem rcmp_K {a : Value} {T : String} {Q : Value → Shared → Prop} (hu : A.units < cLine) (F : Fr h₀ L s.heap m) (X₀ : K.In h₀) (I : InstAt s.heap x ox C od) (ha : Looks (model prog w) s.heap (typeOf a) (.type T)) (hone : oneThing? .Eq a (.ref x) = none)
    (hsub : subIn K (.ref C) (.type T) = some false) (hdec : wpAny (model prog w) A (tryCompare a "__eq__" (.ref x)) (fun r s' => r = none ∧ s' = s) E s) (hs : findIn K (.ref C) "__eq__" = some (some (.ref f))) (hf : isFn K (.ref f) = true)
    (h : wpAny (model prog w) A (call (.ref f) [.ref x, a]) (PySem.W.CmpBack Q) E s) : wpAny (model prog w) A (richCompare .Eq a (.ref x)) Q E s := by
  have X := X₀.keeps F.keep
  have one : wpAny (model prog w) A (tryCompare (.ref x) "__eq__" a) (fun r s' => ∃ v, r = some v ∧ Q v s') E s := by
    unfold tryCompare
    refine wpAny_bind (ifBound_K X I hs hf (wpAny_mono h (fun v s' hv => ?_) fun _ _ e => e))
    cases v <;> first | exact hv.elim | exact wpAny_pure ⟨_, rfl, hv⟩
  have hne : (Value.type T != Value.ref C) = true := by simp
  unfold richCompare
  simp only [hone]
  refine wpAny_holding (wpAny_bind (wpAny_cRoomFor hu ?_))
  refine wpAny_bind (ha.here (wpAny_bind (I.type.here ?_)))
  rw [if_pos hne]
  refine wpAny_bind ((looks_subIn X hsub).here ?_)
  simp only [Bool.false_eq_true, if_false]
  refine wpAny_bind (wpAny_mono hdec (fun r s' z => ?_) fun _ _ e => e)
  obtain ⟨rfl, rfl⟩ := z
  simp only [Bool.not_false, if_true]
  refine wpAny_bind (wpAny_mono one (fun r s' z => ?_) fun _ _ e => e)
  obtain ⟨v, rfl, hq⟩ := z
  exact wpAny_pure hq
end
end Com
namespace Com
open PySem PySem.Spec PyProof.Rows L2
/-- a left side that declines -/
inductive Left (H : Hp) : V → String → Prop where
  | non : Left H .non "NoneType"
  | bl (b : Bool) : Left H (.bl b) "bool"
  | int (i : Int) : Left H (.int i) "int"
  | str (x : Str) : Left H (.str x) "str"
  | lst {a : Addr} {xs : List V} (e : H a = some (.lst xs)) : Left H (.ref a) "list"
  | tup {a : Addr} {xs : List V} (e : H a = some (.tup xs)) : Left H (.ref a) "tuple"
  | dK {a : Addr} {kvs : List (Key × V)} (e : H a = some (.dK kvs)) : Left H (.ref a) "dict"
def rEqR (K : PySem.W.Frag) (C : Addr) (sp : Sp) (E : XK) : R2 := fun x y H Q => ∃ (T : String) (b dy : Addr) (gs : List (Str × V)), Left H x T ∧ y = .ref b ∧ H b = some (.ins C dy gs) ∧ PySem.W.subIn K (.ref C) (.type T) = some false ∧ sp [y, x] H Q E
theorem eqR (K : PySem.W.Frag) {X : Cx} {CX : CXT} {k j : Nat} {C : Addr} {sp : Sp} {E : XK} (M : MethOk X.prog X.w X.K X.mg X.base CX j C "__eq__" sp) (hr : Room k X.A) (hjk : j ≤ k) (hx : Passes CX X E) (hK : X.K = K := by rfl) : OpR X (compareOp .Eq) (rEqR K C sp E) := by
  subst hK
  obtain ⟨g, FR, hm⟩ := M.ex
  intro pins s σ H x y v u Q I rx ry h
  obtain ⟨T, b, dy, gs, lf, rfl, hb, hsub, q⟩ := h
  cases (show u = Value.ref b from ry)
  obtain ⟨mB, O, _⟩ := ins_get I.hok hb
  have hobj := O.obj
  obtain ⟨od, J, _⟩ := O.look
  obtain ⟨mm, hF⟩ := I.fr
  have run : wpAny (model X.prog X.w) X.A (call (.ref g) [.ref b, v]) (PySem.W.CmpBack (EP X pins σ Q)) X.xe s := by
    refine wpAny_mono (runR (us := [.ref b, v]) (vs := [.ref b, x]) FR hr hjk hx I (.cons rfl (.cons rx .nil)) q) (fun w s' z => ?_) fun _ _ x => x
    obtain ⟨z', H', I', rz, qz⟩ := z
    exact SlX.cmpback rz ⟨z', H', I', rz, qz⟩
  have hsb : ∀ M, PySem.W.Looks M s.heap (isSubtype (.ref C) (.type T)) false := fun M => PySem.W.looks_subIn I.kIn hsub
  show wpAny (model X.prog X.w) X.A (richCompare .Eq v (.ref b)) (EP X pins σ Q) X.xe s
  cases lf with
  | non =>
    obtain rfl : v = Value.none := rx
    have hT : s.TypeIs .none "NoneType" := rfl
    exact rcmp_K (T := "NoneType") hr.units0 hF I.ok.mod.kin J (PySem.W.Looks.of_pure rfl) rfl hsub (wpAny_tryCompare_declines hT F.slot_NoneType_eq (call_meets F.slot_NoneType_eq hT F.entry_NoneType_eq (F.args_NoneType_eq_2 _ _) (none_eq_ins b dy C) ⟨hobj, rfl, rfl, rfl⟩)) hm.at_ hm.fn run
  | bl i =>
    obtain rfl : v = Value.bool i := rx
    have hT : s.TypeIs (.bool i) "bool" := rfl
    exact rcmp_K (T := "bool") hr.units0 hF I.ok.mod.kin J (PySem.W.Looks.of_pure rfl) rfl hsub (wpAny_tryCompare_declines hT F.slot_bool_eq (call_meets F.slot_bool_eq hT F.entry_int_eq (F.args_int_eq_2 _ _) (bool_eq_ins i b dy C) ⟨hobj, rfl, rfl, rfl⟩)) hm.at_ hm.fn run
  | int i =>
    obtain ⟨t, rfl⟩ := (show ∃ t, v = Value.int i t from rx)
    have hT : s.TypeIs (.int i t) "int" := rfl
    exact rcmp_K (T := "int") hr.units0 hF I.ok.mod.kin J (PySem.W.Looks.of_pure rfl) rfl hsub (wpAny_tryCompare_declines hT F.slot_int_eq (call_meets F.slot_int_eq hT F.entry_int_eq (F.args_int_eq_2 _ _) (int_eq_ins i t b dy C) ⟨hobj, rfl, rfl, rfl⟩)) hm.at_ hm.fn run
  | str i =>
    obtain ⟨t, rfl⟩ := (show ∃ t, v = Value.str i t from rx)
    have hT : s.TypeIs (.str i t) "str" := rfl
    exact rcmp_K (T := "str") hr.units0 hF I.ok.mod.kin J (PySem.W.Looks.of_pure rfl) rfl hsub (wpAny_tryCompare_declines hT F.slot_str_eq (call_meets F.slot_str_eq hT F.entry_str_eq (F.args_str_eq_2 _ _) (str_eq_ins i t b dy C) ⟨hobj, rfl, rfl, rfl⟩)) hm.at_ hm.fn run
  | @lst a xs e =>
    obtain rfl : v = Value.ref a := rx
    obtain ⟨_, its, n, r, ho⟩ := I.hok _ _ e
    have hT : s.TypeIs (.ref a) "list" := ⟨_, ho, rfl⟩
    exact rcmp_K (T := "list") hr.units0 hF I.ok.mod.kin J (fun A Q E s k q => wpAny_typeOf_ref (k _ _ ho) q) rfl hsub (wpAny_tryCompare_declines hT F.slot_list_eq (call_meets F.slot_list_eq hT F.entry_list_eq (F.args_list_eq_2 _ _) (list_eq_ins a b dy C _ _ n) ⟨hobj, ho, rfl, hsb, rfl, rfl, rfl, rfl⟩)) hm.at_ hm.fn run
  | @tup a xs e =>
    obtain rfl : v = Value.ref a := rx
    obtain ⟨_, its, r, o, ho, hc, n, hd⟩ := I.hok _ _ e
    have hT : s.TypeIs (.ref a) "tuple" := ⟨_, ho, hc⟩
    exact rcmp_K (T := "tuple") hr.units0 hF I.ok.mod.kin J (fun A Q E s k q => wpAny_typeOf_ref (k _ _ ho) (by rw [hc]; exact q)) rfl hsub (wpAny_tryCompare_declines hT F.slot_tuple_eq (call_meets F.slot_tuple_eq hT F.entry_tuple_eq (F.args_tuple_eq_2 _ _) (tuple_eq_ins a b dy C o _ n) ⟨hobj, ho, hc, hsb, hd, rfl, rfl, rfl⟩)) hm.at_ hm.fn run
  | @dK a kvs e =>
    obtain rfl : v = Value.ref a := rx
    obtain ⟨_, _, vs, _, o, es, ep, ho, hc, hd, _⟩ := I.hok _ _ e
    have hT : s.TypeIs (.ref a) "dict" := ⟨_, ho, hc.1⟩
    exact rcmp_K (T := "dict") hr.units0 hF I.ok.mod.kin J (fun A Q E s k q => wpAny_typeOf_ref (k _ _ ho) (by rw [hc.1]; exact q)) rfl hsub (wpAny_tryCompare_declines hT F.slot_dict_eq (call_meets F.slot_dict_eq hT F.entry_dict_eq (F.args_dict_eq_2 _ _) (dict_eq_ins a b dy C o es ep) ⟨hobj, ho, hc.1, hsb, hd, rfl, rfl, rfl⟩)) hm.at_ hm.fn run
end Com
set_option Elab.async false
set_option linter.all false
set_option maxRecDepth 100000
set_option maxHeartbeats 4000000
/-! What the laws' texts say of flows, exchanges, kinds: the promises, not yet any def. -/
namespace Gn
open PySem PySem.Spec PyProof.Rows L2 Com
/-! ### the draws -/
def spFlow (K : PySem.W.Frag) : Sp := fun vs H Q _ => ∃ (a : Addr) (ns : List Int) (k : Nat), vs = [.ref a, .int (k : Int)] ∧ SqL K H a (ns.map V.int) ∧ ns.length ≤ 63 ∧ k ≤ 1000 ∧
  ∀ p H', H p = none → FlowAt H' p → But p H H' → Q (.ref p) H'
def spPick : Sp := fun vs H Q _ => ∃ (a : Addr) (size : Int), vs = [.ref a, .int size] ∧ FlowAt H a ∧ 1 ≤ size ∧ size < 2 ^ 200 ∧
  ∀ d H', 0 ≤ d → d < size → FlowAt H' a → But a H H' → Q (.int d) H'
/-! ### kinds -/
def spPlain (K : PySem.W.Frag) : Sp := fun vs H Q _ => ∃ x b, vs = [x] ∧ PlainI K H x b ∧ Q (.bl b) H
/-! ### exchanges -/
def spWithin (K : PySem.W.Frag) : Sp := fun vs H Q _ => ∃ x lo hi b, vs = [x, .int lo, .int hi] ∧ InR K H x lo hi b ∧ Q (.bl b) H
/-- a side: a tuple of 1 to 4 integers from 1 to 4; the answer for any value -/
def SideV (K : PySem.W.Frag) (H : Hp) (x : V) (b : Bool) : Prop :=
  (∃ (a : Addr) (xs : List V) (bs : List Bool), x = .ref a ∧ H a = some (.tup xs) ∧ bs.length = xs.length ∧ (∀ (i : Nat) v c, xs[i]? = some v → bs[i]? = some c → InR K H v 1 4 c) ∧ b = (decide (1 ≤ xs.length) && decide (xs.length ≤ 4) && bs.all id)) ∨
  (∃ t, TyX K H x t ∧ PySem.W.kitOne K t (.type "tuple") = some false ∧ b = false)
def spSide (K : PySem.W.Frag) : Sp := fun vs H Q _ => ∃ x b, vs = [x] ∧ SideV K H x b ∧ ∀ H', Same H H' → Q (.bl b) H'
/-! ### the class Exchange, by good arguments -/
def exF (i o : Addr) (m : Int) : List (Str × V) := [("ins", .ref i), ("outs", .ref o), ("middles", .int m)]
/-- an exchange at p: its sides at i, o -/
def ExO (C : Addr) (H : Hp) (p i o : Addr) (m : Int) : Prop := ∃ dx, H p = some (.ins C dx (exF i o m))
def Good (ds : List Int) : Prop := 1 ≤ ds.length ∧ ds.length ≤ 4 ∧ ∀ d ∈ ds, 1 ≤ d ∧ d ≤ 4
def Tup (H : Hp) (i : Addr) (ds : List Int) : Prop := H i = some (.tup (ds.map V.int))
theorem Good.side {K : PySem.W.Frag} {H : Hp} {i : Addr} {ds : List Int} (g : Good ds) (h : Tup H i ds) : SideV K H (.ref i) true := by
  obtain ⟨g1, g2, g3⟩ := g
  refine .inl ⟨i, _, List.replicate ds.length true, rfl, h, by simp, fun j v c h1 h2 => ?_, ?_⟩
  · rw [List.getElem?_map] at h1
    cases e : ds[j]? with
    | none =>
      rw [e] at h1
      cases h1
    | some z =>
      rw [e] at h1
      cases h1
      have hc : c = true := by
        have := List.mem_of_getElem? h2
        exact (List.mem_replicate.mp this).2
      subst hc
      have hz := g3 z (List.mem_of_getElem? e)
      exact InR.good hz.1 hz.2
  · rw [List.length_map, decide_eq_true g1, decide_eq_true g2]
    simp
/-- what the top has made of the class -/
structure ExT (K : PySem.W.Frag) (mg : Str → Option Value) (C : Addr) : Prop where
  cl : Cls K C
  nI : NoAttr K C "ins"
  nO : NoAttr K C "outs"
  nM : NoAttr K C "middles"
  ca : PySem.W.findIn K (.ref C) "__class__" = some (some (.builtin "object.__class__"))
  cn : PySem.W.specialIn K (.builtin "object.__class__") "__get__" = some (some (.builtin "getset_descriptor.__get__"))
  ct : PySem.W.takesIn K (.builtin "object.__class__") = some true
  cm : PySem.W.mroIn K C (.type "object") = some true
  kS : PySem.W.kitOne K (.ref C) (.ref C) = some true
  kT : PySem.W.kitOne K (.type "tuple") (.ref C) = some false
  kI : PySem.W.kitOne K (.type "int") (.ref C) = some false
  fS : PySem.W.notFirst K C (.ref C) = true
  fT : PySem.W.notFirst K C (.type "tuple") = true
  fI : PySem.W.notFirst K C (.type "int") = true
  g_Exchange : mg "Exchange" = some (.ref C)
theorem exTy {K : PySem.W.Frag} {mg : Str → Option Value} {C : Addr} (T : ExT K mg C) {H : Hp} {p dx : Addr} {fs : List (Str × V)} (h : H p = some (.ins C dx fs)) : TyX K H (.ref p) (.ref C) := .base (.ins h T.cl T.ca T.cn T.ct T.cm)
def Old (p : Addr) (H H' : Hp) : Prop := ∀ b o, H b = some o → b ≠ p → H' b = some o
def spInit (C : Addr) : Sp := fun vs H Q _ => ∃ (p dx i o : Addr) (ds es : List Int) (m : Int), vs = [.ref p, .ref i, .ref o, .int m] ∧ H p = some (.ins C dx []) ∧ Tup H i ds ∧ Good ds ∧ Tup H o es ∧ Good es ∧ 1 ≤ m ∧ m ≤ 7 ∧
  ∀ H', ExO C H' p i o m → Old p H H' → Q .non H'
theorem no1 : ¬ (("ins" : Str) = "outs") := by decide +kernel
theorem no2 : ¬ (("ins" : Str) = "middles") := by decide +kernel
theorem no3 : ¬ (("outs" : Str) = "middles") := by decide +kernel
theorem exF_put (i o : Addr) (m : Int) : putF "middles" (.int m) (putF "outs" (.ref o) (putF "ins" (.ref i) [])) = exF i o m := by
  rw [putF_nil, putF_ne no1, putF_nil, putF_ne no2, putF_ne no3, putF_nil]
  rfl
theorem exF_ins (i o : Addr) (m : Int) : (exF i o m).lookup ("ins" : Str) = some (.ref i) := lk_eq
theorem exF_outs (i o : Addr) (m : Int) : (exF i o m).lookup ("outs" : Str) = some (.ref o) := by
  unfold exF
  rw [lk_ne (by decide +kernel), lk_eq]
theorem exF_middles (i o : Addr) (m : Int) : (exF i o m).lookup ("middles" : Str) = some (.int m) := by
  unfold exF
  rw [lk_ne (by decide +kernel), lk_ne (by decide +kernel), lk_eq]
theorem exF_no (i o : Addr) (m : Int) {f : Str} (h1 : (f == ("ins" : Str)) = false) (h2 : (f == ("outs" : Str)) = false) (h3 : (f == ("middles" : Str)) = false) : (exF i o m).lookup f = none := by
  unfold exF
  rw [lk_ne h1, lk_ne h2, lk_ne h3]
  rfl
theorem Same.tup {H H' : Hp} (s : Same H H') {i : Addr} {ds : List Int} (h : Tup H i ds) : Tup H' i ds := s _ _ h
theorem Same.exO {C : Addr} {H H' : Hp} (s : Same H H') {p i o : Addr} {m : Int} (h : ExO C H p i o m) : ExO C H' p i o m := let ⟨dx, e⟩ := h; ⟨dx, s _ _ e⟩
/-! ### the methods of an exchange -/
theorem new_ex {C : Addr} {H : Hp} {Q : VK} {E : XK} {i o : Addr} {ds es : List Int} {m : Int} (hi : Tup H i ds) (gi : Good ds) (ho : Tup H o es) (go : Good es) (m1 : 1 ≤ m) (m2 : m ≤ 7)
    (q : ∀ x H', H x = none → ExO C H' x i o m → Same H H' → Q (.ref x) H') : ∀ x dx, H x = none → H dx = none → dx ≠ x →
    spInit C (.ref x :: [.ref i, .ref o, .int m]) (upd (upd H dx (.own x)) x (.ins C dx [])) (fun v H2 => v = .non ∧ Q (.ref x) H2) E := by
  intro x dx hx hdx ne
  refine ⟨x, dx, i, o, ds, es, m, rfl, upd_same, ?_, gi, ?_, go, m1, m2, fun H' ex old => ⟨rfl, q x H' hx ex (Same.made hx hdx old)⟩⟩
  · show upd _ _ _ i = _
    rw [upd_ne (ne_of_none hi hx), upd_ne (ne_of_none hi hdx)]
    exact hi
  · show upd _ _ _ o = _
    rw [upd_ne (ne_of_none ho hx), upd_ne (ne_of_none ho hdx)]
    exact ho
theorem new_ex' {C : Addr} {H : Hp} {R : VK} {E : XK} {i o x dx : Addr} {ds es : List Int} {m : Int} (hi : Tup H i ds) (gi : Good ds) (ho : Tup H o es) (go : Good es) (m1 : 1 ≤ m) (m2 : m ≤ 7) (hx : H x = none) (hdx : H dx = none)
    (q : ∀ H', ExO C H' x i o m → Same H H' → R .non H') : spInit C (.ref x :: [.ref i, .ref o, .int m]) (upd (upd H dx (.own x)) x (.ins C dx [])) R E := by
  refine ⟨x, dx, i, o, ds, es, m, rfl, upd_same, ?_, gi, ?_, go, m1, m2, fun H' ex old => q H' ex (Same.made hx hdx old)⟩
  · show upd _ _ _ i = _
    rw [upd_ne (ne_of_none hi hx), upd_ne (ne_of_none hi hdx)]
    exact hi
  · show upd _ _ _ o = _
    rw [upd_ne (ne_of_none ho hx), upd_ne (ne_of_none ho hdx)]
    exact ho
/-- p an exchange whose sides at i, o are ds, es -/
structure ExAt (C : Addr) (H : Hp) (p i o : Addr) (ds es : List Int) (m : Int) : Prop where
  ob : ExO C H p i o m
  ti : Tup H i ds
  gi : Good ds
  to : Tup H o es
  go : Good es
  m1 : 1 ≤ m
  m2 : m ≤ 7
theorem ExAt.same {C : Addr} {H H' : Hp} {p i o : Addr} {ds es : List Int} {m : Int} (s : Same H H') (h : ExAt C H p i o ds es m) : ExAt C H' p i o ds es m := ⟨Same.exO s h.ob, Same.tup s h.ti, h.gi, Same.tup s h.to, h.go, h.m1, h.m2⟩
theorem rep_good {s d : Int} (s1 : 1 ≤ s) (s2 : s ≤ 4) (d1 : 1 ≤ d) (d2 : d ≤ 4) : Good (List.replicate s.toNat d) := by
  refine ⟨by rw [List.length_replicate]; omega, by rw [List.length_replicate]; omega, fun z hz => ?_⟩
  rw [(List.mem_replicate.mp hz).2]
  exact ⟨d1, d2⟩
theorem rep_tup {H : Hp} {i : Addr} {z d : Int} (hi : H i = some (.tup (List.replicate z.toNat [V.int d]).flatten)) : Tup H i (List.replicate z.toNat d) := by
  show H i = _
  rw [hi]
  congr 2
  rw [List.map_replicate]
  induction z.toNat with
  | zero => rfl
  | succ n ih => rw [List.replicate_succ, List.replicate_succ, List.flatten_cons, ih]; rfl
/-! ### pairs, square -/
def spPairs (C : Addr) : Sp := fun vs H Q _ => ∃ (p i o : Addr) (ds es : List Int) (m : Int), vs = [.ref p] ∧ ExAt C H p i o ds es m ∧ ∀ D H' xs, H D = none → H' D = some (.lst xs) → PairsV H' xs (pairsL ds.length es.length) → Same H H' → Q (.ref D) H'
/-! ### the law's own helpers -/
def spDoors : Sp := fun vs H Q _ => ∃ (a : Addr) (most d : Int), vs = [.ref a, .int most, .int d] ∧ FlowAt H a ∧ 1 ≤ most ∧ most ≤ 4 ∧ 1 ≤ d ∧ d ≤ 4 ∧
  ∀ i ds H', H i = none → Tup H' i ds → Good ds → FlowAt H' a → Old a H H' → Q (.ref i) H'
theorem small200 {x : Int} (h : x ≤ 1000) : x < 2 ^ 200 := by
  have : (1000 : Int) < 2 ^ 200 := by decide
  omega
theorem But.old {a : Addr} {H H' : Hp} (h : But a H H') : Old a H H' := fun b o e ne => by rw [h b ne]; exact e
theorem Old.trans {a : Addr} {H H1 H2 : Hp} (h : Old a H H1) (g : Old a H1 H2) : Old a H H2 := fun b o e ne => g b o (h b o e ne) ne
/-! ### kept: all but lists stay, lists stay lists -/
def Kept (H H' : Hp) : Prop := (∀ b o, H b = some o → (∀ xs, o ≠ .lst xs) → H' b = some o) ∧ ∀ b xs, H b = some (.lst xs) → ∃ ys, H' b = some (.lst ys)
theorem Kept.trans {H H1 H2 : Hp} (a : Kept H H1) (b : Kept H1 H2) : Kept H H2 := ⟨fun c o e n => b.1 c o (a.1 c o e n) n, fun c xs e => let ⟨ys, e1⟩ := a.2 c xs e; b.2 c ys e1⟩
theorem Kept.of {H H' : Hp} (s : Same H H') : Kept H H' := ⟨fun b o e _ => s b o e, fun b xs e => ⟨xs, s b _ e⟩⟩
theorem Kept.but {a : Addr} {H H' : Hp} (h : But a H H') (f : FlowAt H a) (f' : FlowAt H' a) : Kept H H' := by
  obtain ⟨n, c, r, e0⟩ := f
  obtain ⟨n', c', r', e1⟩ := f'
  refine ⟨fun b o e ne => ?_, fun b xs e => ?_⟩
  · rw [h b (fun z => by rw [z, e0] at e; cases e; exact ne _ rfl)]
    exact e
  · by_cases z : b = a
    · rw [z]
      exact ⟨_, e1⟩
    · rw [h b z]
      exact ⟨xs, e⟩
theorem TyX.kept {K : PySem.W.Frag} {H H' : Hp} (s : Kept H H') {x : V} {t : Value} (h : TyX K H x t) : TyX K H' x t := by
  cases h with
  | base h =>
    refine .base ?_
    cases h with
    | non => exact .non
    | bl x => exact .bl x
    | int i => exact .int i
    | str x => exact .str x
    | flt x => exact .flt x
    | lst e => obtain ⟨ys, e1⟩ := s.2 _ _ e; exact .lst e1
    | frz e => exact .frz (s.1 _ _ e fun _ z => by cases z)
    | tup e => exact .tup (s.1 _ _ e fun _ z => by cases z)
    | dK e => exact .dK (s.1 _ _ e fun _ z => by cases z)
    | dT e => exact .dT (s.1 _ _ e fun _ z => by cases z)
    | ins e cl ha hn htk hm => exact .ins (s.1 _ _ e fun _ z => by cases z) cl ha hn htk hm
  | byt b => exact .byt b
  | set e => exact .set (s.1 _ _ e fun _ z => by cases z)
  | kList e c => exact .kList e c
  | kTuple e c => exact .kTuple e c
  | kDict e c => exact .kDict e c
  | fTuple e => exact .fTuple (s.1 _ _ e fun _ z => by cases z)
  | fDict e => exact .fDict (s.1 _ _ e fun _ z => by cases z)
theorem PlainI.kept {K : PySem.W.Frag} {H H' : Hp} (s : Kept H H') {x : V} {b : Bool} (h : PlainI K H x b) : PlainI K H' x b := let ⟨t, b1, ty, r⟩ := h; ⟨t, b1, TyX.kept s ty, r⟩
theorem InR.kept {K : PySem.W.Frag} {H H' : Hp} (s : Kept H H') {x : V} {lo hi : Int} {b : Bool} (h : InR K H x lo hi b) : InR K H' x lo hi b := h.elim .inl fun ⟨p, e⟩ => .inr ⟨PlainI.kept s p, e⟩
theorem SideV.kept {K : PySem.W.Frag} {H H' : Hp} (s : Kept H H') {x : V} {b : Bool} (h : SideV K H x b) : SideV K H' x b := by
  rcases h with ⟨a, xs, bs, e, hx, hl, hin, hb⟩ | ⟨t, ty, k, hb⟩
  · exact .inl ⟨a, xs, bs, e, s.1 _ _ hx (fun _ z => by cases z), hl, fun i v c h1 h2 => InR.kept s (hin i v c h1 h2), hb⟩
  · exact .inr ⟨t, TyX.kept s ty, k, hb⟩
theorem InR.true_int {K : PySem.W.Frag} {H : Hp} {x : V} {lo hi : Int} (h : InR K H x lo hi true) : ∃ i, x = .int i ∧ lo ≤ i ∧ i ≤ hi := by
  rcases h with ⟨i, e, hb⟩ | ⟨_, hb⟩
  · have := (Bool.and_eq_true_iff.mp hb.symm)
    exact ⟨i, e, of_decide_eq_true this.1, of_decide_eq_true this.2⟩
  · cases hb
/-! ### odd values -/
theorem Kept.old {a : Addr} {H H' : Hp} (h : Old a H H') (f : FlowAt H a) (f' : FlowAt H' a) : Kept H H' := by
  obtain ⟨n, c, r, e0⟩ := f
  obtain ⟨n', c', r', e1⟩ := f'
  refine ⟨fun b o e ne => h b o e (fun z => by rw [z, e0] at e; cases e; exact ne _ rfl), fun b xs e => ?_⟩
  by_cases z : b = a
  · rw [z]
    exact ⟨_, e1⟩
  · exact ⟨xs, h b _ e z⟩
def Ins (K : PySem.W.Frag) (H : Hp) (xs : List V) (bs : List Bool) : Prop := bs.length = xs.length ∧ ∀ (i : Nat) v c, xs[i]? = some v → bs[i]? = some c → InR K H v 1 4 c
section
variable {K : PySem.W.Frag} {H : Hp}
theorem Ins.app {xs ys : List V} {bs cs : List Bool} (h : Ins K H xs bs) (g : Ins K H ys cs) : Ins K H (xs ++ ys) (bs ++ cs) := by
  refine ⟨by rw [List.length_append, List.length_append, h.1, g.1], fun i v c e1 e2 => ?_⟩
  by_cases lt : i < xs.length
  · rw [List.getElem?_append_left lt] at e1
    rw [List.getElem?_append_left (by rw [h.1]; exact lt)] at e2
    exact h.2 i v c e1 e2
  · rw [List.getElem?_append_right (by omega)] at e1
    rw [List.getElem?_append_right (by rw [h.1]; omega), h.1] at e2
    exact g.2 _ v c e1 e2
theorem Ins.one {v : V} {c : Bool} (h : InR K H v 1 4 c) : Ins K H [v] [c] := by
  refine ⟨rfl, fun i x d e1 e2 => ?_⟩
  cases i with
  | zero =>
    cases e1
    cases e2
    exact h
  | succ n => simp at e1
theorem Ins.good {ds : List Int} (h : ∀ d ∈ ds, 1 ≤ d ∧ d ≤ 4) : Ins K H (ds.map V.int) (List.replicate ds.length true) := by
  refine ⟨by simp, fun i v c e1 e2 => ?_⟩
  rw [List.getElem?_map] at e1
  cases e : ds[i]? with
  | none =>
    rw [e] at e1
    cases e1
  | some z =>
    rw [e] at e1
    cases e1
    have hc : c = true := (List.mem_replicate.mp (List.mem_of_getElem? e2)).2
    subst hc
    have hz := h z (List.mem_of_getElem? e)
    exact InR.good hz.1 hz.2
theorem side_no {p : Addr} {xs : List V} {bs : List Bool} (h : H p = some (.tup xs)) (i : Ins K H xs bs) (hb : (decide (1 ≤ xs.length) && decide (xs.length ≤ 4) && bs.all id) = false) : SideV K H (.ref p) false := .inl ⟨p, xs, bs, rfl, h, i.1, i.2, hb.symm⟩
theorem side_ty {x : V} {t : Value} (ty : TyX K H x t) (k : PySem.W.kitOne K t (.type "tuple") = some false) : SideV K H x false := .inr ⟨t, ty, k, rfl⟩
theorem in_ty {x : V} {t : Value} {lo hi : Int} (ty : TyX K H x t) (k : PySem.W.kitOne K t (.type "int") = some false) : InR K H x lo hi false := .inr ⟨⟨t, false, ty, k, fun _ => rfl, (fun h => nomatch h)⟩, rfl⟩
theorem in_bl {b : Bool} {lo hi : Int} : InR K H (.bl b) lo hi false := .inr ⟨⟨.type "bool", true, .base (.bl b), kit_ty (by decide +kernel), (fun h => nomatch h), fun _ => ⟨true, kit_ty (by decide +kernel), rfl⟩⟩, rfl⟩
theorem in_out {i lo hi : Int} (h : ¬ (lo ≤ i ∧ i ≤ hi)) : InR K H (.int i) lo hi false := .inl ⟨i, rfl, by
  by_cases a : lo ≤ i
  · rw [decide_eq_false (fun b => h ⟨a, b⟩), Bool.and_false]
  · rw [decide_eq_false a, Bool.false_and]⟩
end
theorem cut_to (xs : List V) {k : Int} (h : 0 ≤ k) : cutV xs none (some k) = xs.take k.toNat := by
  unfold cutV
  rw [HT.sIx_none]
  show List.take ((if k < 0 then (k + (xs.length : Int)).toNat else min k.toNat xs.length) - 0) (xs.drop 0) = _
  rw [if_neg (by omega), List.drop_zero, Nat.sub_zero]
  by_cases c : k.toNat ≤ xs.length
  · rw [Nat.min_eq_left c]
  · rw [Nat.min_eq_right (by omega), List.take_length, List.take_of_length_le (by omega)]
theorem cut_from (xs : List V) {k : Int} (h : 0 ≤ k) : cutV xs (some k) none = xs.drop k.toNat := by
  unfold cutV
  rw [HT.sIx_none]
  show List.take (xs.length - (if k < 0 then (k + (xs.length : Int)).toNat else min k.toNat xs.length)) (xs.drop (if k < 0 then (k + (xs.length : Int)).toNat else min k.toNat xs.length)) = _
  rw [if_neg (by omega)]
  by_cases c : k.toNat ≤ xs.length
  · rw [Nat.min_eq_left c, List.take_of_length_le (by rw [List.length_drop]; exact Nat.le_refl _)]
  · rw [Nat.min_eq_right (by omega), List.drop_of_length_le (Nat.le_refl _), List.drop_of_length_le (by omega)]
    simp
theorem pickL {xs : List V} {j : Int} (h0 : 0 ≤ j) (h1 : j < (xs.length : Nat)) : ∃ v, v ∈ xs ∧ atI xs j = some v := by
  obtain ⟨n, rfl⟩ := Int.eq_ofNat_of_zero_le h0
  have hn : n < xs.length := by omega
  exact ⟨xs[n], List.getElem_mem hn, atI_nat (List.getElem?_eq_getElem hn)⟩
theorem FlowAt.same {a : Addr} {H H' : Hp} (f : FlowAt H a) (s : Same H H') : FlowAt H' a := let ⟨x, y, z, e⟩ := f; ⟨x, y, z, s _ _ e⟩
theorem FlowAt.ne {a b : Addr} {H : Hp} (f : FlowAt H a) (h : H b = none) : b ≠ a := fun z => by
  obtain ⟨x, y, r, e⟩ := f
  rw [z, e] at h
  cases h
theorem tup_ne {a b : Addr} {H : Hp} {xs : List V} (f : FlowAt H a) (h : H b = some (.tup xs)) : b ≠ a := fun z => by
  obtain ⟨x, y, r, e⟩ := f
  rw [z, e] at h
  cases h
theorem at_st {t : TS} {D : Ends} {σ σ' : L2.St} {H : Hp} (e : σ = σ') (h : t D σ' H) : t D σ H := by subst e; exact h
theorem same_old {a : Addr} {H H' : Hp} (s : Same H H') : Old a H H' := fun b o e _ => s b o e
/-- another class whose instances stand among the odd values -/
structure Oth (K : PySem.W.Frag) (C2 : Addr) : Prop where
  ty : ∀ {H : Hp} {p dx : Addr} {fs : List (Str × V)}, H p = some (.ins C2 dx fs) → TyX K H (.ref p) (.ref C2)
  kT : PySem.W.kitOne K (.ref C2) (.type "tuple") = some false
  kI : PySem.W.kitOne K (.ref C2) (.type "int") = some false
/-- Share(n) -/
def spSh (C2 : Addr) : Sp := fun vs H Q _ => ∃ (p dx : Addr) (i : Int), vs = [.ref p, .int i] ∧ H p = some (.ins C2 dx []) ∧ ∀ H' dx' fs, H' p = some (.ins C2 dx' fs) → Old p H H' → Q .non H'
theorem new_sh1 {C2 : Addr} {H : Hp} {R : VK} {E : XK} {x dx : Addr} {i : Int} (hx : H x = none) (hdx : H dx = none) (q : ∀ H' dx' fs, H' x = some (.ins C2 dx' fs) → Same H H' → R .non H') : spSh C2 (.ref x :: [.int i]) (upd (upd H dx (.own x)) x (.ins C2 dx [])) R E :=
  ⟨x, dx, i, rfl, upd_same, fun H' dx' fs e old => q H' dx' fs e (Same.made hx hdx old)⟩
def spBad (K : PySem.W.Frag) : Sp := fun vs H Q _ => ∃ (a g : Addr) (ds : List Int), vs = [.ref a, .ref g] ∧ FlowAt H a ∧ Tup H g ds ∧ Good ds ∧ ∀ v H', SideV K H' v false → FlowAt H' a → Old a H H' → Q v H'
def spLaw (K : PySem.W.Frag) : Sp := fun vs H Q _ => ∃ (a : Addr) (ns : List Int), vs = [.ref a] ∧ SqL K H a (ns.map V.int) ∧ ns.length ≤ 63 ∧ ∀ H', Q (.bl true) H'
theorem sqlS {K : PySem.W.Frag} {H H' : Hp} {a : Addr} {xs : List V} (h : SqL K H a xs) (e : Same H H') : SqL K H' a xs :=
  h.elim (fun h => .inl (h.elim (fun h => .inl (e _ _ h)) fun ⟨o, h⟩ => .inr ⟨o, e _ _ h⟩)) fun h => .inr h
end Gn
set_option Elab.async false
set_option linter.all false
set_option maxRecDepth 100000
set_option maxHeartbeats 4000000
/-! The promises of pairs, loads, standings. -/
namespace Gn
open PySem PySem.Spec PyProof.Rows L2 Com Sd StV
abbrev Frg := PySem.W.Frag
def NoTup (K : Frg) (H : Hp) (v : V) : Prop := ∃ t, TyX K H v t ∧ PySem.W.kitOne K t (.type "tuple") = some false
theorem NoTup.same {K : Frg} {H H' : Hp} (s : Same H H') {v : V} (h : NoTup K H v) : NoTup K H' v := let ⟨t, a, b⟩ := h; ⟨t, TyX.same s a, b⟩
/-- is_pair's answer for any value -/
def PairJ (K : Frg) (H : Hp) (n m : Nat) (v : V) (b : Bool) : Prop :=
  (∃ a x y b1 b2, v = .ref a ∧ H a = some (.tup [x, y]) ∧ InR K H x 0 ((n : Nat) - 1) b1 ∧ InR K H y 0 ((m : Nat) - 1) b2 ∧ b = (b1 && b2)) ∨
  (∃ a xs, v = .ref a ∧ H a = some (.tup xs) ∧ xs.length ≠ 2 ∧ b = false) ∨
  (NoTup K H v ∧ b = false)
theorem PairJ.same {K : Frg} {H H' : Hp} (s : Same H H') {n m : Nat} {v : V} {b : Bool} (h : PairJ K H n m v b) : PairJ K H' n m v b := by
  rcases h with ⟨a, x, y, b1, b2, e, h, i, j, z⟩ | ⟨a, xs, e, h, l, z⟩ | ⟨h, z⟩
  · exact .inl ⟨a, x, y, b1, b2, e, s _ _ h, i.same s, j.same s, z⟩
  · exact .inr (.inl ⟨a, xs, e, s _ _ h, l, z⟩)
  · exact .inr (.inr ⟨h.same s, z⟩)
theorem PairJ.good {K : Frg} {H : Hp} {n m : Nat} {v : V} {p : PP} (h : PairV H v p) (g : InP n m p) : PairJ K H n m v true := by
  obtain ⟨a, e, x⟩ := h
  obtain ⟨g1, g2, g3, g4⟩ := g
  exact .inl ⟨a, _, _, true, true, e, x, InR.good g1 (by omega), InR.good g3 (by omega), rfl⟩
def ascB (L : List PP) : Bool := decide ((L.map (·.1)).Pairwise (· < ·)) && decide (L.map (·.2)).Nodup
theorem ascB_ok {n m : Nat} {L : List PP} (h : LoadOk n m L) : ascB L = true := by
  unfold ascB
  rw [decide_eq_true h.asc, decide_eq_true h.nd]
  rfl
/-- is_load's answer for any value -/
def LoadJ (K : Frg) (H : Hp) (n m : Nat) (v : V) (b : Bool) : Prop :=
  (∃ a xs, v = .ref a ∧ H a = some (.tup xs) ∧ n < xs.length ∧ b = false) ∨
  (∃ (a : Addr) (xs : List V) (bs : List Bool), v = .ref a ∧ H a = some (.tup xs) ∧ xs.length ≤ n ∧ bs.length = xs.length ∧ (∀ (i : Nat) v c, xs[i]? = some v → bs[i]? = some c → PairJ K H n m v c) ∧ bs.all id = false ∧ b = false) ∨
  (∃ L, LoadV H v L ∧ L.length ≤ n ∧ (∀ p ∈ L, InP n m p) ∧ b = ascB L) ∨
  (NoTup K H v ∧ b = false)
theorem LoadJ.same {K : Frg} {H H' : Hp} (s : Same H H') {n m : Nat} {v : V} {b : Bool} (h : LoadJ K H n m v b) : LoadJ K H' n m v b := by
  rcases h with ⟨a, xs, e, h, l, z⟩ | ⟨a, xs, bs, e, h, l, l2, j, z⟩ | ⟨L, h, l, g, z⟩ | ⟨h, z⟩
  · exact .inl ⟨a, xs, e, s _ _ h, l, z⟩
  · exact .inr (.inl ⟨a, xs, bs, e, s _ _ h, l, l2, fun i v c a b => (j i v c a b).same s, z⟩)
  · exact .inr (.inr (.inl ⟨L, h.same s, l, g, z⟩))
  · exact .inr (.inr (.inr ⟨h.same s, z⟩))
theorem LoadJ.good {K : Frg} {H : Hp} {n m : Nat} {v : V} {L : List PP} (h : LoadV H v L) (g : LoadOk n m L) : LoadJ K H n m v true :=
  .inr (.inr (.inl ⟨L, h, g.len, g.rng, (ascB_ok g).symm⟩))
def doorB (ds es : List Int) (S : List (List PP)) : Bool := decide (∀ d ∈ left ds (fs S), 0 ≤ d) && decide (∀ d ∈ left es (sn S), 0 ≤ d)
/-- is_standing's answer for any value -/
def StaJ (K : Frg) (H : Hp) (ds es : List Int) (mid : Int) (v : V) (b : Bool) : Prop :=
  (∃ a xs, v = .ref a ∧ H a = some (.tup xs) ∧ ((xs.length : Nat) : Int) ≠ mid ∧ b = false) ∨
  (∃ (a : Addr) (xs : List V) (bs : List Bool), v = .ref a ∧ H a = some (.tup xs) ∧ ((xs.length : Nat) : Int) = mid ∧ bs.length = xs.length ∧ (∀ (i : Nat) v c, xs[i]? = some v → bs[i]? = some c → LoadJ K H ds.length es.length v c) ∧ bs.all id = false ∧ b = false) ∨
  (∃ S, StaV H v S ∧ ((S.length : Nat) : Int) = mid ∧ (∀ L ∈ S, LoadOk ds.length es.length L) ∧ b = doorB ds es S) ∨
  (NoTup K H v ∧ b = false)
theorem StaJ.same {K : Frg} {H H' : Hp} (s : Same H H') {ds es : List Int} {mid : Int} {v : V} {b : Bool} (h : StaJ K H ds es mid v b) : StaJ K H' ds es mid v b := by
  rcases h with ⟨a, xs, e, h, l, z⟩ | ⟨a, xs, bs, e, h, l, l2, j, z⟩ | ⟨L, h, l, g, z⟩ | ⟨h, z⟩
  · exact .inl ⟨a, xs, e, s _ _ h, l, z⟩
  · exact .inr (.inl ⟨a, xs, bs, e, s _ _ h, l, l2, fun i v c a b => (j i v c a b).same s, z⟩)
  · exact .inr (.inr (.inl ⟨L, h.same s, l, g, z⟩))
  · exact .inr (.inr (.inr ⟨h.same s, z⟩))
theorem StaJ.good {K : Frg} {H : Hp} {ds es : List Int} {mid : Int} {v : V} {S : List (List PP)} (h : StaV H v S) (g : StdOk ds es mid S) : StaJ K H ds es mid v true := by
  refine .inr (.inr (.inl ⟨S, h, g.len, g.ld, ?_⟩))
  unfold doorB
  rw [decide_eq_true g.ci, decide_eq_true g.co]
  rfl
def Rng (n m : Nat) (S : List (List PP)) : Prop := ∀ L ∈ S, ∀ p ∈ L, InP n m p
theorem Rng.of {ds es : List Int} {mid : Int} {S : List (List PP)} (g : StdOk ds es mid S) : Rng ds.length es.length S := fun L hL => (g.ld L hL).rng
def LisI (H : Hp) (a : Addr) (ds : List Int) : Prop := H a = some (.lst (ds.map V.int))
def spIsPair (K : Frg) (C : Addr) : Sp := fun vs H Q _ => ∃ (p i o : Addr) (ds es : List Int) (m : Int) (v : V) (b : Bool), vs = [.ref p, v] ∧ ExAt C H p i o ds es m ∧ PairJ K H ds.length es.length v b ∧ Q (.bl b) H
def spIsLoad (K : Frg) (C : Addr) : Sp := fun vs H Q _ => ∃ (p i o : Addr) (ds es : List Int) (m : Int) (v : V) (b : Bool), vs = [.ref p, v] ∧ ExAt C H p i o ds es m ∧ LoadJ K H ds.length es.length v b ∧ ∀ H', Same H H' → Q (.bl b) H'
def spIsStanding (K : Frg) (C : Addr) : Sp := fun vs H Q _ => ∃ (p i o : Addr) (ds es : List Int) (m : Int) (v : V) (b : Bool), vs = [.ref p, v] ∧ ExAt C H p i o ds es m ∧ StaJ K H ds es m v b ∧ ∀ H', Same H H' → Q (.bl b) H'
/-- (ins, outs): two new lists -/
def spDoorsLeft (C : Addr) : Sp := fun vs H Q _ => ∃ (p i o : Addr) (ds es : List Int) (m : Int) (v : V) (S : List (List PP)), vs = [.ref p, v] ∧ ExAt C H p i o ds es m ∧ StaV H v S ∧ Rng ds.length es.length S ∧
  ∀ t a b H', H a = none → H b = none → a ≠ b → H' t = some (.tup [.ref a, .ref b]) → LisI H' a (left ds (fs S)) → LisI H' b (left es (sn S)) → Same H H' → Q (.ref t) H'
def spSta (C : Addr) (R : (ds es : List Int) → (S : List (List PP)) → Hp → VK → Prop) : Sp := fun vs H Q _ => ∃ (p i o : Addr) (ds es : List Int) (m : Int) (v : V) (S : List (List PP)), vs = [.ref p, v] ∧ ExAt C H p i o ds es m ∧ StaV H v S ∧ StdOk ds es m S ∧ R ds es S H Q
def spStaP (C : Addr) (R : (ds es : List Int) → (S : List (List PP)) → PP → Hp → VK → Prop) : Sp := fun vs H Q _ => ∃ (p i o : Addr) (ds es : List Int) (m : Int) (v : V) (S : List (List PP)) (u : V) (pr : PP), vs = [.ref p, v, u] ∧ ExAt C H p i o ds es m ∧ StaV H v S ∧ StdOk ds es m S ∧ PairV H u pr ∧ InP ds.length es.length pr ∧ R ds es S pr H Q
/-- a new list of ints -/
def newI (ns : List Int) (H : Hp) (Q : VK) : Prop := ∀ q H', H q = none → LisI H' q ns → Same H H' → Q (.ref q) H'
/-- a new list of pairs -/
def newP (ps : List PP) (H : Hp) (Q : VK) : Prop := ∀ q us H', H q = none → H' q = some (.lst us) → PairsV H' us ps → Same H H' → Q (.ref q) H'
def newB (b : Bool) (H : Hp) (Q : VK) : Prop := ∀ H', Same H H' → Q (.bl b) H'
def openB (ds es : List Int) (S : List (List PP)) (p : PP) : Bool := decide (0 < (left ds (fs S)).getD p.1.toNat 0) && decide (0 < (left es (sn S)).getD p.2.toNat 0)
def opens (ds es : List Int) (S : List (List PP)) : List PP := (pairsL ds.length es.length).filter (openB ds es S)
def spChkS (C : Addr) : Sp := spSta C fun _ _ _ H Q => ∀ H', Same H H' → Q .non H'
def spChkP (C : Addr) : Sp := fun vs H Q _ => ∃ (p i o : Addr) (ds es : List Int) (m : Int) (u : V) (pr : PP), vs = [.ref p, u] ∧ ExAt C H p i o ds es m ∧ PairV H u pr ∧ InP ds.length es.length pr ∧ ∀ H', Same H H' → Q .non H'
def spCalls (C : Addr) : Sp := spSta C fun _ _ S H Q => newP (srt S.flatten) H Q
def spFreeDoors (C : Addr) : Sp := spSta C fun ds es S H Q => ∀ t a b H', H a = none → H b = none → a ≠ b → H' t = some (.tup [.ref a, .ref b]) → LisI H' a (left ds (fs S)) → LisI H' b (left es (sn S)) → Same H H' → Q (.ref t) H'
def spFreeMid (C : Addr) : Sp := spStaP C fun _ _ S p H Q => newI (frees S p) H Q
def barB (ds es : List Int) (S : List (List PP)) (p : PP) : Bool := openB ds es S p && decide (frees S p = [])
def spBarred (C : Addr) : Sp := spStaP C fun ds es S p H Q => newB (barB ds es S p) H Q
def spOpenPairs (C : Addr) : Sp := spSta C fun ds es S H Q => newP (opens ds es S) H Q
/-- a load, as a list or as a tuple -/
def LoadX (H : Hp) (v : V) (L : List PP) : Prop := ∃ b us, v = .ref b ∧ (H b = some (.lst us) ∨ H b = some (.tup us)) ∧ PairsV H us L
def spIsFree : Sp := fun vs H Q _ => ∃ (v u : V) (L : List PP) (p : PP), vs = [v, u] ∧ LoadX H v L ∧ L.length ≤ 500 ∧ PairV H u p ∧ newB (freeB L p) H Q
def spFreeFor : Sp := fun vs H Q _ => ∃ (v u : V) (S : List (List PP)) (p : PP), vs = [v, u] ∧ StaV H v S ∧ S.length ≤ 500 ∧ (∀ L ∈ S, L.length ≤ 500) ∧ PairV H u p ∧ newI (frees S p) H Q
theorem LoadV.x {H : Hp} {v : V} {L : List PP} (h : LoadV H v L) : LoadX H v L := let ⟨b, us, e, x, p⟩ := h; ⟨b, us, e, .inr x, p⟩
theorem atI_at {ds : List Int} {n : Nat} {i x : Int} (e : i = (n : Int)) (h : ds[n]? = some x) : atI (ds.map V.int) i = some (V.int x) := by
  subst e
  exact atI_nat (by rw [List.getElem?_map, h]; rfl)
theorem ixN_at {ds : List Int} {n : Nat} {i x : Int} (e : i = (n : Int)) (h : ds[n]? = some x) : ixN (ds.map V.int).length i = some n := by
  subst e
  have hl : n < ds.length := (List.getElem?_eq_some_iff.mp h).1
  unfold ixN
  rw [if_pos (by omega), if_pos (by rw [List.length_map]; omega)]
  simp
theorem set_int (ds : List Int) (n : Nat) (y : Int) : (ds.map V.int).set n (V.int y) = (ds.set n y).map V.int := by rw [List.map_set]
/-! ### walked: a list or a tuple -/
def iSeq (K : Frg) (tl : TE) : TI := fun σ H R => tl σ H fun x H1 => ∃ a, x = .ref a ∧ ((∃ xs, SqL K H1 a xs ∧ R (Itl K a) H1) ∨ (∃ xs, SqT K H1 a xs ∧ R (Itt K a) H1))
theorem pi_seq {X : Cx} (K : Frg) {tg l : Expr} {tl : TE} (hl : PE X l tl) (hK : X.K = K := by rfl) : PI X tg l (iSeq K tl) := by
  subst hK
  refine ⟨fun pins s σ H R I h => ?_⟩
  refine thn (hl.run pins s σ H _ I h) fun v s1 ⟨x, H1, I1, r1, q1⟩ => ?_
  obtain ⟨a, e, q1⟩ := q1
  subst e
  cases r1
  rcases q1 with ⟨xs, hq, q⟩ | ⟨xs, hq, q⟩
  · obtain ⟨its, rv, p, hz⟩ := I1.list hq
    refine wpAny_pyIter_list p.isList ?_
    refine ⟨s1.heap.objs.size, [s1.heap.objs.size], _, _, H1, rfl, I1.kept (t' := s1.toks) fun b o e => Heap.get?_push_of_some _ e, turn_list a _, ⟨_, Heap.get?_push_size _ rfl, rfl, rfl⟩, fun b hb => ?_, q⟩
    have e : b = s1.heap.objs.size := by simpa using hb
    subst e
    exact I1.fpOk (Nat.le_refl _) (I1.hok.fresh (Nat.le_refl _))
  · obtain ⟨its, rv, p, hz⟩ := I1.tuple hq
    refine wpAny_pyIter_tuple (show s1.heap.IsTuple a its.toArray from p) ?_
    refine ⟨s1.heap.objs.size, [s1.heap.objs.size], _, _, H1, rfl, I1.kept (t' := s1.toks) fun b o e => Heap.get?_push_of_some _ e, turn_tuple a _, ⟨_, Heap.get?_push_size _ rfl, rfl, rfl⟩, fun b hb => ?_, q⟩
    have e : b = s1.heap.objs.size := by simpa using hb
    subst e
    exact I1.fpOk (Nat.le_refl _) (I1.hok.fresh (Nat.le_refl _))
/-- a comprehension's walk over enumerate(tuple) -/
theorem lp_enumT {K : Frg} {a : Addr} {xs : List V} {H0 : Hp} {Qd : Hp → Prop} {B : V → Hp → (Hp → Prop) → Prop} (Pv : Nat → Hp → Prop) (h0 : Pv 0 H0) (hl : ∀ i H, i ≤ xs.length → Pv i H → SqT K H a xs)
    (hs : ∀ i x H T, xs[i]? = some x → Pv i H → H T = none → B (.ref T) (upd H T (.tup [.int (i : Nat), x])) (Pv (i + 1))) (hd : ∀ H, Pv xs.length H → Qd H) :
    ∃ W : Nat → Nat → Hp → Prop, (∃ m, W 0 m H0) ∧ ∀ i m H, W i m H → ((Ext.Iet K a).stop i H ∧ Qd H) ∨ ((Ext.Iet K a).go i H ∧ ∃ Nx : Hp → Prop, (∀ H', Nx H' → ∃ m', m' < m ∧ W (i + 1) m' H') ∧ ∀ x H', (Ext.Iet K a).yld i H x H' → B x H' Nx) := by
  refine ⟨fun i m H => m = xs.length - i ∧ i ≤ xs.length ∧ Pv i H, ⟨xs.length, by simp, Nat.zero_le _, h0⟩, ?_⟩
  rintro i m H ⟨rfl, hi, p⟩
  have q := hl i H hi p
  by_cases hlt : i < xs.length
  · refine .inr ⟨⟨xs, xs[i], q, by simp [hlt]⟩, Pv (i + 1), fun H' p' => ⟨xs.length - (i + 1), by omega, rfl, hlt, p'⟩, fun x H' y => ?_⟩
    obtain ⟨T, z, e, hT, e2, y⟩ := y
    subst e
    subst e2
    exact hs i z _ T (y xs q) p hT
  · have e : i = xs.length := by omega
    subst e
    exact .inl ⟨⟨xs, q, Nat.le_refl _⟩, hd H p⟩
/-- the new list of a comprehension grows: all else stays -/
theorem Same.grow {H H1 : Hp} {D : Addr} {o : HO} (hD : H D = none) (s : Same H H1) : Same H (upd H1 D o) := fun b u e => by
  rw [upd_ne (ne_of_none e hD)]
  exact s b u e
end Gn
namespace Gn
open PySem PySem.Spec PyProof.Rows L2 Com Sd StV
theorem pairsL_iff {n m : Nat} {p : PP} : p ∈ pairsL n m ↔ InP n m p := by
  unfold pairsL rowL InP
  rw [List.mem_flatMap]
  constructor
  · rintro ⟨i, hi, hp⟩
    obtain ⟨j, hj, rfl⟩ := List.mem_map.mp hp
    rw [List.mem_range] at hi hj
    refine ⟨?_, ?_, ?_, ?_⟩ <;> simp <;> omega
  · rintro ⟨h1, h2, h3, h4⟩
    refine ⟨p.1.toNat, List.mem_range.mpr (by omega), List.mem_map.mpr ⟨p.2.toNat, List.mem_range.mpr (by omega), ?_⟩⟩
    exact Prod.ext (by show ((p.1.toNat : Nat) : Int) = p.1; omega) (by show ((p.2.toNat : Nat) : Int) = p.2; omega)
theorem pairsL_in {n m : Nat} {p : PP} (h : p ∈ pairsL n m) : InP n m p := pairsL_iff.mp h
theorem pairsL_mem {n m : Nat} {p : PP} (h : InP n m p) : p ∈ pairsL n m := pairsL_iff.mpr h
end Gn
set_option Elab.async false
set_option linter.all false
set_option maxRecDepth 100000
set_option maxHeartbeats 4000000
/-! The promises of the laws' own helpers that draw and count. -/
namespace Gn
open PySem PySem.Spec PyProof.Rows L2 Com Sd StV
def spExchange (C : Addr) : Sp := fun vs H Q _ => ∃ (a : Addr) (most d mid : Int), vs = [.ref a, .int most, .int d, .int mid] ∧ FlowAt H a ∧ 1 ≤ most ∧ most ≤ 4 ∧ 1 ≤ d ∧ d ≤ 4 ∧ 1 ≤ mid ∧ mid ≤ 7 ∧
  ∀ p i o ds es m H', H p = none → ExAt C H' p i o ds es m → FlowAt H' a → Old a H H' → Q (.ref p) H'
def spLoads : Sp := fun vs H Q _ => ∃ (a i o : Addr) (ds es : List Int) (m many : Int), vs = [.ref a, .ref i, .ref o, .int m, .int many] ∧ FlowAt H a ∧ Tup H i ds ∧ Good ds ∧ Tup H o es ∧ Good es ∧ 1 ≤ m ∧ m ≤ 7 ∧ 0 ≤ many ∧ many ≤ 1000 ∧
  ∀ v S H', StaV H' v S → StdOk ds es m S → FlowAt H' a → Old a H H' → Q v H'
def spLCalls : Sp := fun vs H Q _ => ∃ (v : V) (S : List (List PP)), vs = [v] ∧ StaV H v S ∧ S.length ≤ 100 ∧ (∀ L ∈ S, L.length ≤ 5) ∧ newP (srt S.flatten) H Q
/-- [ins, outs]: three new lists -/
def spLLeft (C : Addr) : Sp := spSta C fun ds es S H Q => ∀ t a b H', H' t = some (.lst [.ref a, .ref b]) → LisI H' a (left ds (fs S)) → LisI H' b (left es (sn S)) → Same H H' → Q (.ref t) H'
def spLOpen (C : Addr) : Sp := spStaP C fun ds es S p H Q => newB (openB ds es S p) H Q
def spLMid : Sp := fun vs H Q _ => ∃ (v u : V) (S : List (List PP)) (p : PP), vs = [v, u] ∧ StaV H v S ∧ S.length ≤ 500 ∧ (∀ L ∈ S, L.length ≤ 500) ∧ PairV H u p ∧ newI (frees S p) H Q
def spFlag : Sp := fun vs H Q _ => ∃ a b : Bool, vs = [.bl a, .bl b] ∧ Q (.bl (decide (a = b))) H
def spInts : Sp := fun vs H Q _ => ∃ (a : Addr) (ds : List Int), vs = [.ref a] ∧ LisI H a ds ∧ ds.length ≤ 500 ∧ newB true H Q
/-- lists of loads, each of its own, none of them one of the five -/
def LoadsL (a A L0 I0 I1 : Addr) (H : Hp) : List V → List (List PP) → Prop := Paired fun v L => ∃ b us, v = .ref b ∧ H b = some (.lst us) ∧ PairsV H us L ∧ b ≠ a ∧ b ≠ A ∧ b ≠ L0 ∧ b ≠ I0 ∧ b ≠ I1
theorem LoadsL.fr {a A L0 I0 I1 : Addr} {H H' : Hp} (s : ∀ b u, H b = some u → b ≠ a → b ≠ A → b ≠ L0 → b ≠ I0 → b ≠ I1 → H' b = some u) (t : TupS H H') {vs : List V} {S : List (List PP)} (h : LoadsL a A L0 I0 I1 H vs S) : LoadsL a A L0 I0 I1 H' vs S :=
  paired_imp (fun _ _ ⟨b, us, e, hb, hp, n1, n2, n3, n4, n5⟩ => ⟨b, us, e, s b _ hb n1 n2 n3 n4 n5, PairsV.mono t hp, n1, n2, n3, n4, n5⟩) h
/-- the five apart, and new -/
structure Apart (H : Hp) (a A L0 I0 I1 : Addr) : Prop where
  nA : H A = none
  nL : H L0 = none
  n0 : H I0 = none
  n1 : H I1 = none
  aA : a ≠ A
  aL : a ≠ L0
  a0 : a ≠ I0
  a1 : a ≠ I1
  AL : A ≠ L0
  A0 : A ≠ I0
  A1 : A ≠ I1
  L0' : L0 ≠ I0
  L1 : L0 ≠ I1
  I01 : I0 ≠ I1
structure LdI (a A L0 I0 I1 : Addr) (ds es : List Int) (m : Int) (H H' : Hp) (S : List (List PP)) (vs : List V) : Prop where
  fl : FlowAt H' a
  hA : H' A = some (.lst vs)
  hS : LoadsL a A L0 I0 I1 H' vs S
  hL : H' L0 = some (.lst [.ref I0, .ref I1])
  h0 : LisI H' I0 (left ds (fs S))
  h1 : LisI H' I1 (left es (sn S))
  ok : StdOk ds es m S
  old : Old a H H'
section
variable {a A L0 I0 I1 : Addr} {ds es : List Int} {m : Int} {H H' H2 : Hp} {S : List (List PP)} {vs : List V}
theorem TupS.but (h : But a H H2) (f : FlowAt H a) : TupS H H2 := fun b xs e => by rw [h b (tup_ne f e)]; exact e
theorem LdI.but (Z : Apart H a A L0 I0 I1) (I : LdI a A L0 I0 I1 ds es m H H' S vs) (b : But a H' H2) (f : FlowAt H2 a) : LdI a A L0 I0 I1 ds es m H H2 S vs :=
  ⟨f, by rw [b A Z.aA.symm]; exact I.hA, LoadsL.fr (fun c u e n _ _ _ _ => by rw [b c n]; exact e) (TupS.but b I.fl) I.hS, by rw [b L0 Z.aL.symm]; exact I.hL, by show H2 I0 = _; rw [b I0 Z.a0.symm]; exact I.h0, by show H2 I1 = _; rw [b I1 Z.a1.symm]; exact I.h1, I.ok, Old.trans I.old (But.old b)⟩
theorem LdI.same (I : LdI a A L0 I0 I1 ds es m H H' S vs) (s : Same H' H2) : LdI a A L0 I0 I1 ds es m H H2 S vs :=
  ⟨FlowAt.same I.fl s, s _ _ I.hA, LoadsL.fr (fun c u e _ _ _ _ _ => s c u e) (TupS.of s) I.hS, s _ _ I.hL, s _ _ I.h0, s _ _ I.h1, I.ok, Old.trans I.old (same_old s)⟩
/-- the load k gets the pair: a new list q stands there, both counts go down -/
theorem LdI.put (Z : Apart H a A L0 I0 I1) (I : LdI a A L0 I0 I1 ds es m H H' S vs) {k : Nat} {L : List PP} {p : PP} {x y : Int} {q : Addr} {us : List V} (hk : S[k]? = some L) (hp : InP ds.length es.length p) (hf : freeB L p = true)
    (hx : (left ds (fs S))[p.1.toNat]? = some x) (x0 : 0 < x) (hy : (left es (sn S))[p.2.toNat]? = some y) (y0 : 0 < y) (hq : H' q = some (.lst us)) (hu : PairsV H' us (srt (L ++ [p]))) (nq : q ≠ a ∧ q ≠ A ∧ q ≠ L0 ∧ q ≠ I0 ∧ q ≠ I1) :
    LdI a A L0 I0 I1 ds es m H (upd (upd (upd H' A (.lst (vs.set k (.ref q)))) I0 (.lst (((left ds (fs S)).set p.1.toNat (x - 1)).map V.int))) I1 (.lst (((left es (sn S)).set p.2.toNat (y - 1)).map V.int))) (S.set k (srt (L ++ [p]))) (vs.set k (.ref q)) := by
  obtain ⟨o1, o2, o3⟩ := I.ok.set hk hp hf hx x0 hy y0
  have off : ∀ b, b ≠ A → b ≠ I0 → b ≠ I1 → upd (upd (upd H' A (.lst (vs.set k (.ref q)))) I0 (.lst (((left ds (fs S)).set p.1.toNat (x - 1)).map V.int))) I1 (.lst (((left es (sn S)).set p.2.toNat (y - 1)).map V.int)) b = H' b := fun b e1 e2 e3 => by
    rw [upd_ne e3, upd_ne e2, upd_ne e1]
  have ts : TupS H' (upd (upd (upd H' A (.lst (vs.set k (.ref q)))) I0 (.lst (((left ds (fs S)).set p.1.toNat (x - 1)).map V.int))) I1 (.lst (((left es (sn S)).set p.2.toNat (y - 1)).map V.int))) := fun b xs e => by
    rw [off b (fun z => by rw [z, I.hA] at e; cases e) (fun z => by rw [z, I.h0] at e; cases e) (fun z => by rw [z, I.h1] at e; cases e)]
    exact e
  refine ⟨?_, ?_, ?_, ?_, ?_, ?_, o1, ?_⟩
  · obtain ⟨u, v, w, e⟩ := I.fl
    exact ⟨u, v, w, by rw [off a Z.aA Z.a0 Z.a1]; exact e⟩
  · rw [upd_ne Z.A1, upd_ne Z.A0, upd_same]
  · refine paired_set ⟨q, us, rfl, ?_, PairsV.mono ts hu, nq⟩ (LoadsL.fr (fun b u e n1 n2 n3 n4 n5 => by rw [off b n2 n4 n5]; exact e) ts I.hS)
    rw [off q nq.2.1 nq.2.2.2.1 nq.2.2.2.2]
    exact hq
  · rw [off L0 Z.AL.symm Z.L0' Z.L1]
    exact I.hL
  · show upd _ _ _ _ = _
    rw [upd_ne Z.I01, upd_same, o2]
  · show upd _ _ _ _ = _
    rw [upd_same, o3]
  · intro b u e ne
    rw [off b (ne_of_none e Z.nA) (ne_of_none e Z.n0) (ne_of_none e Z.n1)]
    exact I.old b u e ne
end
end Gn
namespace Gn
open PySem PySem.Spec PyProof.Rows L2 Com Sd StV
/-! ### defs called by names -/
structure KwD (P : Program) (w : World) (K : Frg) (mg : Str → Option Value) (base : Heap) (CX : CXT) (k : Nat) (x : Str) (n : Nat) (ks : List Str) (gV : List V → List V → List V) (sp : Sp) : Prop where
  ex : ∃ (f : Addr) (fd : FuncData) (ps : List Str) (g : List Value → List Value → List Value), FnOk P w K mg base CX k f fd ps sp ∧ mg x = some (.ref f) ∧ PySem.W.keepIn K (.ref f) = true ∧ KBn K fd ps n ks g gV
def app {α : Type} (us ws : List α) : List α := us ++ ws
theorem app_rel {vs : List V} {us : List Value} {zs : List V} {ws : List Value} (r1 : Vals vs us) (r2 : Vals zs ws) : Vals (app vs zs) (app us ws) := r1.append r2
theorem pe_kwD {X : Cx} {CX : CXT} {k j n : Nat} {ks : List Str} {gV : List V → List V → List V} {sp : Sp} {E : XK} {x : Str} {p pos : Pos} {e : Expr} {es : List Expr} {kws : List Keyword} {t tk : TA} (M : KwD X.prog X.w X.K X.mg X.base CX j x n ks gV sp) (hr : Room k X.A) (hjk : j ≤ k) (hx : Passes CX X E)
    (ha : PA X (e :: es) t) (hkw : PK X kws tk) (hg : Gl X x := by rfl) (hall : (backToKw pos (keywordEach kws X.env)).all (·.1.isSome) = true := by rfl) (hks : (backToKw pos (keywordEach kws X.env)).filterMap (·.1) = ks := by rfl)
    (hdb : (x == ("__debug__" : Str)) = false := by decide) (he : starEach (e :: es) X.env = (false, eval e X.env) :: starEach es X.env := by rfl)
    (hpl : ((backTo pos (starEach (e :: es) X.env)).any (·.1) || (backToKw pos (keywordEach kws X.env)).any (·.1.isNone)) = false := by rfl) :
    PE X (.Call (.Name x p) (e :: es) kws pos) (tCallN n ks.length sp gV E t tk) := by
  obtain ⟨f, fd, ps, g, F, m, kp, b⟩ := M.ex
  exact pe_callN F (hr.mono hjk) hg m kp b hx ha hkw hall hks hdb he hpl
theorem DefOk.of_fn {P : Program} {w : World} {K : Frg} {mg : Str → Option Value} {base : Heap} {CX : CXT} {k : Nat} {x : Str} {f : Addr} {fd : FuncData} {ps : List Str} {sp : Sp} (F : FnOk P w K mg base CX k f fd ps sp) (b : Binds K fd ps []) (m : mg x = some (.ref f)) (kp : PySem.W.keepIn K (.ref f) = true) : DefOk P w K mg base CX k x sp := ⟨f, raw0 F b, m, kp⟩
/-! ### x and y: one way on -/
theorem and_join {c : Bool} {te : TE} {σ : L2.St} {H : Hp} {Q : VK} (R : Bool → Hp → Prop) (hT : c = true → ∀ Q' : VK, (∀ b Hn, R b Hn → Q' (.bl b) Hn) → te σ H Q') (hF : c = false → R false H) (h : ∀ b Hn, R b Hn → Q (.bl b) Hn) :
    if c = true then te σ H Q else Q (.bl false) H := by
  cases c with
  | true => exact iteT (hT rfl Q h)
  | false => exact iteF (h false H (hF rfl))
theorem of_old {a : Addr} {H H' : Hp} (ha : H a = none) (o : Old a H H') : Same H H' := fun b u e => o b u e (ne_of_none e ha)
theorem neq_f {b : Bool} (h : b = true) : (!b) = false := by rw [h]; rfl
theorem flat_len {n : Nat} : ∀ {S : List (List PP)}, (∀ L ∈ S, L.length ≤ n) → S.flatten.length ≤ S.length * n
  | [], _ => by simp
  | L :: S, h => by
    have h1 := h L (List.mem_cons_self ..)
    have h2 := flat_len (S := S) fun M hM => h M (List.mem_cons_of_mem _ hM)
    rw [List.flatten_cons, List.length_append, List.length_cons, Nat.succ_mul]
    omega
end Gn
set_option Elab.async false
set_option linter.all false
set_option maxRecDepth 100000
set_option maxHeartbeats 4000000
/-! Errors with a thing; the promises of the counts. -/
namespace Gn
open PySem PySem.Spec PyProof.Rows L2 Com Sd StV
section
variable {X : Cx} {x n : Str} {i : Nat} {e : Expr} {suite : List Stmt} {b₀ : Stmt} {np pos pos' pos2 : Pos} {C fI : Addr} {te : WX → TE} {ts : Addr → Value → Option Addr → TS}
theorem ps_tryT (T : PySem.Exo_thing.Txt X.prog X.K X.mg x C fI) (hN : X.N.Nodup) (hi : X.N[i]? = some n) (hln : X.env.kindOf n = some .local)
    (hb : ∀ (W : WX) (pn : List (Addr × Obj)) (xe : Value → Shared → Prop), Takes (X.tr pn xe) W → PE (X.tr pn xe) e (te W))
    (hsu : ∀ (a : Addr) (oe : Obj) (cls : Value) (d : Option Addr) (pn : List (Addr × Obj)), Zc cls d oe → (∃ vs, oe.data = .fields vs) → PSs (X.suite a ((a, oe) :: pn)) (b₀ :: suite) (ts a cls d))
    (hs : X.stack = X.env :: X.outer := by rfl) (hf : X.env.frame = some X.env.locals := by rfl) (hg : Gl X x := by rfl) (hdb : (x == ("__debug__" : Str)) = false := by decide) (hsw : swapsWith e none pos2.line X.env = pure false := by rfl) :
    PS X (.Try [.Expr e pos2] [.ExceptHandler (some (.Name x np)) (some n) (b₀ :: suite) pos'] [] [] pos) (fun D σ H => tDrop (te (wAs X.K (.ref C) i ts (fun _ _ _ _ => False) D)) D σ H) :=
  ps_try_as (tb := fun W => tDrop (te W)) hs hf hN hi hln ⟨hg, hdb, .inl T.gC⟩ takes0 (fun W pn xe tk _ => pss_one (ps_expr (hb W pn xe tk) hsw)) hsu
end
/-- a def called in a try -/
def tDefS (sp : Sp) (ES : L2.St → XK) (t : TA) : TE := fun σ H Q => t σ H fun vs H1 => sp vs H1 Q (ES σ)
theorem pe_defS {X : Cx} {CX : CXT} {k j : Nat} {sp : Sp} {ES : L2.St → XK} {x : Str} {p pos : Pos} {e : Expr} {es : List Expr} {t : TA} (D : DefOk X.prog X.w X.K X.mg X.base CX j x sp) (hr : Room k X.A) (hjk : j ≤ k) (hx : ∀ σ, PassesAt CX X σ (ES σ)) (ha : PA X (e :: es) t) (hg : Gl X x := by rfl) (hdb : (x == ("__debug__" : Str)) = false := by decide)
    (he : starEach (e :: es) X.env = (false, eval e X.env) :: starEach es X.env := by rfl) (hpl : (backTo pos (starEach es X.env)).any (·.1) = false := by rfl) :
    PE X (.Call (.Name x p) (e :: es) [] pos) (tDefS sp ES t) := by
  obtain ⟨f, F, m, kp⟩ := D.ex
  refine ⟨fun pins s σ H Q I h => ?_⟩
  refine wpAny_Call_Name_kw (ld_glob I hg m ?_ hdb)
  refine PySem.W.callWith_K (h₀ := X.base) I.ok.mod.kin kp (thn (ha.run pos pins s σ H _ I h) fun us s1 ⟨vs, H1, I1, r, q⟩ => ⟨I1.kIn, ?_⟩) he hpl
  exact runS F hr hjk (hx σ) I1 r q
/-- refused: an error of the class at CE with the thing v -/
def RefT (CE : Addr) (H : Hp) (v : V) (E : XK) : Prop := ∀ d H', H' d = some (.xd [("thing", v)]) → Same H H' → E (.ref CE) (some d) H'
theorem thing_look (v : V) : List.lookup ("thing" : Str) [(("thing" : Str), v)] = some v := lk_eq
def spWith (C : Addr) : Sp := fun vs H Q _ => ∃ (p i o : Addr) (ds es : List Int) (m m' : Int), vs = [.ref p, .int m'] ∧ ExAt C H p i o ds es m ∧ 1 ≤ m' ∧ m' ≤ 7 ∧ ∀ x H', H x = none → ExAt C H' x i o ds es m' → Same H H' → Q (.ref x) H'
def spTurned (C : Addr) : Sp := fun vs H Q _ => ∃ (p i o : Addr) (ds es : List Int) (m : Int), vs = [.ref p] ∧ ExAt C H p i o ds es m ∧ ∀ x H', H x = none → ExAt C H' x o i es ds m → Same H H' → Q (.ref x) H'
def spChkPX (K : Frg) (C CE : Addr) : Sp := fun vs H Q E => ∃ (p i o : Addr) (ds es : List Int) (m : Int) (v : V), vs = [.ref p, v] ∧ ExAt C H p i o ds es m ∧ PairJ K H ds.length es.length v false ∧ RefT CE H v E
def spBusyCalls (C : Addr) : Sp := fun vs H Q _ => ∃ (p i o : Addr) (ds es : List Int) (m : Int) (u : V) (pr : PP), vs = [.ref p, u] ∧ ExAt C H p i o ds es m ∧ PairV H u pr ∧ InP ds.length es.length pr ∧ ∀ q xs H', H' q = some (.lst xs) → ((xs.length : Nat) : Int) = bz ds es pr → Same H H' → Q (.ref q) H'
def spBusiest (C : Addr) : Sp := fun vs H Q _ => ∃ (p i o : Addr) (ds es : List Int) (m : Int) (u : V) (pr : PP), vs = [.ref p, u] ∧ ExAt C H p i o ds es m ∧ PairV H u pr ∧ InP ds.length es.length pr ∧ ∀ H', Same H H' → Q (.int (bz ds es pr)) H'
def spStrict (C : Addr) : Sp := fun vs H Q _ => ∃ (p i o : Addr) (ds es : List Int) (m : Int), vs = [.ref p] ∧ ExAt C H p i o ds es m ∧ ∀ H', Same H H' → Q (.int (mx ((pairsL ds.length es.length).map (bz ds es)) + 1)) H'
def spDegree (C : Addr) : Sp := fun vs H Q _ => ∃ (p i o : Addr) (ds es : List Int) (m : Int), vs = [.ref p] ∧ ExAt C H p i o ds es m ∧ ∀ H', Same H H' → Q (.int (dg ds es)) H'
def spDue (C : Addr) : Sp := fun vs H Q _ => ∃ (p i o : Addr) (ds es : List Int) (m : Int) (a b : Nat), vs = [.ref p, .int (a : Nat), .int (b : Nat)] ∧ ExAt C H p i o ds es m ∧ a < ds.length ∧ b < es.length ∧ Q (.int (bz ds es ((a : Int), (b : Int)))) H
def spRefP (K : Frg) (C : Addr) : Sp := fun vs H Q _ => ∃ (p i o : Addr) (ds es : List Int) (m : Int) (v : V), vs = [.ref p, v] ∧ ExAt C H p i o ds es m ∧ PairJ K H ds.length es.length v false ∧ ∀ t H', H' t = some (.tup [.str "pair", v]) → Same H H' → Q (.ref t) H'
/-- the numbers of one pair -/
theorem Good.side_of {ds es : List Int} (g : Good ds) (h : Good es) {pr : PP} (hi : InP ds.length es.length pr) : 1 ≤ ds.getD pr.1.toNat 0 ∧ 1 ≤ es.getD pr.2.toNat 0 ∧ 0 ≤ es.sum - es.getD pr.2.toNat 0 ∧ 0 ≤ ds.sum - ds.getD pr.1.toNat 0 := by
  obtain ⟨h1, h2, h3, h4⟩ := hi
  have a := sum_ge (fun d hd => (g.2.2 d hd).1) (n := pr.1.toNat) (by omega)
  have b := sum_ge (fun d hd => (h.2.2 d hd).1) (n := pr.2.toNat) (by omega)
  omega
theorem bz_nn {ds es : List Int} (g : Good ds) (h : Good es) {pr : PP} (hi : InP ds.length es.length pr) : 0 ≤ bz ds es pr := by
  obtain ⟨a, b, c, d⟩ := Good.side_of g h hi
  exact bzI_nn a b c d
theorem atI_getD {ds : List Int} {n : Nat} (h : n < ds.length) : ds[n]? = some (ds.getD n 0) := by rw [List.getD_eq_getElem?_getD, List.getElem?_eq_getElem h]; rfl
theorem dV (a b : Int) : decide (V.int a = V.int b) = decide (a = b) := by
  refine decide_eq_decide.mpr ⟨fun h => ?_, fun h => by rw [h]⟩
  injection h
theorem cut_len (xs : List V) {k : Int} (h : 0 ≤ k) : ((cutV xs none (some k)).length : Int) = min k xs.length := by
  rw [cut_to _ h, List.length_take]
  omega
end Gn
namespace Gn
open PySem PySem.Spec PyProof.Rows L2
/-- an error of the class at S is what «except S» names -/
theorem exm_self {K : PySem.W.Frag} {S : Addr} (h1 : PySem.W.subIn K (.ref S) (.type "BaseException") = some true) (h2 : PySem.W.isClsIn K S = true) (h3 : PySem.W.typeIn K (.ref S) = some (.type "type")) (h4 : PySem.W.subIn K (.ref S) (.ref S) = some true) : PySem.W.exmOne K (.ref S) (.ref S) = some true := by
  have e1 : (PySem.W.subIn K (.ref S) (.type "BaseException") == some true) = true := by rw [h1] <;> rfl
  have e2 : ((PySem.W.clsIn K S).isSome && PySem.W.typeIn K (.ref S) == some (.type "type")) = true := by
    have h2' : (PySem.W.clsIn K S).isSome = true := h2
    rw [h2', h3] <;> rfl
  show (if (PySem.W.subIn K (.ref S) (.type "BaseException") == some true) = true then (if ((PySem.W.clsIn K S).isSome && PySem.W.typeIn K (.ref S) == some (.type "type")) = true then PySem.W.subIn K (.ref S) (.ref S) else none) else none) = some true
  rw [if_pos e1, if_pos e2]
  exact h4
end Gn
set_option Elab.async false
set_option linter.all false
set_option maxRecDepth 100000
set_option maxHeartbeats 4000000
/-! try with several «except X as e» clauses; x in a tuple of data. -/
namespace Gn
open PySem PySem.Spec PyProof.Rows L2 Com Sd StV
/-- a clause: the class, the slot of its name, its suite -/
structure Cl where
  c : Value
  i : Nat
  ts : Addr → Value → Option Addr → TS
def goneE (i : Nat) (D : Ends) : Ends := { nx := fun σ' H' => D.nx (σ'.set i none) H', rt := D.rt, bk := fun σ' H' => D.bk (σ'.set i none) H', ct := fun σ' H' => D.ct (σ'.set i none) H' }
def wMA (K : PySem.W.Frag) (Wout : WX) (D : Ends) : List Cl → WX
  | [] => Wout
  | x :: r => fun cls d σ H => ∃ b, PySem.W.exmOne K cls x.c = some b ∧ (b = true → ∀ a, H a = none → x.ts a cls d (goneE x.i D) (σ.set x.i (some (.ref a))) H) ∧ (b = false → wMA K Wout D r cls d σ H)
inductive HdsAs (X : Cx) : List ExceptHandler → List Cl → Prop
  | nil : HdsAs X [] []
  | cons {x n : Str} {c : Value} {i : Nat} {ts : Addr → Value → Option Addr → TS} {b₀ : Stmt} {suite : List Stmt} {np pos' : Pos} {hds : List ExceptHandler} {l : List Cl} (hi : X.N[i]? = some n) (hln : X.env.kindOf n = some .local) (hc : Names X x c)
      (hsu : ∀ (a : Addr) (oe : Obj) (cls : Value) (d : Option Addr) (pn : List (Addr × Obj)), Zc cls d oe → (∃ vs, oe.data = .fields vs) → PSs (X.suite a ((a, oe) :: pn)) (b₀ :: suite) (ts a cls d)) (r : HdsAs X hds l) :
      HdsAs X (.ExceptHandler (some (.Name x np)) (some n) (b₀ :: suite) pos' :: hds) (⟨c, i, ts⟩ :: l)
section
variable {X : Cx} {body : List Stmt} {h₀ : ExceptHandler} {hds : List ExceptHandler} {l : List Cl} {pos : Pos} {tb : WX → TS} {Wout : WX}
theorem ps_tryAs (hN : X.N.Nodup) (tk : Takes X Wout)
    (hb : ∀ (W : WX) (pn : List (Addr × Obj)) (xe : Value → Shared → Prop), Takes (X.tr pn xe) W → PassesOwn (model X.prog X.w) X.A X.env xe → PSs (X.tr pn xe) body (tb W))
    (hh : HdsAs X (h₀ :: hds) l) (hs : X.stack = X.env :: X.outer := by rfl) (hf : X.env.frame = some X.env.locals := by rfl) : PS X (.Try body (h₀ :: hds) [] [] pos) (fun D σ H => tb (wMA X.K Wout D l) D σ H) := by
  refine ⟨fun pins s σ H D I h => ?_⟩
  have ok := I.ok
  have hfr : X.A.frames = some (X.env :: X.outer) := by rw [ok.frames, hs]
  refine wpAny_Try_except ?_
  refine wpAny_mono ((hb (wMA X.K Wout D l) (X.pn ++ pins) (fun e s₁ => wpAny (model X.prog X.w) X.A (noteFrame e X.env) (fun _ s₂ => wpAny (model X.prog X.w) X.A (setFlight e none) (fun _ s₃ =>
    wpAny (model X.prog X.w) X.A (handleBy e X.env (h₀ :: hds)) (SP X pins D) X.xe s₃) X.xe s₂) X.xe s₁) (fun u s' xx => ?_) PassesOwn.looking).run [] s σ H D (I.toTry _) h) (fun f s1 hsp => ?_) (fun e s1 he => he)
  · obtain ⟨a, B, sI, pins', σ', H', cls, d, rfl, J', nb, up, sky, na, os, ag, w⟩ := xx
    have J : Inv X pins σ' H' sI := J'.ofTry ok
    have sky' : Sky B (X.env :: X.outer) a (Zc cls d) X.env.locals s'.heap := by rw [← hs]; exact sky
    show wpAny (model X.prog X.w) X.A (noteFrame (.ref a) X.env) _ _ _
    refine Sky.land Zc.steady hfr hf sky' fun h3 fl3 up3 => ?_
    have J3 : Inv X pins σ' H' { s' with heap := h3 } := J.landed nb fl3.1 (up.trans up3) os ag
    obtain ⟨oe3, vs3, he3, hz3, hd3⟩ := fl3.there
    have notFr : ∀ {h : Heap} {o : Obj} {vs : Array Value}, h.FunFrames B (X.env :: X.outer) → h.get? a = some o → o.data = .fields vs → a ∉ frs (X.env :: X.outer) := fun {h o vs} ff e dd hm => by
      obtain ⟨_, o', e', hnf⟩ := ff.mem hm
      rw [e] at e'; cases e'
      exact hnf _ dd
    have nfr := notFr fl3.2.2.1 he3 hd3
    have nL : a ≠ X.env.locals := fun z => nfr (List.mem_filterMap.mpr ⟨X.env, List.mem_cons_self, by rw [hf, z]⟩)
    have nF : a ∉ X.fs := fun hm => by
      obtain ⟨e, he, q⟩ := List.mem_filterMap.mp hm
      exact nfr (List.mem_filterMap.mpr ⟨e, List.mem_cons_of_mem _ he, q⟩)
    have S3 := J3.suite he3 hd3 na nL nF
    have go : ∀ {hds' : List ExceptHandler} {l' : List Cl}, HdsAs X hds' l' → wMA X.K Wout D l' cls d σ' H' →
        wpAny (model X.prog X.w) X.A (handleBy (.ref a) X.env hds') (SP X pins D) X.xe { s' with heap := h3 } := by
      intro hds' l' hk
      induction hk with
      | nil =>
        intro w
        refine wpAny_handleBy_nil ?_
        obtain ⟨k1, k2, k3, oe, vs, T, oT, ts', he, hz, hd, h1, hr⟩ := id fl3
        unfold PySem.passOn
        refine wpAny_bind (wpAny_field he hd h1 ?_)
        rw [if_neg (show ¬ ((Value.ref T == Value.none) = true) from by simp)]
        have fin : wpAny (model X.prog X.w) X.A (setFlight (.ref a) X.env.frame) (fun _ s4 => wpAny (model X.prog X.w) X.A (throw (.ref a) : Sem Flow) (SP X pins D) X.xe s4) X.xe { s' with heap := h3 } := by
          rw [hf]
          refine HandSPX.setFlight_upZ fl3 fun h4 hh4 up4 => wpAny_throw (tk _ _ ?_)
          exact ⟨a, B, sI, pins, σ', H', cls, d, rfl, J, nb, (up.trans up3).trans up4, .inr (.inr (by rw [hs]; exact hh4)), na, os, ag, w⟩
        first
          | exact wpAny_bind (wpAny_pure (wpAny_bind fin))
          | exact wpAny_bind fin
      | @cons x n c i ts b₀ suite np pos' hds2 l2 hi hln hc hsu r ih =>
        intro w
        obtain ⟨b, hb1, hyes, hno⟩ := w
        have hloc : Loc X.env.scope n := .inl hln
        refine wpAny_handleBy_cons (codeAny_handlers_test ?_) (by intro q; cases q)
        have LT : PySem.W.Looks (model X.prog X.w) h3 (typeOf (.ref a)) cls := fun A Q E s k q => wpAny_typeOf_ref (k _ _ he3) (by rw [hz3.1]; exact q)
        have LM := PySem.W.exm_one (M := model X.prog X.w) (J3.kIn) LT hb1
        have test : ∀ {Q : Value → Shared → Prop} {E : Value → Shared → Prop}, Q c { s' with heap := h3 } → wpAny (model X.prog X.w) (X.A.mark (some (.ref a))) (eval (.Name x np) X.env) Q E { s' with heap := h3 } := fun {Q E} q => by
          obtain ⟨hg, hdbg, hm | ⟨hm, hv, hnn⟩⟩ := hc
          · exact ld_glob (X := X.suite a ((a, oe3) :: (X.pn ++ pins))) S3 hg hm q hdbg
          · exact ld_blt (X := X.suite a ((a, oe3) :: (X.pn ++ pins))) S3 hg hm hv q hnn hdbg
        refine test (LM.here ?_)
        cases b with
        | true =>
          refine codeAny_handlers_suite_as ?_
          refine HandSPX.lands_againZ fl3 fun h4 fl4 up4 => ?_
          have J4 : Inv X pins σ' H' { s' with heap := h4 } := J.landed nb fl4.1 ((up.trans up3).trans up4) os ag
          obtain ⟨oe4, vs4, he4, hz4, hd4⟩ := fl4.there
          have S4 := J4.suite he4 hd4 na nL nF
          refine store_ok (X := X.suite a ((a, oe4) :: (X.pn ++ pins))) (v := .ref a) S4 hN hi hloc rfl (fun s5 S5 => ?_) (.inr hln)
          refine wpAny_mono ((hsu a oe4 cls d (X.pn ++ pins) hz4 ⟨_, hd4⟩).run [] s5 _ H' _ S5 (hyes rfl a na)) (fun f s6 hsp => ?_) (fun _ _ z => False.elim z)
          have end_ : ∀ {σ6 : L2.St} {H6 : Hp} {Q : Shared → Prop}, Inv (X.suite a ((a, oe4) :: (X.pn ++ pins))) [] σ6 H6 s6 → (∀ s7, Inv X pins (σ6.set i none) H6 s7 → Q s7) →
              wpAny (model X.prog X.w) X.A (do bindName X.env n .none; unbindBehindTheSuite X.env n pos') (fun _ s7 => Q s7) X.xe s6 := fun {σ6 H6 Q} S6 hq => gone_ok (S6.unsuite ok) hN hi hln hq
          cases f with
          | next =>
            obtain ⟨σ6, H6, S6, q6⟩ := hsp
            exact end_ S6 fun s7 J7 => ⟨_, _, J7, q6⟩
          | brk =>
            obtain ⟨σ6, H6, S6, q6⟩ := hsp
            exact end_ S6 fun s7 J7 => ⟨_, _, J7, q6⟩
          | cont =>
            obtain ⟨σ6, H6, S6, q6⟩ := hsp
            exact end_ S6 fun s7 J7 => ⟨_, _, J7, q6⟩
          | ret u =>
            obtain ⟨v6, σ6, H6, S6, r6, q6⟩ := hsp
            exact end_ S6 fun s7 J7 => ⟨_, _, _, J7, r6, q6⟩
        | false =>
          show wpAny _ X.A (handleBy (.ref a) X.env hds2) _ _ _
          exact ih (hno rfl)
    exact go hh w
  · cases f with
    | next =>
      obtain ⟨σ', H', J', q⟩ := hsp
      exact wpAny_execs_nil ⟨σ', H', J'.ofTry ok, q⟩
    | brk =>
      obtain ⟨σ', H', J', q⟩ := hsp
      exact ⟨σ', H', J'.ofTry ok, q⟩
    | cont =>
      obtain ⟨σ', H', J', q⟩ := hsp
      exact ⟨σ', H', J'.ofTry ok, q⟩
    | ret u =>
      obtain ⟨v, σ', H', J', r, q⟩ := hsp
      exact ⟨v, σ', H', J'.ofTry ok, r, q⟩
end
end Gn
set_option Elab.async false
set_option linter.all false
set_option maxRecDepth 100000
set_option maxHeartbeats 4000000
namespace Gn
open PySem PySem.Spec PyProof.Rows L2 Com Sd StV Ext
/-! ### x not in a tuple of data; != of tuples of the very same items; either of two rules -/
def rNotInT (K : PySem.W.Frag) : R2 := fun x y H Q => ∃ d ds, Dp K H x d ∧ Dp K H y (.tuple ds) ∧ SeqAt.shaped d = true ∧ SeqAt.shaped (.list ds) = true ∧ Q (.bl (!ds.any fun z => PyData.eqv z d)) H
theorem notInT {X : Cx} (K : PySem.W.Frag) (hu : X.A.units + 65 < cLine) (hK : X.K = K := by rfl) : OpR X (compareOp .NotIn) (rNotInT K) := by
  subst hK
  intro pins s σ H x y v u Q I rx ry h
  obtain ⟨d, ds, hd, he, sd, se, q⟩ := h
  obtain ⟨as, r1⟩ := Dp.reads I d x v hd rx
  obtain ⟨bs, r2⟩ := Dp.reads I (.tuple ds) y u he ry
  exact SeqAt.notIn_tuple_reads r2 r1 (SeqAt.canLay_of_shaped se) (SeqAt.canLay_of_shaped sd) (room_in_shaped sd hu) ⟨.bl _, H, I, rfl, q⟩
def rNeTS (K : PySem.W.Frag) : R2 := fun x y H Q => ∃ a b xs, x = .ref a ∧ y = .ref b ∧ SqT K H a xs ∧ SqT K H b xs ∧ xs.all sameOk = true ∧ Q (.bl false) H
theorem neTS {X : Cx} (K : PySem.W.Frag) (hu : X.A.units + 64 < cLine) (hK : X.K = K := by rfl) : OpR X (compareOp .NotEq) (rNeTS K) := by
  subst hK
  intro pins s σ H x y v u Q I rx ry h
  obtain ⟨a, b, xs, rfl, rfl, ha, hb, hall, q⟩ := h
  cases (show v = Value.ref a from rx)
  cases (show u = Value.ref b from ry)
  obtain ⟨us, r1, p1, _⟩ := I.tuple ha
  obtain ⟨ws, r2, p2, _⟩ := I.tuple hb
  have k := SeqAt.RcNeAt.tuples (A := X.A) (s := s) (e := fun _ => true) (show s.heap.IsTuple a us.toArray from p1) (show s.heap.IsTuple b ws.toArray from p2) (by omega) (fun j h1 h2 => by
    have := vals_at r1 r2 hall X.A.in1 s j (by simpa using h1) (by simpa using h2)
    simpa using this)
  have e : (!((List.range (min us.toArray.size ws.toArray.size)).all (fun _ => true) && us.toArray.size == ws.toArray.size)) = false := by simp [← r1.length, ← r2.length]
  rw [e] at k
  exact k X.prog X.w X.xe _ ⟨.bl false, H, I, rfl, q⟩
def rNeO (K : PySem.W.Frag) : R2 := fun x y H Q => rNeD K x y H Q ∨ rNeTS K x y H Q
theorem neO {X : Cx} (K : PySem.W.Frag) (hu : X.A.units + 64 < cLine) (hK : X.K = K := by rfl) : OpR X (compareOp .NotEq) (rNeO K) := by
  intro pins s σ H x y v u Q I rx ry h
  rcases h with h | h
  · exact neD K hu hK pins s σ H x y v u Q I rx ry h
  · exact neTS K hu hK pins s σ H x y v u Q I rx ry h
/-! ### the promises -/
def spL1 (f : List PP → PP → List PP) : Sp := fun vs H Q _ => ∃ (v u : V) (L : List PP) (p : PP), vs = [v, u] ∧ LoadV H v L ∧ L.length ≤ 100 ∧ PairV H u p ∧ ∀ r H', LoadV H' r (f L p) → Same H H' → Q r H'
def spS1 (f : List PP → PP → List PP) : Sp := fun vs H Q _ => ∃ (v u : V) (S : List (List PP)) (p : PP) (k : Nat) (L : List PP), vs = [v, u, .int (k : Nat)] ∧ StaV H v S ∧ S.length ≤ 100 ∧ S[k]? = some L ∧ L.length ≤ 100 ∧ PairV H u p ∧ ∀ r H', StaV H' r (S.set k (f L p)) → Same H H' → Q r H'
def RefS (CD : Addr) (H : Hp) (t : Str) (E : XK) : Prop := ∀ d H', H' d = some (.xd [("side", .str t)]) → Same H H' → E (.ref CD) (some d) H'
theorem side_look (v : V) : List.lookup ("side" : Str) [(("side" : Str), v)] = some v := lk_eq
def at1 (ds : List Int) (S : List (List PP)) (p : PP) : Int := (left ds (fs S)).getD p.1.toNat 0
def at2 (es : List Int) (S : List (List PP)) (p : PP) : Int := (left es (sn S)).getD p.2.toNat 0
def spChkD (C CD : Addr) : Sp := fun vs H Q E => ∃ (p i o : Addr) (ds es : List Int) (m : Int) (v u : V) (S : List (List PP)) (pr : PP), vs = [.ref p, v, u] ∧ ExAt C H p i o ds es m ∧ StaV H v S ∧ StdOk ds es m S ∧ PairV H u pr ∧ InP ds.length es.length pr ∧
  (at1 ds S pr = 0 → RefS CD H "in" E) ∧ (at1 ds S pr ≠ 0 → at2 es S pr = 0 → RefS CD H "out" E) ∧ (at1 ds S pr ≠ 0 → at2 es S pr ≠ 0 → ∀ H', Same H H' → Q .non H')
/-- an answer, or a refusal -/
inductive Out where
  | told (S : List (List PP))
  | side (t : Str)
  | mid (x : V)
  | call (u : V)
def OutV (H : Hp) (r : V) : Out → Prop
  | .told S => ∃ t v, r = .ref t ∧ H t = some (.tup [.str "told", v]) ∧ StaV H v S
  | .side s => ∃ t, r = .ref t ∧ H t = some (.tup [.str "door", .str s])
  | .mid x => ∃ t, r = .ref t ∧ H t = some (.tup [.str "middle", x])
  | .call u => ∃ t, r = .ref t ∧ H t = some (.tup [.str "call", u])
/-- the middle: a number, or nothing of the kind -/
def KJ (K : Frg) (H : Hp) (x : V) : Prop := sameOk x = true ∧ ((∃ z, x = .int z) ∨ PlainI K H x false)
theorem KJ.same {K : Frg} {H H' : Hp} (s : Same H H') {x : V} (h : KJ K H x) : KJ K H' x := ⟨h.1, h.2.imp id fun p => p.same s⟩
def kGood (S : List (List PP)) (p : PP) (x : V) : Option Nat := match x with
  | .int z => if z ∈ frees S p then some z.toNat else none
  | _ => none
def outW (ds es : List Int) (S : List (List PP)) (p : PP) (x : V) : Out :=
  if at1 ds S p = 0 then .side "in" else if at2 es S p = 0 then .side "out" else match kGood S p x with
    | some k => .told (S.set k (putL (S.getD k []) p))
    | none => .mid x
def kIn (S : List (List PP)) (x : V) : Option Nat := match x with
  | .int z => if 0 ≤ z ∧ z < S.length then some z.toNat else none
  | _ => none
def outR (S : List (List PP)) (p : PP) (u x : V) : Out := match kIn S x with
  | some k => if p ∈ S.getD k [] then .told (S.set k (takeL (S.getD k []) p)) else .call u
  | none => .mid x
/-- exchange, standing, pair, middle -/
def sp4 (K : Frg) (C : Addr) (R : (ds es : List Int) → (S : List (List PP)) → (u : V) → PP → V → Hp → VK → XK → Prop) : Sp := fun vs H Q E => ∃ (p i o : Addr) (ds es : List Int) (m : Int) (v u x : V) (S : List (List PP)) (pr : PP), vs = [.ref p, v, u, x] ∧ ExAt C H p i o ds es m ∧ StaV H v S ∧ StdOk ds es m S ∧ PairV H u pr ∧ InP ds.length es.length pr ∧ KJ K H x ∧ R ds es S u pr x H Q E
/-- what comes of an outcome: an answer, or an error -/
def Falls (CD CM CC : Addr) (out : Out) (H : Hp) (Q : VK) (E : XK) : Prop := match out with
  | .told S => ∀ r H', StaV H' r S → Same H H' → Q r H'
  | .side t => RefS CD H t E
  | .mid x => RefT CM H x E
  | .call u => RefT CC H u E
def spWith7 (K : Frg) (C CD CM CC : Addr) : Sp := sp4 K C fun ds es S u pr x H Q E => Falls CD CM CC (outW ds es S pr x) H Q E
def spWout7 (K : Frg) (C CD CM CC : Addr) : Sp := sp4 K C fun ds es S u pr x H Q E => Falls CD CM CC (outR S pr u x) H Q E
def spDueW (K : Frg) (C : Addr) : Sp := sp4 K C fun ds es S u pr x H Q _ => ∀ r H', OutV H' r (outW ds es S pr x) → Same H H' → Q r H'
def spDueR (K : Frg) (C : Addr) : Sp := sp4 K C fun ds es S u pr x H Q _ => ∀ r H', OutV H' r (outR S pr u x) → Same H H' → Q r H'
/-- two answers alike -/
theorem neOut {K : Frg} {H : Hp} {r1 r2 : V} {out : Out} {Q : VK} (h1 : OutV H r1 out) (h2 : OutV H r2 out) (hs : ∀ x, out = .mid x ∨ out = .call x → sameOk x = true) (q : Q (.bl false) H) : rNeO K r1 r2 H Q := by
  cases out with
  | told S =>
    obtain ⟨t1, v1, rfl, e1, s1⟩ := h1
    obtain ⟨t2, v2, rfl, e2, s2⟩ := h2
    have dd : SeqAt.shaped (.tuple [.str "told", dS S]) = true := by
      have h := depth_loads S
      show (PyData.canLay0 (.tuple [.str "told", .tuple (S.map dL)]) && decide (PyData.depth (.tuple [.str "told", .tuple (S.map dL)]) ≤ 64)) = true
      rw [Bool.and_eq_true]
      constructor
      · simp [PyData.canLay0, PyData.canLayAll0, lay_loads]
        decide +kernel
      · refine decide_eq_true ?_
        simp only [PyData.depth, PyData.depthAll]
        omega
    refine .inl ⟨.tuple [.str "told", dS S], .tuple [.str "told", dS S], ?_, ?_, dd, dd, ?_⟩
    · exact .tup (SqT.of e1) (.cons (.str _) (.cons (dp_staV s1) .nil))
    · exact .tup (SqT.of e2) (.cons (.str _) (.cons (dp_staV s2) .nil))
    · have : PyData.eqv (.tuple [.str "told", dS S]) (.tuple [.str "told", dS S]) = true := by
        simp [PyData.eqv, PyData.eqvAll, eqv_dS]
      rw [this]
      exact q
  | side t =>
    obtain ⟨t1, rfl, e1⟩ := h1
    obtain ⟨t2, rfl, e2⟩ := h2
    exact .inr ⟨t1, t2, _, rfl, rfl, SqT.of e1, SqT.of e2, rfl, q⟩
  | mid x =>
    obtain ⟨t1, rfl, e1⟩ := h1
    obtain ⟨t2, rfl, e2⟩ := h2
    exact .inr ⟨t1, t2, _, rfl, rfl, SqT.of e1, SqT.of e2, by rw [List.all_cons, List.all_cons, hs x (.inl rfl)]; rfl, q⟩
  | call x =>
    obtain ⟨t1, rfl, e1⟩ := h1
    obtain ⟨t2, rfl, e2⟩ := h2
    exact .inr ⟨t1, t2, _, rfl, rfl, SqT.of e1, SqT.of e2, by rw [List.all_cons, List.all_cons, hs x (.inr rfl)]; rfl, q⟩
theorem OutV.same {H H' : Hp} (s : Same H H') {r : V} {out : Out} (h : OutV H r out) : OutV H' r out := by
  cases out with
  | told S => exact let ⟨t, v, e, h1, h2⟩ := h; ⟨t, v, e, s _ _ h1, StaV.same s h2⟩
  | side t => exact let ⟨t, e, h1⟩ := h; ⟨t, e, s _ _ h1⟩
  | mid x => exact let ⟨t, e, h1⟩ := h; ⟨t, e, s _ _ h1⟩
  | call u => exact let ⟨t, e, h1⟩ := h; ⟨t, e, s _ _ h1⟩
theorem any_pD (L : List PP) (p : PP) : ((L.map pD).any fun z => PyData.eqv z (pD p)) = decide (p ∈ L) := by
  induction L with
  | nil => rfl
  | cons c L ih =>
    rw [List.map_cons, List.any_cons, ih, eqv_pD]
    by_cases e : c = p
    · simp [e]
    · have e' : p ≠ c := fun z => e z.symm
      by_cases e2 : p ∈ L <;> simp [e, e', e2]
/-- the pieces of t[:k] + (x,) + t[k + 1:] -/
theorem cut_to7 (xs : List V) (k : Nat) : cutV xs none (some ((k : Nat) : Int)) = xs.take k := by
  rw [cut_to _ (by omega)]
  congr 1
theorem cut_from7 (xs : List V) (k : Nat) : cutV xs (some ((k : Int) + 1)) none = xs.drop (k + 1) := by
  unfold cutV
  have e1 : HT.sIx xs.length xs.length none = xs.length := HT.sIx_none xs.length xs.length
  have e2 : HT.sIx xs.length 0 (some ((k : Int) + 1)) = min (k + 1) xs.length := by
    show (if ((k : Int) + 1) < 0 then (((k : Int) + 1) + (xs.length : Int)).toNat else min ((k : Int) + 1).toNat xs.length) = _
    rw [if_neg (by omega), show ((k : Int) + 1).toNat = k + 1 by omega]
  rw [e1, e2]
  by_cases h : k + 1 ≤ xs.length
  · rw [Nat.min_eq_left h]
    exact List.take_of_length_le (by rw [List.length_drop]; omega)
  · rw [Nat.min_eq_right (by omega), List.drop_eq_nil_of_le (by omega : xs.length ≤ k + 1), Nat.sub_self, List.take_zero]
theorem paired_take {α β : Type} {F : α → β → Prop} : ∀ {xs : List α} {ys : List β} (k : Nat), Paired F xs ys → Paired F (xs.take k) (ys.take k)
  | _, _, 0, _ => by simp only [List.take_zero]; exact .nil
  | _, _, _ + 1, .nil => by simp only [List.take_nil]; exact .nil
  | _, _, k + 1, .cons h t => by simp only [List.take_succ_cons]; exact .cons h (paired_take k t)
theorem paired_drop {α β : Type} {F : α → β → Prop} : ∀ {xs : List α} {ys : List β} (k : Nat), Paired F xs ys → Paired F (xs.drop k) (ys.drop k)
  | _, _, 0, h => h
  | _, _, _ + 1, .nil => .nil
  | _, _, k + 1, .cons _ t => by simp only [List.drop_succ_cons]; exact paired_drop k t
theorem set_cat {α : Type} (S : List α) {k : Nat} (h : k < S.length) (M : α) : S.set k M = S.take k ++ [M] ++ S.drop (k + 1) := by
  rw [List.set_eq_take_append_cons_drop, if_pos h]
  simp
end Gn
set_option Elab.async false
set_option linter.all false
set_option maxRecDepth 100000
set_option maxHeartbeats 4000000
/-! sorted() of loads: tuples of pairs, some of them without items. -/
namespace Srl
open PySem PyProof.Rows Srt SrtO Sd
/-- the order of loads -/
def ltL : List PP → List PP → Bool
  | [], M => decide (0 < M.length)
  | _ :: _, [] => false
  | p :: L, q :: M => if p = q then ltL L M else lexB p q
theorem lexAt_ltL : ∀ (L M : List PP) (e r : Nat → Bool) (i : Nat), (∀ j p q, L[j]? = some p → M[j]? = some q → e (i + j) = decide (p = q) ∧ r (i + j) = lexB p q) →
    Ob.lexAt e r (decide (L.length < M.length)) i (min L.length M.length) = ltL L M
  | [], M, e, r, i, _ => by simp [ltL, Ob.lexAt]
  | p :: L, [], e, r, i, _ => by simp [ltL, Ob.lexAt]
  | p :: L, q :: M, e, r, i, h => by
    have h0 := h 0 p q rfl rfl
    have hm : min (p :: L).length (q :: M).length = min L.length M.length + 1 := by simp only [List.length_cons]; omega
    have hd : decide ((p :: L).length < (q :: M).length) = decide (L.length < M.length) := by simp only [List.length_cons]; exact decide_eq_decide.mpr (by omega)
    rw [hm, hd, Ob.lexAt_succ]
    rw [Nat.add_zero] at h0
    rw [h0.1, h0.2, lexAt_ltL L M e r (i + 1) fun j a b ha hb => by
      have := h (j + 1) a b (by simpa using ha) (by simpa using hb)
      rwa [show i + (j + 1) = i + 1 + j by omega] at this]
    show _ = if p = q then ltL L M else lexB p q
    by_cases c : p = q <;> simp [c]
/-- a load at v -/
def IsLd (h : Heap) (v : Value) (L : List PP) : Prop := ∃ a o xs n, v = .ref a ∧ h.get? a = some o ∧ o.cls = .type "tuple" ∧ o.data = .seq xs n ∧ xs.size = L.length ∧ ∀ (j : Nat) (u : Value) (p : PP), xs[j]? = some u → L[j]? = some p → IsPair h u p.1 p.2
theorem IsLd.keeps {h h' : Heap} {v : Value} {L : List PP} (x : IsLd h v L) (k : ∀ b o, h.get? b = some o → o.cls = .type "tuple" → h'.get? b = some o) : IsLd h' v L := by
  obtain ⟨a, o, xs, n, e, ho, hc, hd, hl, hp⟩ := x
  exact ⟨a, o, xs, n, e, k _ _ ho hc, hc, hd, hl, fun j u p h1 h2 => (hp j u p h1 h2).keeps k⟩
section
variable {prog : Program} {w : World} {A : Around} {E : Value → Shared → Prop} {s : Shared}
theorem pair_rc {u v : Value} {p q : PP} (hu : A.units < cLine) (h1 : IsPair s.heap u p.1 p.2) (h2 : IsPair s.heap v q.1 q.2) : Ob.RcOp .Lt A s u v (lexB p q) := by
  obtain ⟨a, o, t, t', n, rfl, ho, hc, hd⟩ := h1
  obtain ⟨b, o2, t2, t2', n2, rfl, ho2, hc2, hd2⟩ := h2
  have k := Ob.RcOp.tuples_lt (A := A) (s := s) (e := fun j => if j = 0 then (p.1 == q.1) else (p.2 == q.2)) (r := fun j => if j = 0 then decide (p.1 < q.1) else decide (p.2 < q.2))
    (show s.heap.IsTuple a #[.int p.1 t, .int p.2 t'] from ⟨o, ho, hc, n, hd⟩) (show s.heap.IsTuple b #[.int q.1 t2, .int q.2 t2'] from ⟨o2, ho2, hc2, n2, hd2⟩) hu
    (fun j j1 j2 => by
      have hj : j < 2 := j1
      match j, hj with
      | 0, _ => simpa using SeqAt.EqAt.int_int (A := A.in1) (s := s) p.1 t q.1 t2
      | 1, _ => simpa using SeqAt.EqAt.int_int (A := A.in1) (s := s) p.2 t' q.2 t2')
    (fun j j1 j2 _ => by
      have hj : j < 2 := j1
      match j, hj with
      | 0, _ => exact Ob.RcOp.lt_int p.1 q.1 t t2
      | 1, _ => exact Ob.RcOp.lt_int p.2 q.2 t' t2')
  have e : Ob.lexAt (fun j => if j = 0 then (p.1 == q.1) else (p.2 == q.2)) (fun j => if j = 0 then decide (p.1 < q.1) else decide (p.2 < q.2)) (decide ((#[Value.int p.1 t, .int p.2 t'] : Array Value).size < (#[Value.int q.1 t2, .int q.2 t2'] : Array Value).size)) 0 (min (#[Value.int p.1 t, .int p.2 t'] : Array Value).size (#[Value.int q.1 t2, .int q.2 t2'] : Array Value).size) = lexB p q := by
    show Ob.lexAt _ _ (decide (2 < 2)) 0 2 = _
    rw [Ob.lexAt_succ, Ob.lexAt_succ, Ob.lexAt_zero]
    unfold lexB
    by_cases c : p.1 = q.1
    · by_cases c2 : p.2 = q.2
      · simp [c, c2]
      · simp [c, c2]
    · simp [c]
  rw [e] at k
  exact k
theorem pair_reads {h : Heap} {u : Value} {p : PP} (x : IsPair h u p.1 p.2) : Reads h u (Com.pD p) ([] ++ ([] ++ [])) := by
  obtain ⟨a, o, t, t', n, rfl, ho, hc, hd⟩ := x
  exact .tuple ho hc hd (.cons (.int _ _) (.cons (.int _ _) .nil))
theorem pair_eq {u v : Value} {p q : PP} (hu : A.units + 4 < cLine) (h1 : IsPair s.heap u p.1 p.2) (h2 : IsPair s.heap v q.1 q.2) : SeqAt.EqAt A s u v (decide (p = q)) := by
  have d : PyData.depth (Com.pD p) = 1 := by simp [Com.pD, Com.tI, PyData.depth, PyData.depthAll]
  have l : ∀ p : PP, PyData.canLay0 (Com.pD p) = true := fun p => by simp [Com.pD, Com.tI, PyData.canLay0, PyData.canLayAll0]
  have k := SeqAt.eqAt_reads (Com.pD p) (Com.pD q) A s u v _ _ (pair_reads h1) (pair_reads h2) (l p) (l q) (by omega)
  rw [Com.eqv_pD] at k
  exact k
theorem load_rc {u v : Value} {L M : List PP} (hu : A.units + 8 < cLine) (hA : A.in1.units + 4 < cLine) (h1 : IsLd s.heap u L) (h2 : IsLd s.heap v M) : Ob.RcOp .Lt A s u v (ltL L M) := by
  obtain ⟨a, o, xs, n, rfl, ho, hc, hd, hl, hp⟩ := h1
  obtain ⟨b, o2, ys, n2, rfl, ho2, hc2, hd2, hl2, hp2⟩ := h2
  have gL : ∀ (j : Nat), j < xs.size → L[j]? = some (L.getD j (0, 0)) := fun j h => by rw [List.getD_eq_getElem?_getD, List.getElem?_eq_getElem (by omega)]; rfl
  have gM : ∀ (j : Nat), j < ys.size → M[j]? = some (M.getD j (0, 0)) := fun j h => by rw [List.getD_eq_getElem?_getD, List.getElem?_eq_getElem (by omega)]; rfl
  have k := Ob.RcOp.tuples_lt (A := A) (s := s) (e := fun j => decide (L.getD j (0, 0) = M.getD j (0, 0))) (r := fun j => lexB (L.getD j (0, 0)) (M.getD j (0, 0)))
    (show s.heap.IsTuple a xs from ⟨o, ho, hc, n, hd⟩) (show s.heap.IsTuple b ys from ⟨o2, ho2, hc2, n2, hd2⟩) (by omega)
    (fun j j1 j2 => pair_eq hA (hp j _ _ (Array.getElem?_eq_getElem j1) (gL j j1)) (hp2 j _ _ (Array.getElem?_eq_getElem j2) (gM j j2)))
    (fun j j1 j2 _ => pair_rc (by omega) (hp j _ _ (Array.getElem?_eq_getElem j1) (gL j j1)) (hp2 j _ _ (Array.getElem?_eq_getElem j2) (gM j j2)))
  rw [hl, hl2, lexAt_ltL L M _ _ 0 fun j p q h1 h2 => by
    rw [Nat.zero_add, List.getD_eq_getElem?_getD, List.getD_eq_getElem?_getD, h1, h2]
    exact ⟨rfl, rfl⟩] at k
  exact k
theorem katL {Q : Bool → Shared → Prop} (hu : A.units + 4 < cLine) : ∀ (us vs : List Value) (L M : List PP) (i : Nat), us.length = L.length → vs.length = M.length → (∀ (j : Nat) (u : Value) (p : PP), us[j]? = some u → L[j]? = some p → IsPair s.heap u p.1 p.2) →
    (∀ (j : Nat) (u : Value) (p : PP), vs[j]? = some u → M[j]? = some p → IsPair s.heap u p.1 p.2) → Q (ltL L M) s → PySem.W.KatLex prog w A false (decide (L.length < M.length)) Q (us.zip vs) i s
  | [], vs, [], M, i, _, _, _, _, h => PySem.W.kat_nil h
  | u :: us, [], p :: L, [], i, _, _, _, _, h => PySem.W.kat_nil (by simpa [ltL] using h)
  | u :: us, v :: vs, p :: L, q :: M, i, e1, e2, h1, h2, h => by
    have hd : decide ((p :: L).length < (q :: M).length) = decide (L.length < M.length) := by simp only [List.length_cons]; exact decide_eq_decide.mpr (by omega)
    rw [hd]
    have hp := h1 0 u p rfl rfl
    have hq := h2 0 v q rfl rfl
    have el : ltL (p :: L) (q :: M) = if p = q then ltL L M else lexB p q := rfl
    refine PySem.W.kat_cons (pair_eq hu hp hq prog w _ _ ?_)
    refine PySem.W.kat_go (fun c => ?_) (fun c => ?_)
    · have c' := of_decide_eq_true c
      refine PySem.W.kat_yes (katL hu us vs L M (i + 1) (by simpa using e1) (by simpa using e2) (fun j u p a b => h1 (j + 1) u p (by simpa using a) (by simpa using b)) (fun j u p a b => h2 (j + 1) u p (by simpa using a) (by simpa using b)) ?_)
      rw [el, if_pos c'] at h
      exact h
    · have c' := of_decide_eq_false c
      rw [el, if_neg c'] at h
      refine PySem.W.kat_no ?_
      rw [Bool.false_and]
      exact PySem.W.kat_one _ _ (pair_rc (by omega) hp hq prog w _ _ h)
  | [], _, _ :: _, _, _, e, _, _, _, _ => nomatch e
  | _ :: _, _, [], _, _, e, _, _, _, _ => nomatch e
  | _ :: _, [], _ :: _, _ :: _, _, _, e, _, _, _ => nomatch e
  | _ :: _, _ :: _, _ :: _, [], _, _, e, _, _, _ => nomatch e
theorem lt_tup {u v : Value} {L M : List PP} {Q : Bool → Shared → Prop} (hu : A.units + 20 < cLine) (h1 : IsLd s.heap u L) (h2 : IsLd s.heap v M) (h : Q (ltL L M) s) : wpAny (model prog w) A (keyLt' (tuples' false) u v) Q E s := by
  obtain ⟨a, o, xs, n, rfl, ho, hc, hd, hl, hp⟩ := h1
  obtain ⟨b, o2, ys, n2, rfl, ho2, hc2, hd2, hl2, hp2⟩ := h2
  refine PySem.W.kat_lt ho hd ho2 hd2 ?_
  rw [hl, hl2]
  exact katL (by omega) _ _ L M 0 (by simpa using hl) (by simpa using hl2) (fun j u p a b => hp j u p (by simpa using a) b) (fun j u p a b => hp2 j u p (by simpa using a) b) h
theorem lt_gen {u v : Value} {L M : List PP} {Q : Bool → Shared → Prop} (hu : A.units + 20 < cLine) (h1 : IsLd s.heap u L) (h2 : IsLd s.heap v M) (h : Q (ltL L M) s) : wpAny (model prog w) A (keyLt' general' u v) Q E s := by
  rw [show keyLt' general' u v = oneLt' false u v from rfl]
  exact PySem.W.kat_one _ _ (load_rc (by omega) (by show A.units + 1 + 4 < cLine; omega) h1 h2 prog w _ _ h)
theorem lt_one {u v : Value} {L M : List PP} {Q : Bool → Shared → Prop} (hu : A.units + 20 < cLine) (h1 : IsLd s.heap u L) (h2 : IsLd s.heap v M) (h : Q (ltL L M) s) : wpAny (model prog w) A (keyLt' oneType' u v) Q E s := by
  obtain ⟨a, o, xs, n, rfl, ho, hc, hd, hl, hp⟩ := h1
  obtain ⟨b, o2, ys, n2, rfl, ho2, hc2, hd2, hl2, hp2⟩ := h2
  obtain ⟨cls, dd, data, sl⟩ := o
  obtain ⟨cls2, dd2, data2, sl2⟩ := o2
  simp only at hc hd hc2 hd2
  subst hc hd hc2 hd2
  have gL : ∀ (j : Nat), j < xs.size → L[j]? = some (L.getD j (0, 0)) := fun j h => by rw [List.getD_eq_getElem?_getD, List.getElem?_eq_getElem (by omega)]; rfl
  have gM : ∀ (j : Nat), j < ys.size → M[j]? = some (M.getD j (0, 0)) := fun j h => by rw [List.getD_eq_getElem?_getD, List.getElem?_eq_getElem (by omega)]; rfl
  rw [keyLt'_oneType, oneLt'_eq]
  simp only [if_true]
  refine wpAny_bind (wpAny_cRoomFor (by omega) ?_)
  refine wpAny_bind (wpAny_callSpecialIfBound?_slot (T := "tuple") ⟨_, ho, rfl⟩ PySem.F.slot_tuple_lt ?_)
  refine call_meets PySem.F.slot_tuple_lt ⟨_, ho, rfl⟩ PySem.F.entry_tuple_lt (PySem.F.args_tuple_lt_2 _ _) (Ob.tuple_ltAt a b xs ys n n2 dd dd2 sl sl2 (fun j => decide (L.getD j (0, 0) = M.getD j (0, 0))) (fun j => lexB (L.getD j (0, 0)) (M.getD j (0, 0)))) ⟨ho, ho2, fun j j1 j2 => ?_, fun j j1 j2 _ => ?_, ?_⟩
  · exact pair_eq (by show A.units + 1 + 4 < cLine; omega) (hp j _ _ (Array.getElem?_eq_getElem j1) (gL j j1)) (hp2 j _ _ (Array.getElem?_eq_getElem j2) (gM j j2))
  · exact pair_rc (by show A.units + 1 < cLine; omega) (hp j _ _ (Array.getElem?_eq_getElem j1) (gL j j1)) (hp2 j _ _ (Array.getElem?_eq_getElem j2) (gM j j2))
  · have e := lexAt_ltL L M (fun j => decide (L.getD j (0, 0) = M.getD j (0, 0))) (fun j => lexB (L.getD j (0, 0)) (M.getD j (0, 0))) 0 fun j p q h1 h2 => by
      rw [Nat.zero_add, List.getD_eq_getElem?_getD, List.getD_eq_getElem?_getD, h1, h2]
      exact ⟨rfl, rfl⟩
    rw [hl, hl2, e]
    exact wpAny_truthy_bool h
theorem ld_firsts {M : Model} : ∀ (vs : List Value), (∀ v ∈ vs, ∃ L, IsLd s.heap v L) → ∃ fs : List (Option Value), fs.length = vs.length ∧ (∀ f, some f ∈ fs → ∃ x y, IsPair s.heap f x y) ∧ ∀ (E : Value → Shared → Prop) (Q : List (Option Value) → Shared → Prop), Q fs s → wpAny M A (vs.mapM firstOfTuple') Q E s
  | [], _ => ⟨[], rfl, (fun f h => nomatch h), fun E Q h => by rw [List.mapM_nil]; exact wpAny_pure h⟩
  | v :: vs, hL => by
    obtain ⟨fs, f1, f2, f3⟩ := ld_firsts (M := M) vs fun v' hm => hL v' (List.mem_cons_of_mem _ hm)
    obtain ⟨L, a, o, xs, n, rfl, ho, hc, hd, hl, hp⟩ := hL v (List.mem_cons_self ..)
    refine ⟨xs[0]? :: fs, by rw [List.length_cons, List.length_cons, f1], fun f hm => ?_, fun E Q h => ?_⟩
    · rcases List.mem_cons.mp hm with e | e
      · have h0 : 0 < xs.size := by
          rcases Nat.eq_zero_or_pos xs.size with z | z
          · rw [Array.getElem?_eq_none (by omega)] at e; cases e
          · exact z
        have hL0 : L[0]? = some L[0] := List.getElem?_eq_getElem (by omega)
        exact ⟨_, _, hp 0 f _ e.symm hL0⟩
      · exact f2 f e
    · rw [List.mapM_cons]
      refine wpAny_bind ?_
      rw [PySem.W.kas_first_eq]
      refine wpAny_bind (PySem.W.Looks.here (show PySem.W.Looks M s.heap (typeOf (.ref a)) o.cls from (PySem.W.Looks.ld ho).andThen .now) ?_)
      rw [hc, if_neg (by first | decide | simp)]
      refine wpAny_bind (listItems_at ho hd (wpAny_pure ?_))
      exact wpAny_bind (f3 E _ (wpAny_pure h))
theorem ld_type {M : Model} {v : Value} {L : List PP} (h : IsLd s.heap v L) : PySem.W.Looks M s.heap (typeOf v) (.type "tuple") := by
  obtain ⟨a, o, xs, n, rfl, ho, hc, _⟩ := h
  rw [← hc]
  exact (PySem.W.Looks.ld ho).andThen .now
theorem pr_type {M : Model} {v : Value} {x y : Int} (h : IsPair s.heap v x y) : PySem.W.Looks M s.heap (typeOf v) (.type "tuple") := by
  obtain ⟨a, o, t, u, n, rfl, ho, hc, _⟩ := h
  rw [← hc]
  exact (PySem.W.Looks.ld ho).andThen .now
theorem one_tup {M : Model} {vs : List Value} {Q : Option Value → Shared → Prop} (h0 : 0 < vs.length) (hT : ∀ v ∈ vs, PySem.W.Looks M s.heap (typeOf v) (.type "tuple")) (h : Q (some (.type "tuple")) s) : wpAny M A (oneTypeOnly' vs.toArray) Q E s := by
  obtain ⟨v, r, rfl⟩ : ∃ v r, vs = v :: r := by
    match vs, h0 with
    | v :: r, _ => exact ⟨v, r, rfl⟩
  rw [oneTypeOnly'_eq, List.mapM_toArray, map_eq_pure_bind]
  refine wpAny_bind (wpAny_bind (PySem.W.kas_mapM (r := Value.type "tuple") _ (fun v hv Q' hq => (hT v hv).here hq) (wpAny_pure ?_)))
  have hall : ((List.map (fun _ => Value.type "tuple") (v :: r)).toArray.all fun x => x == Value.type "tuple") = true := by
    simp only [List.all_toArray, List.all_map, List.all_eq_true]
    intro _ _
    rfl
  have e0 : (List.map (fun _ => Value.type "tuple") (v :: r)).toArray[0]? = some (Value.type "tuple") := by simp
  rw [e0]
  simp only [hall, if_true]
  exact wpAny_pure h
theorem ld_kind {M : Model} {vs : List Value} (h0 : 0 < vs.length) (hL : ∀ v ∈ vs, ∃ L, IsLd s.heap v L) : ∃ κ : SortKind, (κ = tuples' false ∨ κ = general' ∨ κ = oneType') ∧ ∀ (E : Value → Shared → Prop) (Q : SortKind → Shared → Prop), Q κ s → wpAny M A (keyKind' vs.toArray) Q E s := by
  obtain ⟨fs, f1, f2, f3⟩ := ld_firsts (M := M) (A := A) vs hL
  have tv : ∀ v ∈ vs, PySem.W.Looks M s.heap (typeOf v) (.type "tuple") := fun v hv => ld_type (hL v hv).choose_spec
  by_cases hall : (fs.toArray.all fun x => x.isSome) = true
  · refine ⟨tuples' false, .inl rfl, fun E Q h => ?_⟩
    rw [kat_kind_eq, List.mapM_toArray, map_eq_pure_bind]
    refine wpAny_bind (wpAny_bind (f3 E _ (wpAny_pure ?_)))
    rw [if_pos hall]
    refine wpAny_bind (wpAny_rule ?_)
    have hfm : fs.toArray.filterMap id = (fs.filterMap id).toArray := by simp
    rw [hfm]
    have hne : 0 < (fs.filterMap id).length := by
      cases fs with
      | nil => rw [List.length_nil] at f1; omega
      | cons x r =>
        cases x with
        | none => simp at hall
        | some f => simp
    refine wpAny_bind (one_tup hne (fun f hf => ?_) (wpAny_pure ?_))
    · obtain ⟨o, ho, e⟩ := List.mem_filterMap.mp hf
      change o = some f at e
      obtain ⟨x, y, hp⟩ := f2 f (e ▸ ho)
      exact pr_type hp
    · have e : (Option.any (fun x => x != Value.type "tuple") (some (Value.type "tuple"))) = false := by first | rfl | decide +kernel
      rw [e]
      exact h
  · by_cases hf : (fs.toArray[0]?.bind id).isSome = true
    · refine ⟨general', .inr (.inl rfl), fun E Q h => ?_⟩
      rw [kat_kind_eq, List.mapM_toArray, map_eq_pure_bind]
      refine wpAny_bind (wpAny_bind (f3 E _ (wpAny_pure ?_)))
      rw [if_neg hall, if_pos hf]
      exact wpAny_pure h
    · refine ⟨oneType', .inr (.inr rfl), fun E Q h => ?_⟩
      rw [kat_kind_eq, List.mapM_toArray, map_eq_pure_bind]
      refine wpAny_bind (wpAny_bind (f3 E _ (wpAny_pure ?_)))
      rw [if_neg hall, if_neg hf]
      exact wpAny_bind (one_tup h0 tv (wpAny_pure h))
theorem loads_cmp {κ : SortKind} {vs : List Value} {k : Value → List PP} (hu : A.units + 20 < cLine) (hk : κ = tuples' false ∨ κ = general' ∨ κ = oneType') (hv : ∀ v ∈ vs, IsLd s.heap v (k v)) : Cmp prog w A s κ (fun p => p.1 ∈ vs) (lt2 fun v u => ltL (k v) (k u)) := by
  intro p q hp hq
  rcases hk with rfl | rfl | rfl
  · exact lt_tup (Q := fun r s' => s' = s ∧ r = ltL (k p.1) (k q.1)) (E := fun _ _ => False) hu (hv p.1 hp) (hv q.1 hq) ⟨rfl, rfl⟩
  · exact lt_gen (Q := fun r s' => s' = s ∧ r = ltL (k p.1) (k q.1)) (E := fun _ _ => False) hu (hv p.1 hp) (hv q.1 hq) ⟨rfl, rfl⟩
  · exact lt_one (Q := fun r s' => s' = s ∧ r = ltL (k p.1) (k q.1)) (E := fun _ _ => False) hu (hv p.1 hp) (hv q.1 hq) ⟨rfl, rfl⟩
theorem loads_sortable {a : Addr} {vs : List Value} {k : Value → List PP} (hu : A.units + 20 < cLine) (h0 : 0 < vs.length) (hv : ∀ v ∈ vs, IsLd s.heap v (k v)) (ha : ∀ o, s.heap.get? a = some o → o.cls ≠ .type "tuple") : SortableO prog w A s a vs fun v u => ltL (k v) (k u) := by
  intro h' keep
  have hv' : ∀ v ∈ vs, IsLd h' v (k v) := fun v hm => (hv v hm).keeps fun b o e c => keep b o (fun z => by subst z; exact ha o e c) e
  obtain ⟨κ, hk, hq⟩ := ld_kind (s := { s with heap := h' }) (M := model prog w) (A := A) h0 (fun v hm => ⟨_, hv' v hm⟩)
  exact ⟨κ, fun Q E h => hq E Q h, loads_cmp (s := { s with heap := h' }) hu hk hv'⟩
theorem lexB_tri {p q : PP} (h : p ≠ q) : lexB q p = !lexB p q := by
  have a := lexB_iff (p := p) (q := q)
  have b := lexB_iff (p := q) (q := p)
  have ne : ¬ (p.1 = q.1 ∧ p.2 = q.2) := fun ⟨e1, e2⟩ => h (Prod.ext e1 e2)
  cases e1 : lexB p q <;> cases e2 : lexB q p <;> simp only [e1, e2] at a b <;> first | rfl | (exfalso; simp at a b; omega)
theorem ltL_irr : ∀ L : List PP, ltL L L = false
  | [] => rfl
  | p :: L => by show (if p = p then ltL L L else lexB p p) = false; rw [if_pos rfl]; exact ltL_irr L
theorem ltL_asym : ∀ L M : List PP, ltL L M = true → ltL M L = false
  | [], [], _ => rfl
  | [], _ :: _, _ => rfl
  | _ :: _, [], h => nomatch h
  | p :: L, q :: M, h => by
    change (if p = q then ltL L M else lexB p q) = true at h
    show (if q = p then ltL M L else lexB q p) = false
    by_cases c : p = q
    · rw [if_pos c] at h
      rw [if_pos c.symm]
      exact ltL_asym L M h
    · rw [if_neg c] at h
      rw [if_neg (fun z => c z.symm), lexB_tri c, h]
      rfl
/-- neither before the other: alike -/
theorem ltL_eq : ∀ L M : List PP, ltL L M = false → ltL M L = false → L = M
  | [], [], _, _ => rfl
  | [], _ :: _, h, _ => nomatch h
  | _ :: _, [], _, h => nomatch h
  | p :: L, q :: M, h, g => by
    change (if p = q then ltL L M else lexB p q) = false at h
    change (if q = p then ltL M L else lexB q p) = false at g
    by_cases c : p = q
    · rw [if_pos c] at h
      rw [if_pos c.symm] at g
      rw [c, ltL_eq L M h g]
    · rw [if_neg c] at h
      rw [if_neg (fun z => c z.symm), lexB_tri c, h] at g
      cases g
theorem lexB_tr {p q r : PP} (h : lexB p q = true) (g : lexB q r = true) : lexB p r = true := by
  have a := lexB_iff.mp h
  have b := lexB_iff.mp g
  exact lexB_iff.mpr (by omega)
theorem ltL_tr : ∀ L M N : List PP, ltL L M = true → ltL M N = true → ltL L N = true
  | [], [], _, h, _ => nomatch h
  | [], _ :: _, [], _, g => nomatch g
  | [], _ :: _, _ :: _, _, _ => rfl
  | _ :: _, [], _, h, _ => nomatch h
  | _ :: _, _ :: _, [], _, g => nomatch g
  | p :: L, q :: M, r :: N, h, g => by
    change (if p = q then ltL L M else lexB p q) = true at h
    change (if q = r then ltL M N else lexB q r) = true at g
    show (if p = r then ltL L N else lexB p r) = true
    by_cases c : p = q
    · subst c
      rw [if_pos rfl] at h
      by_cases d : p = r
      · rw [if_pos d] at g ⊢
        exact ltL_tr L M N h g
      · rw [if_neg d] at g ⊢
        exact g
    · rw [if_neg c] at h
      by_cases d : q = r
      · rw [← d, if_neg c]
        exact h
      · rw [if_neg d] at g
        have k := lexB_tr h g
        have ne : p ≠ r := fun z => by
          rw [z] at h
          have := lexB_tri d
          rw [h, g] at this
          cases this
        rw [if_neg ne]
        exact k
theorem swo_ltL (k : Value → List PP) : Swo fun v u => ltL (k v) (k u) := by
  refine ⟨fun x y h => ltL_asym _ _ h, fun x y z h1 h2 => ?_⟩
  cases e : ltL (k z) (k x) with
  | false => rfl
  | true =>
    exfalso
    cases e1 : ltL (k x) (k y) with
    | true =>
      have := ltL_tr _ _ _ e e1
      rw [h2] at this
      cases this
    | false =>
      have := ltL_eq _ _ e1 h1
      rw [this] at e
      rw [h2] at e
      cases e
end
end Srl
set_option Elab.async false
set_option linter.all false
set_option maxRecDepth 100000
set_option maxHeartbeats 4000000
namespace Srl
open PySem PyProof.Rows Srt SrtO Sd
section
variable {prog : Program} {w : World} {A : Around} {E : Value → Shared → Prop} {s : Shared}
theorem collect_tup {l : Addr} {vs : List Value} {Q : List Value → Shared → Prop} (hl : s.heap.IsTuple l vs.toArray)
    (h : Q vs { s with heap := (s.heap.push (seqObj "list" #[] 0)).update s.heap.objs.size (Obj.mapSeq (· ++ vs.toArray)) }) (hsz : vs.length ≤ sizeLine) :
    wpAny (model prog w) A (collect (.ref l)) Q E s := by
  obtain ⟨o, ho, hc, n, hd⟩ := id hl
  unfold collect
  refine wpAny_bind (wpAny_runValue (codeAny_builtin entry_proto_collect' ?_))
  show wpAny _ _ (do again (.builtin "list.__iadd__" ⟨[← newList [], .ref l], []⟩)) _ _ s
  refine wpAny_bind (wpAny_newList (wpAny_pure ⟨Code.quiet_builtin _ (by decide +kernel), codeAny_builtin entry_list_iadd' ?_⟩))
  show wpAny _ _ (Builtin.List.listExtendWith (.ref s.heap.objs.size) (.ref l) (.ref s.heap.objs.size)) _ _ { s with heap := s.heap.push (seqObj "list" #[] 0) }
  unfold Builtin.List.listExtendWith
  have ho' : (s.heap.push (seqObj "list" #[] 0)).get? l = some o := Heap.get?_push_of_some _ ho
  refine wpAny_bind (wpAny_typeOf (T := "tuple") ⟨o, ho', hc⟩ ?_)
  have ht : (Value.type "tuple" == Value.type "tuple") = true := by rfl
  rw [if_pos (by rw [ht]; simp)]
  refine wpAny_bind (listItems_at ho' hd ?_)
  refine wpAny_bind (listItems_at (xs := #[]) (n := 0) (Heap.get?_push_size _ rfl) rfl ?_)
  rw [if_neg (by simp)]
  refine wpAny_bind (listUpdate_at (xs := #[]) (n := 0) (Heap.get?_push_size _ rfl) rfl ?_ (Nat.zero_le _) (by show (#[] ++ vs.toArray).size ≤ sizeLine + 1; simp only [Array.size_append, List.size_toArray, List.length_nil]; omega))
  refine wpAny_pure ?_
  show wpAny (model prog w) A (do
      let o ← load s.heap.objs.size
      match o.data with
      | .seq xs _ => pure xs.toList
      | _ => unsupported "internal:collect") Q E { s with heap := (s.heap.push (seqObj "list" #[] 0)).update s.heap.objs.size (Obj.mapSeq (· ++ vs.toArray)) }
  refine wpAny_bind (wpAny_load (get?_update_seq (Heap.get?_push_size _ rfl) _) ?_)
  show wpAny _ _ (pure ((#[] : Array Value) ++ vs.toArray).toList) Q E _
  rw [show ((#[] : Array Value) ++ vs.toArray).toList = vs by simp]
  exact wpAny_pure h
/-- sorted(t), t a tuple -/
theorem sorted_ordT {l : Addr} {vs : List Value} {ltv : Value → Value → Bool} {Q : Value → Shared → Prop} (O : Swo ltv) (hl : s.heap.IsTuple l vs.toArray) (hz : vs.length ≤ sizeLine)
    (hS : 2 ≤ vs.length → ∀ (h₁ : Heap) (a : Addr), h₁.get? a = some (seqObj "list" vs.toArray 0) → (∀ b o, s.heap.get? b = some o → b ≠ a ∧ h₁.get? b = some o) → SortableO prog w A.in1.in1 { s with heap := h₁ } a vs ltv)
    (h : ∀ out : List Value, Srtd ltv out → Stb ltv out vs → Q (.ref (s.heap.objs.size + 1)) { s with heap := sortedAll s.heap vs out.toArray }) :
    wpAny (model prog w) A (call (.builtin "sorted") [.ref l]) Q E s := by
  refine Calls.call_function_entry kind_sorted plain_sorted entry_sorted (args_sorted1 _) ?_
  unfold Builtin.«sorted»
  refine wpAny_bind (m := checkCount "sorted" 1 1 _) (wpAny_pure ?_)
  refine wpAny_bind (collect_tup hl ?_ hz)
  refine wpAny_bind (wpAny_newList ?_ hz)
  have hsz : ((s.heap.push (seqObj "list" #[] 0)).update s.heap.objs.size (Obj.mapSeq (· ++ vs.toArray))).objs.size = s.heap.objs.size + 1 := by
    rw [Heap.size_update, size_push']
  have hoL : (((s.heap.push (seqObj "list" #[] 0)).update s.heap.objs.size (Obj.mapSeq (· ++ vs.toArray))).push (seqObj "list" vs.toArray 0)).get? (s.heap.objs.size + 1) = some (seqObj "list" vs.toArray 0) := by
    rw [← hsz]; exact Heap.get?_push_size _ rfl
  have keep : ∀ b o, s.heap.get? b = some o → b ≠ s.heap.objs.size + 1 ∧ (((s.heap.push (seqObj "list" #[] 0)).update s.heap.objs.size (Obj.mapSeq (· ++ vs.toArray))).push (seqObj "list" vs.toArray 0)).get? b = some o := fun b o q => by
    have hlt : b < s.heap.objs.size := Heap.lt_size q
    refine ⟨Nat.ne_of_lt (Nat.lt_succ_of_lt hlt), Heap.get?_push_of_some _ ?_⟩
    rw [Heap.get?_update_ne _ _ _ _ (Nat.ne_of_lt hlt)]
    exact Heap.get?_push_of_some _ q
  show wpAny _ _ _ _ _ { s with heap := ((s.heap.push (seqObj "list" #[] 0)).update s.heap.objs.size (Obj.mapSeq (· ++ vs.toArray))).push (seqObj "list" vs.toArray 0) }
  rw [hsz]
  refine wpAny_bind (wpAny_holding (wpAny_call_entry slot_list_sort ⟨_, hoL, rfl⟩ entry_list_sort (list_sort_ord O hoL hz (fun h2 => hS h2 _ _ hoL keep) fun out hs hb => ⟨_, rfl, ?_⟩) (args_list_sort _)))
  exact wpAny_pure ⟨_, rfl, h out hs hb⟩
theorem sorted_loadsT {l : Addr} {vs : List Value} {k : Value → List PP} {Q : Value → Shared → Prop} (hu : A.units + 30 < cLine) (hl : s.heap.IsTuple l vs.toArray) (hz : vs.length ≤ sizeLine) (hp : ∀ v ∈ vs, IsLd s.heap v (k v))
    (h : ∀ (h' : Heap) (d : Addr) (out : List Value), Srtd (fun v u => ltL (k v) (k u)) out → Stb (fun v u => ltL (k v) (k u)) out vs → (∀ b o, s.heap.get? b = some o → h'.get? b = some o) → s.heap.objs.size ≤ d → (∃ n, h'.get? d = some (seqObj "list" out.toArray n)) → Q (.ref d) { s with heap := h' }) :
    wpAny (model prog w) A (call (.builtin "sorted") [.ref l]) Q E s := by
  refine sorted_ordT (swo_ltL k) hl hz (fun h2 h₁ a ha kk => ?_) fun out hs hb => ?_
  · refine loads_sortable (s := { s with heap := h₁ }) (by show A.units + 1 + 1 + 20 < cLine; omega) (by omega) (fun v hm => (hp v hm).keeps fun b o e _ => (kk b o e).2) fun o e => ?_
    have e' : some o = some (seqObj "list" vs.toArray 0) := e.symm.trans ha
    cases e'
    intro c
    exact absurd (Value.type.inj c) (by decide)
  · exact h _ _ out hs hb (fun b o e => sortedAll_old e) (Nat.le_succ _) (sortedAll_at s.heap vs out.toArray)
end
end Srl
/-! ### at the level of the promises -/
namespace Srl
open PySem PySem.Spec PyProof.Rows L2 Com Sd StV
/-- loads in ascending order -/
def leL (L M : List PP) : Bool := !ltL M L
def srtL (S : List (List PP)) : List (List PP) := S.mergeSort leL
theorem leL_trans (a b c : List PP) (h : leL a b = true) (g : leL b c = true) : leL a c = true := by
  have o := (swo_ltL fun _ => a)
  unfold leL at *
  cases e : ltL c a with
  | false => rfl
  | true =>
    have h' : ltL b a = false := by simpa using h
    have g' : ltL c b = false := by simpa using g
    exfalso
    cases e1 : ltL a b with
    | true =>
      have := ltL_tr _ _ _ e e1
      rw [g'] at this
      cases this
    | false =>
      have := ltL_eq _ _ e1 h'
      rw [this, g'] at e
      cases e
theorem leL_total (a b : List PP) : (leL a b || leL b a) = true := by
  unfold leL
  cases e : ltL a b with
  | false => simp
  | true => rw [ltL_asym _ _ e]; rfl
theorem leL_anti {a b : List PP} (h : leL a b = true) (g : leL b a = true) : a = b := by
  unfold leL at *
  exact ltL_eq _ _ (by simpa using g) (by simpa using h)
theorem srtL_perm (S : List (List PP)) : (srtL S).Perm S := List.mergeSort_perm S leL
theorem srtL_le (S : List (List PP)) : (srtL S).Pairwise (fun a b => leL a b = true) := List.pairwise_mergeSort leL_trans leL_total S
theorem srtL_uniq {S T : List (List PP)} (h : T.Perm S) (g : T.Pairwise (fun a b => leL a b = true)) : T = srtL S :=
  List.Perm.eq_of_pairwise (fun a b _ _ h1 h2 => leL_anti h1 h2) g (srtL_le S) (h.trans (srtL_perm S).symm)
theorem srtL_perm_eq {S T : List (List PP)} (h : T.Perm S) : srtL T = srtL S := srtL_uniq ((srtL_perm T).trans h) (srtL_le T)
theorem srtL_len (S : List (List PP)) : (srtL S).length = S.length := (srtL_perm S).length_eq
theorem srtL_srtL (S : List (List PP)) : srtL (srtL S) = srtL S := srtL_perm_eq (srtL_perm S)
end Srl
set_option Elab.async false
set_option linter.all false
set_option maxRecDepth 100000
set_option maxHeartbeats 4000000
namespace Srl
open PySem PySem.Spec PyProof.Rows L2 Com Sd StV
def kL (H : Hp) (v : V) : List PP := match v with
  | .ref a => match H a with
    | some (.tup us) => us.map (kOf H)
    | _ => []
  | _ => []
theorem kL_of {H : Hp} {v : V} {L : List PP} (h : LoadV H v L) : kL H v = L := by
  obtain ⟨a, us, rfl, e, hp⟩ := h
  show (match H a with | some (.tup us) => us.map (kOf H) | _ => []) = L
  rw [e]
  exact (pairsV_map hp).symm
theorem loadsV_map {H : Hp} : ∀ {vs : List V} {S : List (List PP)}, LoadsV H vs S → S = vs.map (kL H)
  | _, _, .nil => rfl
  | _, _, .cons h t => by rw [List.map_cons, ← loadsV_map t, kL_of h]
theorem loadsV_mem {H : Hp} : ∀ {vs : List V} {S : List (List PP)}, LoadsV H vs S → ∀ v ∈ vs, LoadV H v (kL H v)
  | _, _, .nil, v, hv => nomatch hv
  | _, _, .cons h t, v, hv => by
    rcases List.mem_cons.mp hv with e | e
    · subst e
      rw [kL_of h]
      exact h
    · exact loadsV_mem t v e
theorem loadsV_of {H : Hp} : ∀ {vs : List V}, (∀ v ∈ vs, LoadV H v (kL H v)) → LoadsV H vs (vs.map (kL H))
  | [], _ => .nil
  | v :: vs, h => .cons (h v (List.mem_cons_self ..)) (loadsV_of fun u hu => h u (List.mem_cons_of_mem _ hu))
section
variable {X : Cx}
theorem isLd {pins : List (Addr × Obj)} {σ : L2.St} {H : Hp} {s : Shared} (I : Inv X pins σ H s) {t : Addr} {L : List PP} (h : LoadV H (.ref t) L) : IsLd s.heap (.ref t) L := by
  obtain ⟨b, us, e, hb, hP⟩ := h
  cases e
  obtain ⟨_, its, rv, o, ho, hc, n, hd⟩ := I.hok _ _ hb
  have l1 := rv.length
  have l2 := Paired.length hP
  refine ⟨t, o, its.toArray, n, rfl, ho, hc, hd, by simp; omega, fun j u p hu hp => ?_⟩
  have hu' : its[j]? = some u := by simpa using hu
  obtain ⟨y, hy, c, rfl, hcc⟩ := StV.paired_get' hP hp
  obtain ⟨u2, hu2, ru⟩ := Vals.get rv hy
  rw [hu'] at hu2
  cases hu2
  obtain rfl : u = Value.ref c := ru
  obtain ⟨_, its2, r2, o2, ho2, hc2, n2, hd2⟩ := I.hok _ _ hcc
  obtain ⟨u1, u2, rfl, ri, rj⟩ := vals2 r2
  obtain ⟨t1, rfl⟩ := ri
  obtain ⟨t2, rfl⟩ := rj
  exact ⟨c, o2, t1, t2, n2, rfl, ho2, hc2, hd2⟩
def rSrtL (K : PySem.W.Frag) : List V → Hp → VK → Prop := fun xs H Q => ∃ (a : Addr) (vs : List V) (S : List (List PP)), xs = [V.ref a] ∧ H a = some (.tup vs) ∧ LoadsV H vs S ∧
  ∀ us p, LoadsV H us (srtL S) → us.length = vs.length → H p = none → Q (.ref p) (upd H p (.lst us))
theorem cr_srtL (hu : X.A.units + 64 < cLine) (K : PySem.W.Frag) (hK : X.K = K := by rfl) : CallR X (.builtin "sorted") (rSrtL K) := by
  subst hK
  intro pins s σ H vs us Q I r h
  obtain ⟨a, xs, S, rfl, ha, hP, q⟩ := h
  obtain ⟨its, rv, hl, hz⟩ := I.tuple (SqT.of (K := X.K) ha)
  obtain ⟨u, rfl, ru⟩ := vals1 r
  obtain rfl : u = Value.ref a := ru
  obtain ⟨e1, e2⟩ := refs_back rv fun x m => by
    obtain ⟨t, us, e, _⟩ := loadsV_mem hP x m
    exact ⟨t, e⟩
  refine sorted_loadsT (k := fun u => kL H (backV u)) (by omega) (show s.heap.IsTuple a its.toArray from hl) (by rw [← rv.length]; exact hz) (fun v hv => ?_) fun h' d out h1 h2 kp hd hn => ?_
  · obtain ⟨t, rfl⟩ := e2 v hv
    have hm : V.ref t ∈ xs := by rw [e1]; exact List.mem_map.mpr ⟨_, hv, rfl⟩
    exact isLd I (loadsV_mem hP _ hm)
  · have h3 : ∀ u ∈ out, ∃ a, u = Value.ref a := fun u hu => e2 u (h2.perm.mem_iff.mp hu)
    obtain ⟨n, hn⟩ := hn
    have pm : (out.map backV).Perm xs := by
      rw [e1]
      exact h2.perm.map _
    have hS := loadsV_map hP
    have hU : LoadsV H (out.map backV) (srtL S) := by
      have e : srtL S = (out.map backV).map (kL H) := by
        refine (srtL_uniq ?_ ?_).symm
        · rw [hS]
          exact pm.map _
        · rw [List.map_map, List.pairwise_map]
          refine h1.imp fun {a b} z => ?_
          show (!ltL (kL H (backV b)) (kL H (backV a))) = true
          rw [show ltL (kL H (backV b)) (kL H (backV a)) = false from z]
          rfl
      rw [e]
      exact loadsV_of fun v hv => loadsV_mem hP v (pm.mem_iff.mp hv)
    have len : (out.map backV).length = xs.length := pm.length_eq
    refine ⟨.ref d, upd H d (.lst (out.map backV)), I.laid (t' := s.toks) kp hd ⟨?_, out, n, vals_back h3, hn⟩, rfl, q _ d hU len (I.hok.fresh hd)⟩
    rw [len]
    exact hz
end
end Srl
set_option Elab.async false
set_option linter.all false
set_option maxRecDepth 100000
set_option maxHeartbeats 4000000
namespace Srl
open PySem PySem.Spec PyProof.Rows L2 Com Sd StV
/-! ### list.remove of data -/
section
variable {X : Cx}
def rRemD (K : PySem.W.Frag) : V → List V → Hp → VK → Prop := fun x xs H Q => ∃ (l : Addr) (vs : List V) (y : V) (d : PyData) (ds : List PyData) (j : Nat) (z : PyData), x = V.ref l ∧ xs = [y] ∧ H l = some (.lst vs) ∧ DpAll K H vs ds ∧ Dp K H y d ∧
  SeqAt.shaped (.list ds) = true ∧ SeqAt.shaped d = true ∧ ds[j]? = some z ∧ PyData.eqv z d = true ∧ (∀ (m : Nat) (z' : PyData), m < j → ds[m]? = some z' → PyData.eqv z' d = false) ∧ Q .non (upd H l (.lst (vs.eraseIdx j)))
theorem mt_removeD (hu : X.A.units + 65 < cLine) : MtM X "list.remove" (rRemD X.K) := by
  intro pins s σ H x xs v us Q I rx rxs h
  obtain ⟨l, vs, y, d, ds, j, z0, rfl, rfl, hH, ha, hy, sl, sd, hz, hzj, hno, q⟩ := h
  cases rx
  obtain ⟨uy, rfl, ry⟩ := rxs.one
  obtain ⟨z, its, n, r, hl, e⟩ := I.lstM hH
  obtain ⟨bs, r1⟩ := Dp.reads I d y uy hy ry
  obtain ⟨as, h4⟩ := Dp.readsAll I ds _ its ha r
  have hxs : PyData.canLayAll0 ds = true := SeqAt.canLay_of_shaped sl
  have hroom : X.A.units + 1 + min (PyData.depthAll ds) d.depth < cLine := room_in_shaped sd hu
  have hn : its.length = ds.length := SeqAt.ReadsAll.length ds its as h4
  have hmap : its.map (SeqAt.readOf s.heap) = ds := SeqAt.readsAll_map ds its as hxs h4
  have hvl := r.length
  obtain ⟨hjd, _⟩ := List.getElem?_eq_some_iff.mp hz
  have hjl : j < its.toArray.size := by rw [List.size_toArray]; omega
  have at_ : ∀ (m : Nat) (hm : m < its.toArray.size) (z' : PyData), ds[m]? = some z' → SeqAt.readOf s.heap its.toArray[m] = z' := by
    intro m hm z' hz'
    have hml : m < its.length := by simpa using hm
    rw [← hmap, List.getElem?_map, List.getElem?_eq_getElem hml] at hz'
    have e1 : SeqAt.readOf s.heap its[m] = z' := Option.some.inj (show some (SeqAt.readOf s.heap its[m]) = some z' from hz')
    simpa using e1
  refine call_meets PySem.F.slot_list_remove ⟨_, e, rfl⟩ PySem.F.entry_list_remove (PySem.F.args_list_remove_2 _ _)
    (SeqAt.list_removeAt l its.toArray n _ _ uy (fun u => PyData.eqv (SeqAt.readOf s.heap u) d) j hjl ?_ ?_ (by rw [List.size_toArray]; omega)) ⟨e, SeqAt.items_eqAt (vs := its.toArray) (show ReadsAll s.heap its.toArray.toList ds as from h4) r1 hxs (SeqAt.canLay_of_shaped sd) hroom, ?_⟩
  · show PyData.eqv (SeqAt.readOf s.heap its.toArray[j]) d = true
    rw [at_ j hjl z0 hz]
    exact hzj
  · intro m hm hmj
    have hmd : m < ds.length := by rw [List.size_toArray] at hm; omega
    have hz' : ds[m]? = some ds[m] := List.getElem?_eq_getElem hmd
    show PyData.eqv (SeqAt.readOf s.heap its.toArray[m]) d = false
    rw [at_ m hm _ hz']
    exact hno m _ hmj hz'
  · have rr := r.eraseIdx j
    refine ⟨.non, _, I.lset (its' := its.eraseIdx j) (t' := s.toks) hH e ?_ rr ?_, rfl, q⟩
    · show its.toArray.eraseIdxIfInBounds j = (its.eraseIdx j).toArray
      rw [List.eraseIdxIfInBounds_toArray]
    · have z2 : (vs.eraseIdx j).length ≤ vs.length := (List.eraseIdx_sublist vs j).length_le
      omega
end
/-! ### <= of loads -/
theorem nlt (x y : Int) : (!decide (y < x)) = decide (x ≤ y) := by
  by_cases h : x ≤ y
  · rw [decide_eq_true h, decide_eq_false (by omega)]; rfl
  · rw [decide_eq_false h, decide_eq_true (by omega)]; rfl
section
variable {A : Around} {s : Shared}
theorem pair_le {u v : Value} {p q : PP} (hu : A.units < cLine) (h1 : Srt.IsPair s.heap u p.1 p.2) (h2 : Srt.IsPair s.heap v q.1 q.2) : Ob.RcOp .LtE A s u v (!SrtO.lexB q p) := by
  obtain ⟨a, o, t, t', n, rfl, ho, hc, hd⟩ := h1
  obtain ⟨b, o2, t2, t2', n2, rfl, ho2, hc2, hd2⟩ := h2
  have k := Ob.RcOp.tuples_le (A := A) (s := s) (e := fun j => if j = 0 then (p.1 == q.1) else (p.2 == q.2)) (r := fun j => if j = 0 then decide (p.1 ≤ q.1) else decide (p.2 ≤ q.2))
    (show s.heap.IsTuple a #[.int p.1 t, .int p.2 t'] from ⟨o, ho, hc, n, hd⟩) (show s.heap.IsTuple b #[.int q.1 t2, .int q.2 t2'] from ⟨o2, ho2, hc2, n2, hd2⟩) hu
    (fun j j1 j2 => by
      have hj : j < 2 := j1
      match j, hj with
      | 0, _ => simpa using SeqAt.EqAt.int_int (A := A.in1) (s := s) p.1 t q.1 t2
      | 1, _ => simpa using SeqAt.EqAt.int_int (A := A.in1) (s := s) p.2 t' q.2 t2')
    (fun j j1 j2 _ => by
      have hj : j < 2 := j1
      match j, hj with
      | 0, _ => exact Ob.RcOp.le_int p.1 q.1 t t2
      | 1, _ => exact Ob.RcOp.le_int p.2 q.2 t' t2')
  have e : Ob.lexAt (fun j => if j = 0 then (p.1 == q.1) else (p.2 == q.2)) (fun j => if j = 0 then decide (p.1 ≤ q.1) else decide (p.2 ≤ q.2)) (decide ((#[Value.int p.1 t, .int p.2 t'] : Array Value).size ≤ (#[Value.int q.1 t2, .int q.2 t2'] : Array Value).size)) 0 (min (#[Value.int p.1 t, .int p.2 t'] : Array Value).size (#[Value.int q.1 t2, .int q.2 t2'] : Array Value).size) = !SrtO.lexB q p := by
    show Ob.lexAt _ _ (decide (2 ≤ 2)) 0 2 = _
    rw [Ob.lexAt_succ, Ob.lexAt_succ, Ob.lexAt_zero]
    unfold SrtO.lexB
    by_cases c : p.1 = q.1
    · by_cases c2 : p.2 = q.2
      · simp [c, c2]
      · have c3 : ¬ q.2 = p.2 := fun z => c2 z.symm
        simp [c, c2]
        exact (nlt _ _).symm
    · have c3 : ¬ q.1 = p.1 := fun z => c z.symm
      simp [c, c3]
      exact (nlt _ _).symm
  rw [e] at k
  exact k
theorem lexAt_leL : ∀ (L M : List PP) (e r : Nat → Bool) (i : Nat), (∀ j p q, L[j]? = some p → M[j]? = some q → e (i + j) = decide (p = q) ∧ r (i + j) = !SrtO.lexB q p) →
    Ob.lexAt e r (decide (L.length ≤ M.length)) i (min L.length M.length) = leL L M
  | [], [], e, r, i, _ => by simp [leL, ltL, Ob.lexAt]
  | [], q :: M, e, r, i, _ => by simp [leL, ltL, Ob.lexAt]
  | p :: L, [], e, r, i, _ => by simp [leL, ltL, Ob.lexAt]
  | p :: L, q :: M, e, r, i, h => by
    have h0 := h 0 p q rfl rfl
    have hm : min (p :: L).length (q :: M).length = min L.length M.length + 1 := by simp only [List.length_cons]; omega
    have hd : decide ((p :: L).length ≤ (q :: M).length) = decide (L.length ≤ M.length) := by simp only [List.length_cons]; exact decide_eq_decide.mpr (by omega)
    rw [hm, hd, Ob.lexAt_succ]
    rw [Nat.add_zero] at h0
    rw [h0.1, h0.2, lexAt_leL L M e r (i + 1) fun j a b ha hb => by
      have := h (j + 1) a b (by simpa using ha) (by simpa using hb)
      rwa [show i + (j + 1) = i + 1 + j by omega] at this]
    have el : leL (p :: L) (q :: M) = !(if q = p then ltL M L else SrtO.lexB q p) := rfl
    rw [el]
    by_cases c : p = q
    · rw [decide_eq_true c, if_pos rfl, if_pos c.symm]; rfl
    · rw [decide_eq_false c, if_neg Bool.false_ne_true, if_neg (fun z => c z.symm)]
theorem load_le {u v : Value} {L M : List PP} (hu : A.units + 20 < cLine) (h1 : IsLd s.heap u L) (h2 : IsLd s.heap v M) : Ob.RcOp .LtE A s u v (leL L M) := by
  obtain ⟨a, o, xs, n, rfl, ho, hc, hd, hl, hp⟩ := h1
  obtain ⟨b, o2, ys, n2, rfl, ho2, hc2, hd2, hl2, hp2⟩ := h2
  have gL : ∀ (j : Nat), j < xs.size → L[j]? = some (L.getD j (0, 0)) := fun j h => by rw [List.getD_eq_getElem?_getD, List.getElem?_eq_getElem (by omega)]; rfl
  have gM : ∀ (j : Nat), j < ys.size → M[j]? = some (M.getD j (0, 0)) := fun j h => by rw [List.getD_eq_getElem?_getD, List.getElem?_eq_getElem (by omega)]; rfl
  have k := Ob.RcOp.tuples_le (A := A) (s := s) (e := fun j => decide (L.getD j (0, 0) = M.getD j (0, 0))) (r := fun j => !SrtO.lexB (M.getD j (0, 0)) (L.getD j (0, 0)))
    (show s.heap.IsTuple a xs from ⟨o, ho, hc, n, hd⟩) (show s.heap.IsTuple b ys from ⟨o2, ho2, hc2, n2, hd2⟩) (by omega)
    (fun j j1 j2 => pair_eq (by show A.units + 1 + 4 < cLine; omega) (hp j _ _ (Array.getElem?_eq_getElem j1) (gL j j1)) (hp2 j _ _ (Array.getElem?_eq_getElem j2) (gM j j2)))
    (fun j j1 j2 _ => pair_le (by show A.units + 1 < cLine; omega) (hp j _ _ (Array.getElem?_eq_getElem j1) (gL j j1)) (hp2 j _ _ (Array.getElem?_eq_getElem j2) (gM j j2)))
  rw [hl, hl2, lexAt_leL L M _ _ 0 fun j p q h1 h2 => by
    rw [Nat.zero_add, List.getD_eq_getElem?_getD, List.getD_eq_getElem?_getD, h1, h2]
    exact ⟨rfl, rfl⟩] at k
  exact k
end
def rLeL : R2 := fun x y H Q => ∃ L M, LoadV H x L ∧ LoadV H y M ∧ Q (.bl (leL L M)) H
theorem op_leL {X : Cx} (hu : X.A.units + 64 < cLine) : OpR X (compareOp .LtE) rLeL := by
  intro pins s σ H x y v u Q I rx ry h
  obtain ⟨L, M, h1, h2, q⟩ := h
  have k1 := h1
  have k2 := h2
  obtain ⟨a, us, rfl, _⟩ := h1
  obtain ⟨b, ws, rfl, _⟩ := h2
  cases rx
  cases ry
  exact load_le (by omega) (isLd I k1) (isLd I k2) X.prog X.w X.xe (EP X pins σ Q) ⟨.bl _, H, I, rfl, q⟩
end Srl
set_option Elab.async false
set_option linter.all false
set_option maxRecDepth 100000
set_option maxHeartbeats 4000000
namespace Gn
open PySem PySem.Spec PyProof.Rows L2 Com Sd StV Ext Srl
/-! ### lists -/
def adj (S : List (List PP)) (k : Nat) : Bool := leL (S.getD k []) (S.getD (k + 1) [])
def adjs (S : List (List PP)) (k : Nat) : List Bool := (List.range k).map (adj S)
theorem adjs_succ (S : List (List PP)) (k : Nat) : adjs S (k + 1) = adjs S k ++ [adj S k] := by unfold adjs; rw [List.range_succ, List.map_append]; rfl
theorem adjs_len (S : List (List PP)) (k : Nat) : (adjs S k).length = k := by simp [adjs]
theorem asc_pw {S : List (List PP)} (h : ∀ k, k + 1 < S.length → adj S k = true) : S.Pairwise (fun a b => leL a b = true) := by
  rw [List.pairwise_iff_getElem]
  have gd : ∀ (k : Nat) (hk : k < S.length), S.getD k [] = S[k] := fun k hk => by rw [List.getD_eq_getElem?_getD, List.getElem?_eq_getElem hk]; rfl
  have key : ∀ (d i : Nat) (hi : i < S.length) (hj : i + d + 1 < S.length), leL S[i] S[i + d + 1] = true := by
    intro d
    induction d with
    | zero =>
      intro i hi hj
      have := h i hj
      unfold adj at this
      rwa [gd i hi, gd (i + 1) hj] at this
    | succ d ih =>
      intro i hi hj
      have h1 := ih i hi (by omega)
      have h2 := h (i + d + 1) (by omega)
      unfold adj at h2
      rw [gd (i + d + 1) (by omega), gd (i + d + 1 + 1) (by omega)] at h2
      exact leL_trans _ _ _ h1 h2
  intro i j hi hj hij
  obtain ⟨d, rfl⟩ : ∃ d, j = i + d + 1 := ⟨j - i - 1, by omega⟩
  exact key d i hi hj
theorem asc_dec8 {S : List (List PP)} (h1 : 1 ≤ S.length) : (adjs S (S.length - 1)).all id = decide (S = srtL S) := by
  have e : (adjs S (S.length - 1)).all id = true ↔ ∀ k, k + 1 < S.length → adj S k = true := by
    unfold adjs
    rw [List.all_map, List.all_eq_true]
    exact ⟨fun g k hk => g k (List.mem_range.mpr (by omega)), fun g k hk => g k (by have := List.mem_range.mp hk; omega)⟩
  rw [Bool.eq_iff_iff, e, decide_eq_true_eq]
  refine ⟨fun g => srtL_uniq (List.Perm.refl S) (asc_pw g), fun g k hk => ?_⟩
  have pw := srtL_le S
  rw [← g] at pw
  have := (List.pairwise_iff_getElem.mp pw) k (k + 1) (by omega) hk (by omega)
  unfold adj
  rwa [List.getD_eq_getElem?_getD, List.getD_eq_getElem?_getD, List.getElem?_eq_getElem (by omega : k < S.length), List.getElem?_eq_getElem hk]
theorem erase_perm {α : Type} : ∀ {R : List α} {j : Nat} {L : α}, R[j]? = some L → R.Perm (L :: R.eraseIdx j)
  | [], _, _, h => nomatch h
  | x :: R, 0, L, h => by
    have : x = L := by simpa using h
    rw [this]
    exact List.Perm.refl _
  | x :: R, j + 1, L, h => by
    have h' : R[j]? = some L := by simpa using h
    exact ((erase_perm h').cons x).trans (List.Perm.swap ..)
theorem first_of {R : List (List PP)} {L : List PP} (h : L ∈ R) : ∃ j : Nat, R[j]? = some L ∧ ∀ (m : Nat) (M : List PP), m < j → R[m]? = some M → M ≠ L := by
  induction R with
  | nil => cases h
  | cons x R ih =>
    by_cases c : x = L
    · exact ⟨0, by rw [c]; rfl, fun m M hm _ => absurd hm (Nat.not_lt_zero m)⟩
    · have h' : L ∈ R := by
        rcases List.mem_cons.mp h with e | e
        · exact absurd e.symm c
        · exact e
      obtain ⟨j, h1, h2⟩ := ih h'
      refine ⟨j + 1, h1, fun m M hm hM => ?_⟩
      cases m with
      | zero =>
        have : x = M := by simpa using hM
        rw [← this]
        exact c
      | succ m => exact h2 m M (by omega) hM
theorem paired_erase {α β : Type} {F : α → β → Prop} : ∀ {xs : List α} {ys : List β} (k : Nat), Paired F xs ys → Paired F (xs.eraseIdx k) (ys.eraseIdx k)
  | _, _, _, .nil => by simp only [List.eraseIdx_nil]; exact .nil
  | _, _, 0, .cons _ t => t
  | _, _, k + 1, .cons h t => .cons h (paired_erase k t)
theorem StdOk.perm {ds es : List Int} {m : Int} {S T : List (List PP)} (h : StdOk ds es m S) (p : T.Perm S) : StdOk ds es m T := by
  have e1 : left ds (fs T) = left ds (fs S) := left_perm (p.flatten.map _)
  have e2 : left es (sn T) = left es (sn S) := left_perm (p.flatten.map _)
  exact ⟨by rw [p.length_eq]; exact h.len, fun L hL => h.ld L (p.mem_iff.mp hL), by rw [e1]; exact h.ci, by rw [e2]; exact h.co⟩
theorem left_less {ds is js : List Int} (h : ∀ k : Int, js.count k ≤ is.count k) (g : ∀ d ∈ left ds is, 0 ≤ d) : ∀ d ∈ left ds js, 0 ≤ d := by
  intro d hd
  obtain ⟨j, hj⟩ := List.getElem?_of_mem hd
  rw [left_get] at hj
  cases e : ds[j]? with
  | none => rw [e] at hj; cases hj
  | some z =>
    rw [e] at hj
    have k : 0 ≤ z - ((is.count (j : Int) : Nat) : Int) := g _ (List.mem_of_getElem? (i := j) (by rw [left_get, e]; rfl))
    have c := h (j : Int)
    simp only [Option.map_some, Option.some.injEq] at hj
    omega
theorem StdOk.nil0 {ds es : List Int} {m : Int} {S : List (List PP)} (h : StdOk ds es m S) (h1 : 1 ≤ S.length) : StdOk ds es m ([] :: S.drop 1) := by
  obtain ⟨L, T, rfl⟩ : ∃ L T, S = L :: T := by
    match S, h1 with
    | L :: T, _ => exact ⟨L, T, rfl⟩
  rw [List.drop_one, List.tail_cons]
  refine ⟨by rw [List.length_cons]; have := h.len; rwa [List.length_cons] at this, fun M hM => ?_, left_less (fun k => ?_) h.ci, left_less (fun k => ?_) h.co⟩
  · rcases List.mem_cons.mp hM with e | e
    · rw [e]; exact LoadOk.nil
    · exact h.ld M (List.mem_cons_of_mem _ e)
  · unfold fs
    rw [List.flatten_cons, List.flatten_cons, List.nil_append, List.map_append, List.count_append]
    omega
  · unfold sn
    rw [List.flatten_cons, List.flatten_cons, List.nil_append, List.map_append, List.count_append]
    omega
/-! ### lists of loads as data -/
def lL (S : List (List PP)) : PyData := .list (S.map dL)
theorem eqv_lL (S T : List (List PP)) : PyData.eqv (lL S) (lL T) = decide (S = T) := by
  show PyData.eqv (.list _) (.list _) = _
  rw [PyData.eqv]
  exact eqvAll_loads S T
theorem shaped_lL (S : List (List PP)) : SeqAt.shaped (lL S) = true := by
  have h := depth_loads S
  show (PyData.canLay0 (.list (S.map dL)) && decide (PyData.depth (.list (S.map dL)) ≤ 64)) = true
  rw [Bool.and_eq_true]
  constructor
  · simp only [PyData.canLay0]; exact lay_loads S
  · refine decide_eq_true ?_
    simp only [PyData.depth]
    omega
theorem dp_lL {K : PySem.W.Frag} {H : Hp} {a : Addr} {us : List V} {S : List (List PP)} (h : H a = some (.lst us)) (hS : LoadsV H us S) : Dp K H (.ref a) (lL S) := .lst (SqL.of h) (dp_loadsV hS)
theorem any_dL (S : List (List PP)) (L : List PP) : ((S.map dL).any fun z => PyData.eqv z (dL L)) = decide (L ∈ S) := by
  induction S with
  | nil => rfl
  | cons c S ih =>
    rw [List.map_cons, List.any_cons, ih, eqv_dL]
    by_cases e : c = L
    · simp [e]
    · have e' : L ≠ c := fun z => e z.symm
      by_cases e2 : L ∈ S <;> simp [e, e', e2]
/-! ### judged, after a draw -/
theorem PairJ.kept {K : Frg} {H H' : Hp} (s : Kept H H') {n m : Nat} {v : V} {b : Bool} (h : PairJ K H n m v b) : PairJ K H' n m v b := by
  rcases h with ⟨a, x, y, b1, b2, e, h, i, j, z⟩ | ⟨a, xs, e, h, l, z⟩ | ⟨⟨t, h, k⟩, z⟩
  · exact .inl ⟨a, x, y, b1, b2, e, s.1 _ _ h (fun _ z => by cases z), InR.kept s i, InR.kept s j, z⟩
  · exact .inr (.inl ⟨a, xs, e, s.1 _ _ h (fun _ z => by cases z), l, z⟩)
  · exact .inr (.inr ⟨⟨t, TyX.kept s h, k⟩, z⟩)
theorem tupS_kept {H H' : Hp} (s : Kept H H') : TupS H H' := fun b xs e => s.1 b _ e fun _ z => by cases z
theorem LoadJ.kept {K : Frg} {H H' : Hp} (s : Kept H H') {n m : Nat} {v : V} {b : Bool} (h : LoadJ K H n m v b) : LoadJ K H' n m v b := by
  rcases h with ⟨a, xs, e, h, l, z⟩ | ⟨a, xs, bs, e, h, l, l2, j, z⟩ | ⟨L, h, l, g, z⟩ | ⟨⟨t, h, k⟩, z⟩
  · exact .inl ⟨a, xs, e, s.1 _ _ h (fun _ z => by cases z), l, z⟩
  · exact .inr (.inl ⟨a, xs, bs, e, s.1 _ _ h (fun _ z => by cases z), l, l2, fun i v c a b => PairJ.kept s (j i v c a b), z⟩)
  · exact .inr (.inr (.inl ⟨L, LoadV.tupS (tupS_kept s) h, l, g, z⟩))
  · exact .inr (.inr (.inr ⟨⟨t, TyX.kept s h, k⟩, z⟩))
theorem StaJ.kept {K : Frg} {H H' : Hp} (s : Kept H H') {ds es : List Int} {mid : Int} {v : V} {b : Bool} (h : StaJ K H ds es mid v b) : StaJ K H' ds es mid v b := by
  rcases h with ⟨a, xs, e, h, l, z⟩ | ⟨a, xs, bs, e, h, l, l2, j, z⟩ | ⟨S, h, l, g, z⟩ | ⟨⟨t, h, k⟩, z⟩
  · exact .inl ⟨a, xs, e, s.1 _ _ h (fun _ z => by cases z), l, z⟩
  · exact .inr (.inl ⟨a, xs, bs, e, s.1 _ _ h (fun _ z => by cases z), l, l2, fun i v c a b => LoadJ.kept s (j i v c a b), z⟩)
  · exact .inr (.inr (.inl ⟨S, StaV.tupS (tupS_kept s) h, l, g, z⟩))
  · exact .inr (.inr (.inr ⟨⟨t, TyX.kept s h, k⟩, z⟩))
/-! ### the promises -/
def spShape (C : Addr) : Sp := spSta C fun _ _ S H Q => ∀ r H', StaV H' r (srtL S) → Same H H' → Q r H'
def spIsShape (K : Frg) (C : Addr) : Sp := fun vs H Q _ => ∃ (p i o : Addr) (ds es : List Int) (m : Int) (v : V) (b : Bool), vs = [.ref p, v] ∧ ExAt C H p i o ds es m ∧ ((∃ S, StaV H v S ∧ StdOk ds es m S ∧ b = decide (S = srtL S)) ∨ (StaJ K H ds es m v false ∧ b = false)) ∧ ∀ H', Same H H' → Q (.bl b) H'
def spAsc : Sp := fun vs H Q _ => ∃ (v : V) (S : List (List PP)), vs = [v] ∧ StaV H v S ∧ 1 ≤ S.length ∧ S.length ≤ 100 ∧ ∀ H', Same H H' → Q (.bl (decide (S = srtL S))) H'
def spRen : Sp := fun vs H Q _ => ∃ (a : Addr) (v : V) (S : List (List PP)), vs = [.ref a, v] ∧ FlowAt H a ∧ StaV H v S ∧ S.length ≤ 100 ∧ ∀ r T H', StaV H' r T → T.Perm S → FlowAt H' a → Old a H H' → Q r H'
end Gn
set_option Elab.async false
set_option linter.all false
set_option maxRecDepth 100000
set_option maxHeartbeats 4000000
/-! t[i::9], t of nine items or less: a tuple of one item. (After HandS's t[lo:hi], the step given.) -/
namespace HT
open PySem PySem.Spec PyProof.Rows L2
section
variable {prog : Program} {w : World} {A : Around} {E : Value → Shared → Prop} {s : Shared}
theorem sliceApplied_nine {sl : Addr} {i : Nat} {t u : Tok} {n : Nat} {Q : Int × Int × Nat → Shared → Prop} (hs : s.heap.IsSliceOf sl (.int (i : Int) t) .none (.int 9 u)) (hi : i < n) (hn : n ≤ 9)
    (h : Q ((i : Int), 9, 1) s) : wpAny (model prog w) A (Builtin.Slice.sliceApplied (.ref sl) (pure (n : Int))) Q E s := by
  obtain ⟨os, hos, hcs, hds⟩ := id hs
  unfold Builtin.Slice.sliceApplied Builtin.Slice.sliceFields
  refine wpAny_bind (wpAny_bind (wpAny_field hos hds (x := .int (i : Int) t) rfl (wpAny_bind (wpAny_field hos hds (x := .none) rfl (wpAny_bind (wpAny_field hos hds (x := .int 9 u) rfl (wpAny_pure ?_)))))))
  refine wpAny_bind (slicePart_int ?_)
  show wpAny _ _ (if ((9 : Int) == 0) = true then _ else _) _ _ s
  rw [if_neg (by decide)]
  refine wpAny_bind (slicePart_int (wpAny_bind (slicePart_none (wpAny_bind (wpAny_pure ?_)))))
  have e1 : Builtin.Slice.sliceAdjust (some (i : Int)) none 9 (n : Int) = ((i : Int), (n : Int)) := by
    unfold Builtin.Slice.sliceAdjust
    refine Prod.ext ?_ ?_
    · show (if (i : Int) < 0 then max ((i : Int) + (n : Int)) (if (9 : Int) < 0 then -1 else 0) else min (i : Int) (if (9 : Int) < 0 then (n : Int) - 1 else (n : Int))) = (i : Int)
      rw [if_neg (by omega), if_neg (by omega)]
      omega
    · rfl
  have e2 : Builtin.Slice.slicePlaces (i : Int) (n : Int) 9 = 1 := by
    unfold Builtin.Slice.slicePlaces
    rw [if_pos (by decide), if_pos (by omega)]
    omega
  show wpAny _ _ (match Builtin.Slice.sliceAdjust (some (i : Int)) none 9 (n : Int) with | (lo, hi) => pure (lo, (9 : Int), Builtin.Slice.slicePlaces lo hi 9)) _ _ s
  rw [e1]
  show wpAny _ _ (pure ((i : Int), (9 : Int), Builtin.Slice.slicePlaces (i : Int) (n : Int) 9)) _ _ s
  rw [e2]
  exact wpAny_pure h
theorem getItem_nine {t sl : Addr} {items : Array Value} {i : Nat} {x : Value} {a b : Tok} {Q : Value → Shared → Prop} (ht : IsTup s.heap t items) (hs : s.heap.IsSliceOf sl (.int (i : Int) a) .none (.int 9 b)) (hx : items[i]? = some x) (hn : items.size ≤ 9)
    (h : Q (.ref s.heap.objs.size) { s with heap := s.heap.push { cls := .type "tuple", data := .seq #[x] } }) : wpAny (model prog w) A (getItem (.ref t) (.ref sl)) Q E s := by
  have hi : i < items.size := (Array.getElem?_eq_some_iff.mp hx).1
  have htake : sizeOk (.seq #[x]) := by show 1 ≤ sizeLine; decide
  obtain ⟨os, hos, hcs, hds⟩ := id hs
  have hTs : s.TypeIs (.ref sl) "slice" := ⟨os, hos, hcs⟩
  unfold getItem
  try with_reducible refine wpAny_holding ?_
  first | refine wpAny_bind (wpAny_pure ?_) | skip
  refine wpAny_bind (wpAny_sequenceKey ht.typeIs (by decide) ?_)
  refine wpAny_bind (wpAny_callSpecial?_slot (name := Str.ofString "__getitem__") ht.typeIs PyProof.Rows.slot_tuple_getitem
    (wpAny_call_entry PyProof.Rows.slot_tuple_getitem ht.typeIs entry_tuple_getitem ?_ (args_tuple_getitem _ _)))
  show wpAny _ _ (Builtin.Tuple.tupleItemsOf (.ref t) >>= _) _ _ s
  refine wpAny_bind (tupleItemsOf_ ht ?_)
  refine wpAny_bind (wpAny_typeOf hTs ?_)
  rw [if_pos (by decide)]
  refine wpAny_bind (sliceApplied_nine hs hi hn ?_)
  have hno : ¬ ((((i : Nat) : Int) == 0 && (9 : Int) == 1 && 1 == items.size) = true) := by
    intro q
    rw [Bool.and_eq_true, Bool.and_eq_true] at q
    exact absurd q.1.2 (by decide)
  show wpAny _ _ (if (((i : Nat) : Int) == 0 && (9 : Int) == 1 && 1 == items.size) = true then _ else _) _ _ s
  have e : ((List.range 1).filterMap fun (m : Nat) => items[((i : Int) + (m : Int) * 9).toNat]?).toArray = #[x] := by
    show ((List.filterMap _ [0])).toArray = _
    have e0 : items[((i : Int) + ((0 : Nat) : Int) * 9).toNat]? = some x := by
      rw [show ((i : Int) + ((0 : Nat) : Int) * 9).toNat = i by omega]
      exact hx
    rw [List.filterMap_cons, e0]
    rfl
  rw [if_neg hno, e]
  first
    | exact wpAny_bind (m := Builtin.Tuple.tupleExact _) (wpAny_newObj_type (wpAny_pure ⟨_, rfl, wpAny_pure h⟩) htake)
    | exact wpAny_bind (m := Builtin.Tuple.tupleExact _) (wpAny_newObj_type (wpAny_bind (wpAny_pure (wpAny_pure ⟨_, rfl, wpAny_pure h⟩))) htake)
    | exact wpAny_bind (wpAny_bind (m := Builtin.Tuple.tupleExact _) (wpAny_newObj_type (wpAny_pure (wpAny_pure ⟨_, rfl, wpAny_pure h⟩)) htake))
    | exact wpAny_bind (wpAny_bind (m := Builtin.Tuple.tupleExact _) (wpAny_newObj_type (wpAny_pure ⟨_, rfl, wpAny_pure h⟩) htake))
end
end HT
namespace Com
open PySem PySem.Spec PyProof.Rows L2
def tNine (K : PySem.W.Frag) (te tl : TE) : TE := fun σ H Q => te σ H fun x H1 => tl σ H1 fun y H2 => ∃ a xs i v, x = .ref a ∧ y = .int ((i : Nat) : Int) ∧ SqT K H2 a xs ∧ xs.length ≤ 9 ∧ xs[i]? = some v ∧ ∀ p, H2 p = none → Q (.ref p) (upd H2 p (.tup [v]))
section
variable {X : Cx} {e lo c : Expr} {te tl : TE} {pos p2 : Pos}
theorem pe_nine {K : PySem.W.Frag} {p3 : Pos} {t : Nat} (he : PE X e te) (hl : PE X lo tl) (hK : X.K = K := by rfl) : PE X (.Subscript e (.Slice (some lo) none (some (.Constant (.int 9) t p3)) p2) pos) (tNine K te tl) := by
  subst hK
  refine ⟨fun pins s σ H Q I h => ?_⟩
  refine Subscript_ (thn (he.run pins s σ H _ I h) fun v s1 ⟨x, H1, I1, r1, q1⟩ => ?_)
  refine wpAny_Slice ?_
  rw [evalPart_some]
  refine thn (hl.run pins s1 σ H1 _ I1 q1) fun vl s2 ⟨l, H2, I2, rl, q2⟩ => ?_
  obtain ⟨a, xs, i, y, rfl, rfl, hx, hn, hy, q⟩ := q2
  cases r1
  obtain ⟨tk, rfl⟩ := rl
  rw [evalPart_none]
  refine wpAny_pure ?_
  rw [evalPart_some]
  refine thn ((pe_int (X := X) (i := 9)).run pins s2 σ H2 (fun z H' => z = .int 9 ∧ H' = H2) I2 ⟨rfl, rfl⟩) fun vs s3 ⟨z, H3, I3, rz, ez, eH⟩ => ?_
  subst ez eH
  obtain ⟨tk3, rfl⟩ := rz
  have I4 : Inv X pins σ H3 { s3 with heap := s3.heap.push { cls := .type "slice", data := .fields #[.int (i : Int) tk, .none, .int 9 tk3] } } := I3.kept (t' := s3.toks) fun b ob q => Heap.get?_push_of_some _ q
  obtain ⟨its, r, ht, hz⟩ := I4.tuple hx
  have hlen : its.toArray.size = xs.length := by rw [List.size_toArray]; exact r.length.symm
  obtain ⟨u, hu, ru⟩ := r.get hy
  show wpAny (model X.prog X.w) X.A (subscriptTail e _ (.ref a) (.ref s3.heap.objs.size)) (EP X pins σ Q) X.xe { s3 with heap := s3.heap.push { cls := .type "slice", data := .fields #[.int (i : Int) tk, .none, .int 9 tk3] } }
  refine tail_any (ops := [.ref a, .ref s3.heap.objs.size]) (T := "tuple") ht.typeIs PyProof.Rows.slot_tuple_getitem.lookup ?_ (by with_unfolding_all rfl)
  refine HT.getItem_nine ht (Heap.IsSliceOf.new ..) (x := u) (by simpa using hu) (by omega) ?_
  refine ⟨.ref _, _, I4.laid (t' := s3.toks) (o := .tup [y]) (fun b ob q => Heap.get?_push_of_some _ q) (Nat.le_refl _) ?_, rfl, q _ (I4.hok.fresh (Nat.le_refl _))⟩
  exact ⟨by show 1 ≤ sizeLine; decide, [u], .cons ru .nil, IsTup.new _ _⟩
end
end Com
set_option Elab.async false
set_option linter.all false
set_option maxRecDepth 100000
set_option maxHeartbeats 4000000
/-! list(reversed(t)), t a tuple. (After HandS's tuple(reversed(l)) and the library's list(a generator).) -/
namespace RT
open PySem PySem.Spec PyProof.Rows
theorem nolen_rt : typeLookup (.type "reversed") "__len__" = pure none := by rw [typeLookup_type, builtinLookup_eq_fast]; kernel_rfl
theorem slot_rt_hint : Slot "reversed" "__length_hint__" "reversed.__length_hint__" :=
  .of (owner := "reversed") (n := "__length_hint__") (by rw [typeLookup_type, builtinLookup_eq_fast]; kernel_rfl) (by decide +kernel) (by decide +kernel) (by decide +kernel)
    (by first | exact .inl (by decide +kernel) | exact .inr (by decide +kernel)) (by rw [isSubtype_type]; kernel_rfl)
theorem entry_rt_hint : entryFor table "reversed.__length_hint__" = some Builtin.«reversed.__length_hint__» := entryFor_of_tree (by kernel_rfl)
theorem args_rt_hint (a : Value) : argsOk "reversed.__length_hint__" ⟨[a], []⟩ := by
  unfold argsOk; rw [signature?_of (id := "reversed.__length_hint__") (n := ['_', '_', 't', 'n', 'i', 'h', '_', 'h', 't', 'g', 'n', 'e', 'l', '_', '_']) (o := ['d', 'e', 's', 'r', 'e', 'v', 'e', 'r']) (by kernel_rfl) owner_rt]; kernel_rfl
theorem walks_rt {prog : Program} {w : World} {A : Around} (hh : A.handled = none) (I t : Addr) (hne : t ≠ I) (items : Array Value) (hz : items.size ≤ sizeLine) :
    Walks prog w A I [I, t] [I] items.size (fun i v => items[items.size - 1 - i]? = some v) (fun i h => i ≤ items.size ∧ IsRt h I t ((items.size : Int) - 1 - (i : Int)) ∧ IsTup h t items) where
  sub := fun b hb => by simp at hb; simp [hb]
  frame := fun _ _ _ x hk => ⟨x.1, x.2.1.at fun o e => hk I (by simp) o e, let ⟨o, e, r⟩ := x.2.2; ⟨o, hk t (by simp) o e, r⟩⟩
  item := fun i s Q E hi x hQ => by
    have e : (items.size : Int) - 1 - (i : Int) = ((items.size - 1 - i : Nat) : Int) := by omega
    have hit := x.2.1
    rw [e] at hit
    have hx : items[items.size - 1 - i]? = some (items[items.size - 1 - i]'(by omega)) := Array.getElem?_eq_getElem (by omega)
    refine next_rt_item hit x.2.2 hx hz fun h' hit' hs' => ?_
    have e2 : ((items.size - 1 - i : Nat) : Int) - 1 = (items.size : Int) - 1 - ((i + 1 : Nat) : Int) := by omega
    rw [e2] at hit'
    exact hQ _ h' (s.toks + 1) hx ⟨hi, hit', let ⟨o, e, r⟩ := x.2.2; ⟨o, (hs'.2 t hne).trans e, r⟩⟩ fun b o hb eo => hs'.extBut b o (fun h => hb (by simp [h])) eo
  done := fun s Q E x hQ => by
    have e : (items.size : Int) - 1 - (items.size : Int) = -1 := by omega
    have hit := x.2.1
    rw [e] at hit
    exact next_rt_end hh hit fun h' he' => hQ h' s.toks fun b o hb eo => he' b o (fun h => hb (by simp [h])) eo
  self := fun _ _ _ _ x hQ => iter_rt x.2.1 hQ
section
variable {prog : Program} {w : World} {A : Around} {E : Value → Shared → Prop} {s : Shared}
theorem asInt_int (n : Int) (t : Tok) : asInt? (Value.int n t) = pure (some n) := rfl
/-- its length hint -/
theorem hint_rt {it t : Addr} {items : Array Value} {Q : Bool → Shared → Prop} (hit : IsRt s.heap it t ((items.size : Int) - 1)) (ht : IsTup s.heap t items) (hz : items.size ≤ 100000)
    (hQ : ∀ b tk, s.toks ≤ tk → Q b { s with toks := tk }) : wpAny (model prog w) A (Builtin.List.listLengthHint (.ref it)) Q E s := by
  obtain ⟨o, ho, hc, hd⟩ := id hit
  have hT : s.TypeIs (.ref it) "reversed" := hit.typeIs
  unfold Builtin.List.listLengthHint
  refine wpAny_bind (wpAny_specialOf hT nolen_rt ?_)
  show wpAny _ _ (specialOf (Value.ref it) (Str.ofString "__length_hint__") >>= _) _ _ _
  refine wpAny_bind (wpAny_specialOf hT slot_rt_hint.lookup ?_)
  generalize hid : ("reversed.__length_hint__" : String) = id0
  wp_delta
  rw [show splitId id0 = some ("reversed", "__length_hint__") from by subst hid; decide +kernel]
  subst hid
  refine wpAny_bind (wpAny_isInstance (b := true) hT (by rw [isSubtype_type]; kernel_rfl) ?_)
  rw [if_neg (by decide)]
  try dsimp only
  rw [if_neg (by decide +kernel)]
  refine wpAny_bind (wpAny_rule ?_)
  rw [slot_rt_hint.bind]
  refine wpAny_bind (wpAny_pure ?_)
  try dsimp only
  have sz : (items.size : Int) < 2 ^ 63 := by omega
  refine wpAny_bind (wpAny_attempt (wpAny_call_entry slot_rt_hint hT entry_rt_hint ?_ (args_rt_hint _)))
  unfold Builtin.«reversed.__length_hint__»
  refine wpAny_bind (wpAny_of_eq (a := Value.ref it) rfl ?_)
  refine wpAny_bind (wpAny_field ho hd (x := .ref t) rfl ?_)
  try dsimp only
  rw [if_neg (by intro z; cases z)]
  refine wpAny_bind (PyProof.Rows.len_tuple ht sz ?_)
  refine wpAny_bind (wpAny_of_eq (a := some ((items.size : Nat) : Int)) rfl ?_)
  try dsimp only
  refine wpAny_bind (wpAny_field (s := { s with toks := s.toks + 1 + 1 }) ho hd (x := rawInt ((items.size : Int) - 1)) rfl ?_)
  show wpAny _ _ (if ((items.size : Nat) : Int) < (items.size : Int) - 1 + 1 then _ else _) _ _ _
  rw [if_neg (by omega)]
  unfold retInt
  refine wpAny_bind (wpAny_mkInt (wpAny_pure ⟨_, rfl, ?_⟩))
  have f1 : Builtin.List.listFitsIndex ((items.size : Nat) : Int) = true := by
    show (decide (-(2 ^ 63 : Int) ≤ ((items.size : Nat) : Int)) && decide (((items.size : Nat) : Int) < 2 ^ 63)) = true
    rw [decide_eq_true sz, decide_eq_true (show -(2 ^ 63 : Int) ≤ ((items.size : Nat) : Int) by omega)]
    rfl
  have f2 : Builtin.List.listTooLong (((items.size : Nat) : Int)).toNat = false := by
    rw [Int.toNat_natCast]
    refine decide_eq_false (fun z => ?_)
    have z2 : sizeLine < items.size := z
    have : 100000 ≤ sizeLine := by decide
    omega
  rw [show (items.size : Int) - 1 + 1 = ((items.size : Nat) : Int) by omega]
  have n0 : ¬ ((items.size : Nat) : Int) < 0 := by omega
  have sz2 : (((items.size : Nat) : Int) != 0) = (((items.size : Nat) : Int) != 0) := rfl
  clear sz sz2
  generalize ((items.size : Nat) : Int) = n at f1 f2 n0
  try dsimp only
  refine wpAny_bind (wpAny_of_eq (asInt_int _ _) ?_)
  try dsimp only
  rw [f1, f2, if_neg (by decide), if_neg n0, if_neg (by decide)]
  exact wpAny_pure (hQ _ _ (by omega))
theorem loop_rt {R : Result → Shared → Prop} {it t : Addr} {items : Array Value} (hh : A.handled = none) (hne : t ≠ it) (hz : items.size ≤ 100000) (S : Addr) (res : Value) (hSf : S ≠ it) (hSt : S ≠ t)
    (hit : IsRt s.heap it t ((items.size : Int) - 1)) (ht : IsTup s.heap t items) {c : Nat} (hS : s.heap.get? S = some { cls := .type "list", data := .seq #[] c })
    (hR : ∀ s' acc' c', Moved (S :: [it]) (fun a b => b = a) s s' → s'.heap.get? S = some { cls := .type "list", dict := none, data := .seq acc' c', slots := #[] } → ItemsOf (fun i v => items[items.size - 1 - i]? = some v) acc' items.size → R (.ok (.ret res)) s') :
    codeAny (model prog w) A (.builtin "list.extend.loop" ⟨[.ref S, .ref it, res], []⟩) R s := by
  have zz : items.size ≤ sizeLine := Nat.le_trans hz (by decide)
  have W := (walks_rt (prog := prog) (w := w) (A := A.in1) hh it t hne items zz).toS
  have e0 : ((items.size : Nat) : Int) - 1 - ((0 : Nat) : Int) = (items.size : Int) - 1 := by omega
  exact codeAny_extend_loopS W zz _ (by simp [hSf, hSt]) _ items.size 0 _ _ _ rfl (Nat.zero_le _) ⟨Nat.zero_le _, by rw [e0]; exact hit, ht⟩ hS (ItemsOf.nil _) hR
theorem IsTup.push' {h : Heap} {t : Addr} {items : Array Value} {h' : Heap} (x : IsTup h t items) (e : ∀ o, h.get? t = some o → h'.get? t = some o) : IsTup h' t items := let ⟨o, ho, r⟩ := x; ⟨o, e _ ho, r⟩
theorem extend_rt {R : Result → Shared → Prop} {it t : Addr} {items : Array Value} (hh : A.handled = none) (hne : t ≠ it) (hz : items.size ≤ 100000) (S : Addr) (res : Value) (hSf : S ≠ it) (hSt : S ≠ t)
    (hit : IsRt s.heap it t ((items.size : Int) - 1)) (ht : IsTup s.heap t items) (c₀ : Nat) (hS : s.heap.get? S = some { cls := .type "list", data := .seq #[] c₀ })
    (hR : ∀ s' acc' c', Moved (S :: [it]) (fun a b => b = a) s s' → s'.heap.get? S = some { cls := .type "list", dict := none, data := .seq acc' c', slots := #[] } → ItemsOf (fun i v => items[items.size - 1 - i]? = some v) acc' items.size → R (.ok (.ret res)) s') :
    wpAny (model prog w) A.in1 (Builtin.List.listExtendWith (.ref S) (.ref it) res)
      (fun fin s' => match fin with | .done f => R (.ok f) s' | .again c' => c'.quiet = true ∧ codeAny (model prog w) A c' R s') (fun e s' => R (.error e) s') s := by
  have hT : s.TypeIs (.ref it) "reversed" := hit.typeIs
  unfold Builtin.List.listExtendWith
  refine wpAny_bind (wpAny_typeOf hT ?_)
  have h1 : Builtin.List.listSameRef (.ref S) (.ref it) = false := by simp [Builtin.List.listSameRef, hSf]
  have h2 : (Value.type "reversed" == Value.type "list") = false := by decide
  have h3 : (Value.type "reversed" == Value.type "tuple") = false := by decide
  simp only [h1, h2, h3, Bool.or_false, Bool.false_eq_true, if_false]
  refine wpAny_bind (iter_rt hit ?_)
  refine wpAny_bind (wpAny_holding ?_)
  refine hint_rt hit ht hz fun b tk htk => ?_
  cases b with
  | true =>
    show wpAny _ A.in1 (rule "list.extend.makes-room" >>= fun _ => Builtin.List.listTouch (.ref S) >>= fun _ =>
      again (.builtin "list.extend.loop" ⟨[.ref S, .ref it, res], []⟩)) _ _ _
    refine wpAny_bind (wpAny_rule ?_)
    refine wpAny_bind ?_
    show wpAny _ A.in1 (updateSeq S (·.push .none) >>= fun _ => updateSeq S (·.pop)) _ _ _
    refine wpAny_bind (wpAny_updateSeq (s := { s with toks := tk }) hS rfl ?_)
    have hS₂ := Heap.get?_update_self (Obj.mapSeq (·.push Value.none)) hS rfl
    refine wpAny_updateSeq (hz := by seq_fits) hS₂ rfl ?_
    have hS₃ := Heap.get?_update_self (Obj.mapSeq (·.pop)) hS₂ rfl
    have oth : ∀ b o, b ≠ S → s.heap.get? b = some o → ((s.heap.update S (Obj.mapSeq (·.push Value.none))).update S (Obj.mapSeq (·.pop))).get? b = some o :=
      fun b o hb e => (Heap.get?_update_other _ _ (Ne.symm hb)).trans ((Heap.get?_update_other _ _ (Ne.symm hb)).trans e)
    refine wpAny_pure ⟨plainId_quiet F.plain_extend_loop _, loop_rt hh hne hz S res hSf hSt (hit.at fun o e => oth it o (Ne.symm hSf) e) (IsTup.push' ht fun o e => oth t o (Ne.symm hSt) e) hS₃ fun s' acc' c' hm hS' hacc => ?_⟩
    refine hR s' acc' c' ⟨fun b o hb e => hm.heap b o hb (oth b o (fun h => hb (h ▸ List.mem_cons_self)) e), hm.gens, hm.drawn, hm.os, ?_⟩ hS' hacc
    exact Nat.le_trans htk hm.toks
  | false =>
    show wpAny _ A.in1 (again (.builtin "list.extend.loop" ⟨[.ref S, .ref it, res], []⟩)) _ _ _
    refine wpAny_pure ⟨plainId_quiet F.plain_extend_loop _, loop_rt (s := { s with toks := tk }) hh hne hz S res hSf hSt hit ht hS fun s' acc' c' hm hS' hacc => ?_⟩
    exact hR s' acc' c' ⟨hm.heap, hm.gens, hm.drawn, hm.os, Nat.le_trans htk hm.toks⟩ hS' hacc
theorem list_init_rt {R : Result → Shared → Prop} {it t : Addr} {items : Array Value} (hh : A.handled = none) (hne : t ≠ it) (hz : items.size ≤ 100000) (S : Addr) (hSf : S ≠ it) (hSt : S ≠ t)
    (hit : IsRt s.heap it t ((items.size : Int) - 1)) (ht : IsTup s.heap t items) (hS : s.heap.get? S = some { cls := .type "list", data := .seq #[] })
    (hR : ∀ s' acc' c', Moved (S :: [it]) (fun a b => b = a) s s' → s'.heap.get? S = some { cls := .type "list", dict := none, data := .seq acc' c', slots := #[] } → ItemsOf (fun i v => items[items.size - 1 - i]? = some v) acc' items.size → R (.ok (.ret .none)) s') :
    wpAny (model prog w) A.in1 (Builtin.«list.__init__» ⟨[.ref S, .ref it], []⟩)
      (fun fin s' => match fin with | .done f => R (.ok f) s' | .again c' => c'.quiet = true ∧ codeAny (model prog w) A c' R s') (fun e s' => R (.error e) s') s := by
  show wpAny _ A.in1 (do let old ← Builtin.List.listItems (.ref S); Builtin.List.listUpdate (.ref S) (fun _ => #[]); letGo old.toList.reverse; Builtin.List.listExtendWith (.ref S) (.ref it) .none) _ _ s
  refine wpAny_bind ?_
  unfold Builtin.List.listItems
  refine wpAny_bind (wpAny_seqItems hS rfl (wpAny_pure ?_))
  show wpAny _ A.in1 (updateSeq S (fun _ => #[]) >>= fun _ => letGo (#[] : Array Value).toList.reverse >>= fun _ => Builtin.List.listExtendWith (.ref S) (.ref it) .none) _ _ s
  refine wpAny_bind (wpAny_updateSeq hS rfl ?_)
  have hS₂ := Heap.get?_update_self (Obj.mapSeq (fun _ => (#[] : Array Value))) hS rfl
  have oth : ∀ b o, b ≠ S → s.heap.get? b = some o → (s.heap.update S (Obj.mapSeq (fun _ => (#[] : Array Value)))).get? b = some o :=
    fun b o hb e => (Heap.get?_update_other _ _ (Ne.symm hb)).trans e
  refine wpAny_bind (wpAny_letGo ?_)
  refine extend_rt hh hne hz S .none hSf hSt (hit.at fun o e => oth it o (Ne.symm hSf) e) (IsTup.push' ht fun o e => oth t o (Ne.symm hSt) e) _ hS₂ fun s' acc' c' hm hS' hacc => ?_
  exact hR s' acc' c' ⟨fun b o hb e => hm.heap b o hb (oth b o (fun h => hb (h ▸ List.mem_cons_self)) e), hm.gens, hm.drawn, hm.os, hm.toks⟩ hS' hacc
theorem call_list_rt {Q : Value → Shared → Prop} {it t : Addr} {items : Array Value} (hh : A.handled = none) (hne : t ≠ it) (hz : items.size ≤ 100000) (hit : IsRt s.heap it t ((items.size : Int) - 1)) (ht : IsTup s.heap t items)
    (hQ : ∀ s' acc' c', Moved (s.heap.objs.size :: [it]) (fun a b => b = a) { s with heap := s.heap.push { cls := .type "list", data := .seq #[] } } s' →
      s'.heap.get? s.heap.objs.size = some { cls := .type "list", dict := none, data := .seq acc' c', slots := #[] } → ItemsOf (fun i v => items[items.size - 1 - i]? = some v) acc' items.size → Q (.ref s.heap.objs.size) s') :
    wpAny (model prog w) A (call (.type "list") [.ref it]) Q E s := by
  obtain ⟨oi, hoi, _⟩ := id hit
  obtain ⟨ol, hol, _⟩ := id ht
  have hSi : s.heap.objs.size ≠ it := Nat.ne_of_gt (Heap.lt_size hoi)
  have hSl : s.heap.objs.size ≠ t := Nat.ne_of_gt (Heap.lt_size hol)
  refine callType_codes (Q₁ := fun obj s₁ => obj = .ref s.heap.objs.size ∧ s₁ = { s with heap := s.heap.push { cls := .type "list", data := .seq #[] } }) F.called_list (F.typeCall_list_1 _) F.entry_list_init
    (code_list_new _ ⟨rfl, rfl⟩) fun obj s₁ h₁ => ?_
  obtain ⟨rfl, rfl⟩ := h₁
  have hS : (s.heap.push { cls := .type "list", data := .seq #[] }).get? s.heap.objs.size = some { cls := .type "list", data := .seq #[] } := Heap.get?_push_size _ rfl
  refine ⟨⟨_, hS, rfl⟩, F.args_list_init_2 _ _, list_init_rt (A := A.in1) (s := { s with heap := s.heap.push { cls := .type "list", data := .seq #[] } }) hh hne hz _ hSi hSl (hit.at fun o e => Heap.get?_push_of_some _ e) (IsTup.push' ht fun o e => Heap.get?_push_of_some _ e) hS fun s' acc' c' hm hS' hacc => ?_⟩
  exact ⟨rfl, hQ s' acc' c' hm hS' hacc⟩
end
end RT
namespace Com
open PySem PySem.Spec PyProof.Rows L2 RT
/-- list(reversed(x)), x a tuple: a new list -/
def tListRev (K : PySem.W.Frag) (te : TE) : TE := fun σ H Q => te σ H fun v H1 => ∃ (a : Addr) (xs : List V), v = .ref a ∧ SqT K H1 a xs ∧ xs.length ≤ 100000 ∧ ∀ q, H1 q = none → Q (.ref q) (upd H1 q (.lst xs.reverse))
section
variable {X : Cx}
theorem pe_listRev {K : PySem.W.Frag} {e : Expr} {te : TE} {p p2 pos pos2 : Pos} (hc : X.calm = true) (hg : Gl X "list") (hm : X.mg "list" = none) (hg2 : Gl X "reversed") (hm2 : X.mg "reversed" = none) (he : PE X e te)
    (hK : X.K = K := by rfl)
    (hs : starEach [e] X.env = (false, eval e X.env) :: starEach [] X.env := by rfl)
    (hs2 : starEach [.Call (.Name "reversed" p2) [e] [] pos2] X.env = (false, eval (.Call (.Name "reversed" p2) [e] [] pos2) X.env) :: starEach [] X.env := by rfl) :
    PE X (.Call (.Name "list" p) [.Call (.Name "reversed" p2) [e] [] pos2] [] pos) (tListRev K te) := by
  subst hK
  refine ⟨fun pins s σ H Q I h => ?_⟩
  refine Call_ (ld_blt I hg hm boot_list (PyProof.Rows.callWith_type1 (args_cons (Call_ (ld_blt I hg2 hm2 PyProof.Rows.boot_reversed (PyProof.Rows.callWith_type1 (args_cons (thn (he.run pins s σ H _ I h) fun u s1 ⟨v, H1, I1, r1, q1⟩ => args_nil ?_) hs) hs rfl))) hs2) hs2 rfl))
  obtain ⟨a, xs, ev, hq, hn0, q⟩ := q1
  subst ev
  obtain rfl : u = Value.ref a := r1
  obtain ⟨its, rv, p', hz⟩ := I1.tuple hq
  have hl := rv.length
  have hn := line63
  have hn' : its.toArray.size ≤ 100000 := by rw [List.size_toArray]; omega
  refine call_reversed_tup p' (fun A E Q k => len_tuple p' (by simp only [List.size_toArray] <;> omega) k) (args_nil ?_)
  have k0 : ∀ b o, s1.heap.get? b = some o → (s1.heap.push (rtObj a ((its.toArray.size : Int) - 1))).get? b = some o := fun b o e => Heap.get?_push_of_some _ e
  have I2 : L2.Inv X pins σ H1 { s1 with heap := s1.heap.push (rtObj a ((its.toArray.size : Int) - 1)), toks := s1.toks + 1 + 1 } := I1.kept (t' := s1.toks + 1 + 1) k0
  obtain ⟨f0, f1, f2, f3, f4, f5⟩ := I1.fpOk (H' := H1) (b := s1.heap.objs.size) (Nat.le_refl _) (I1.hok.fresh (Nat.le_refl _))
  obtain ⟨ol, hol, _⟩ := id p'
  have hne : a ≠ s1.heap.objs.size := Nat.ne_of_lt (Heap.lt_size hol)
  refine call_list_rt (s := { s1 with heap := s1.heap.push (rtObj a ((its.toArray.size : Int) - 1)), toks := s1.toks + 1 + 1 }) (I1.ok.hd hc) hne hn' ⟨_, Heap.get?_push_size _ rfl, rfl, rfl⟩ (IsTup.push' p' fun o e => k0 a o e) fun s' acc c' hm hS' hacc => ?_
  rw [Moved.eq_with hm]
  have I3 : L2.Inv X pins σ (upd H1 (s1.heap.push (rtObj a ((its.toArray.size : Int) - 1))).objs.size (.lst xs.reverse)) { s1 with heap := s'.heap, toks := s'.toks } := by
    refine L2.Inv.turnedNew (s := { s1 with heap := s1.heap.push (rtObj a ((its.toArray.size : Int) - 1)), toks := s1.toks + 1 + 1 }) (ch := [s1.heap.objs.size]) I2 (fun b o hb e => ?_) (fun b hb => ?_) (Nat.le_refl _) ?_
    · refine hm.heap b o (fun z => ?_) (Heap.get?_push_of_some _ e)
      rcases List.mem_cons.mp z with z | z
      · exact absurd (Heap.lt_size e) (by rw [z]; exact Nat.lt_irrefl _)
      · exact hb z
    · rw [List.mem_singleton.mp hb]
      exact I1.fpOk (Nat.le_refl _) (I1.hok.fresh (Nat.le_refl _))
    · refine ⟨by rw [List.length_reverse]; exact hz, acc.toList, c', vals_rev rv hacc, ?_⟩
      rw [Array.toArray_toList]
      exact hS'
  exact ⟨.ref _, _, I3, rfl, q _ (I2.hok.fresh (Nat.le_refl _))⟩
end
end Com
set_option Elab.async false
set_option linter.all false
set_option maxRecDepth 100000
set_option maxHeartbeats 4000000
/-! Dicts whose keys are nested tuples, over the hand layer. -/
namespace Nd
open PySem PySem.Spec PyProof.Rows L2 Com
abbrev NX := NestedKey × Addr × V
abbrev NY := NestedKey × Addr × Value
def EN (w : World) (x : NY) : DictEntry := ⟨x.1.hash w, .ref x.2.1, x.2.2⟩
abbrev NXY : List NX → List NY → Prop := Paired fun p q => p.1 = q.1 ∧ p.2.1 = q.2.1 ∧ RelV p.2.2 q.2.2
def RawN (w : World) (h : Heap) (a : Addr) (xs : List NX) : Prop :=
  ((a == sysModules) = false ∧ ∀ x ∈ xs, x.1.depth ≤ 8) ∧ xs.length ≤ sizeLine ∧ ∃ us : List NY, NXY xs us ∧ (∃ o es ep, h.get? a = some o ∧ o.ExactDict ∧ o.data = .dict es ep ∧ es.toList = us.map (EN w)) ∧ (us.map (·.1)).Nodup
def DN (w : World) (a : Addr) (xs : List NX) : HO := .ext fun h => RawN w h a xs
mutual
inductive NIs (H : Hp) : NestedKey → V → Prop
  | none : NIs H .none .non
  | num (i : Int) : NIs H (.num i) (.int i)
  | text (x : Str) : NIs H (.text x) (.str x)
  | tup {a : Addr} {ks : List NestedKey} {vs : List V} : H a = some (.tup vs) → NIsA H ks vs → NIs H (.tup ks) (.ref a)
inductive NIsA (H : Hp) : List NestedKey → List V → Prop
  | nil : NIsA H [] []
  | cons {k : NestedKey} {v : V} {ks : List NestedKey} {vs : List V} : NIs H k v → NIsA H ks vs → NIsA H (k :: ks) (v :: vs)
end
section
variable {X : Cx} {pins : List (Addr × Obj)} {σ : L2.St} {H : Hp} {s : Shared}
mutual
theorem NIs.at (I : Inv X pins σ H s) : ∀ {k : NestedKey} {v : V} {u : Value}, NIs H k v → RelV v u → NestedIs s.heap k u
  | _, _, _, .none, r => by cases (show _ = Value.none from r); exact .none
  | _, _, _, .num i, r => by obtain ⟨t, rfl⟩ := r; exact .int i t
  | _, _, _, .text x, r => by obtain ⟨t, rfl⟩ := r; exact .text x t
  | _, _, _, .tup h t, r => by
    cases (show _ = Value.ref _ from r)
    obtain ⟨its, q, ⟨o, e, c, n, d⟩, _⟩ := I.tuple (.inl (.inl h))
    exact .tup e c d (NIsA.at I t q)
theorem NIsA.at (I : Inv X pins σ H s) : ∀ {ks : List NestedKey} {vs : List V} {us : List Value}, NIsA H ks vs → Vals vs us → NestedAll s.heap ks us
  | _, _, _, .nil, r => by cases r; exact .nil
  | _, _, _, .cons h t, r => by cases r with | cons a b => exact .cons (NIs.at I h a) (NIsA.at I t b)
end
def KOk (H : Hp) (k : NestedKey) (a : Addr) : Prop := NIs H k (.ref a) ∧ k.depth ≤ 8
theorem KOk.is (I : Inv X pins σ H s) {k : NestedKey} {a : Addr} (h : KOk H k a) : (nestedKind X.prog X.w).is s.heap k a := ⟨NIs.at I h.1 rfl, h.2⟩
/-- the keys stand -/
def AllK (H : Hp) (xs : List NX) : Prop := ∀ x ∈ xs, NIs H x.1 (.ref x.2.1)
def lkN (xs : List NX) (k : NestedKey) : Option V := (xs.find? fun x => decide (x.1 = k)).map (·.2.2)
def putN (xs : List NX) (k : NestedKey) (a : Addr) (v : V) : List NX := if (lkN xs k).isSome then xs.map (fun x => if x.1 = k then (x.1, x.2.1, v) else x) else xs ++ [(k, a, v)]
def dropN (xs : List NX) (k : NestedKey) : List NX := xs.filter fun x => !decide (x.1 = k)
theorem putN_len (xs : List NX) (k : NestedKey) (a : Addr) (v : V) : (putN xs k a v).length ≤ xs.length + 1 := by
  unfold putN
  split
  · rw [List.length_map]; omega
  · rw [List.length_append]; exact Nat.le_refl _
theorem putN_all {xs : List NX} {k : NestedKey} {a : Addr} {v : V} (h : ∀ x ∈ xs, x.1.depth ≤ 8) (hk : k.depth ≤ 8) : ∀ x ∈ putN xs k a v, x.1.depth ≤ 8 := fun x hx => by
  unfold putN at hx
  split at hx
  · obtain ⟨y, hy, rfl⟩ := List.mem_map.mp hx
    split
    · exact h y hy
    · exact h y hy
  · rcases List.mem_append.mp hx with hx | hx
    · exact h x hx
    · rw [List.mem_singleton.mp hx]; exact hk
theorem lk_rel {k : NestedKey} : ∀ {xs : List NX} {us : List NY}, NXY xs us → RelO (lkN xs k) ((atKey us k).map (·.2))
  | _, _, .nil => trivial
  | x :: xs, u :: us, .cons h t => by
    unfold lkN atKey
    rw [List.find?_cons, List.find?_cons, h.1]
    by_cases c : u.1 = k
    · rw [decide_eq_true c]; exact h.2.2
    · rw [decide_eq_false c]
      exact lk_rel t
theorem put_rel {k : NestedKey} {a : Addr} {v : V} {u : Value} (r : RelV v u) {xs : List NX} {us : List NY} (h : NXY xs us) : NXY (putN xs k a v) (storedH us k a u) := by
  have e : (lkN xs k).isSome = (atKey us k).isSome := by
    have := lk_rel (k := k) h
    cases e1 : lkN xs k <;> cases e2 : atKey us k <;> rw [e1, e2] at this <;> first | rfl | exact this.elim
  unfold putN storedH
  rw [e]
  cases (atKey us k).isSome with
  | true =>
    rw [if_pos rfl, if_pos rfl]
    clear e
    induction h with
    | nil => exact .nil
    | @cons p q ps qs h t ih =>
      refine .cons ?_ ih
      unfold putAt
      dsimp only
      by_cases c : p.1 = k
      · rw [if_pos c, if_pos (by rw [← h.1]; exact c)]; exact ⟨h.1, h.2.1, r⟩
      · rw [if_neg c, if_neg (by rw [← h.1]; exact c)]; exact h
  | false =>
    rw [if_neg (by decide), if_neg (by decide)]
    clear e
    induction h with
    | nil => exact .cons ⟨rfl, rfl, r⟩ .nil
    | cons h t ih => exact .cons h ih
theorem drop_rel {k : NestedKey} {xs : List NX} {us : List NY} (h : NXY xs us) : NXY (dropN xs k) (withoutH us k) := by
  unfold dropN withoutH
  induction h with
  | nil => exact .nil
  | @cons p q ps qs h t ih =>
    rw [List.filter_cons, List.filter_cons, h.1]
    by_cases c : q.1 = k
    · simp only [c, decide_true, Bool.not_true, Bool.false_eq_true, if_false, ne_eq, not_true_eq_false, decide_false]
      exact ih
    · simp only [c, decide_false, Bool.not_false, if_true, ne_eq, not_false_eq_true, decide_true]
      exact .cons h ih
theorem dn_get {a : Addr} {xs : List NX} (I : Inv X pins σ H s) (ha : H a = some (DN X.w a xs)) (hk : AllK H xs) : (a == sysModules) = false ∧ (∀ x ∈ xs, x.1.depth ≤ 8) ∧ xs.length ≤ sizeLine ∧ ∃ us, NXY xs us ∧ s.heap.DictOfH (nestedKind X.prog X.w) a us := by
  obtain ⟨⟨h1, h3⟩, h2, us, r, ⟨o, es, ep, e1, e2, e3, e4⟩, nd⟩ := (I.hok a _ ha).1
  refine ⟨h1, h3, h2, us, r, o, es, ep, e1, e2, e3, e4, fun x hx => ?_, nd⟩
  obtain ⟨i, hi⟩ := List.mem_iff_getElem?.mp hx
  have : ∃ p, xs[i]? = some p ∧ p.1 = x.1 ∧ p.2.1 = x.2.1 := by
    clear e4 nd hx
    induction r generalizing i with
    | nil => simp at hi
    | @cons p q ps qs h t ih =>
      cases i with
      | zero =>
        rw [List.getElem?_cons_zero] at hi
        cases hi
        exact ⟨p, rfl, h.1, h.2.1⟩
      | succ i =>
        rw [List.getElem?_cons_succ] at hi ⊢
        have hl : ps.length ≤ sizeLine := by rw [List.length_cons] at h2; omega
        cases hg : ps[i]? with
        | none =>
          have l1 := Paired.length t
          have := List.getElem?_eq_none_iff.mp hg
          have := (List.getElem?_eq_some_iff.mp hi).1
          omega
        | some p' =>
          have : ∀ {ps : List NX} {qs : List NY} {i : Nat} {p' : NX} {x : NY}, NXY ps qs → ps[i]? = some p' → qs[i]? = some x → p'.1 = x.1 ∧ p'.2.1 = x.2.1 := by
            intro ps qs i p' x t
            induction t generalizing i with
            | nil => intro h; simp at h
            | cons h t ih =>
              cases i with
              | zero => intro h1 h2; cases h1; cases h2; exact ⟨h.1, h.2.1⟩
              | succ i => intro h1 h2; exact ih (by simpa using h1) (by simpa using h2)
          obtain ⟨a1, a2⟩ := this t hg hi
          exact ⟨p', rfl, a1, a2⟩
  obtain ⟨p, hp, e5, e6⟩ := this
  rw [← e5, ← e6]
  exact KOk.is I ⟨hk p (List.mem_of_getElem? hp), h3 p (List.mem_of_getElem? hp)⟩
theorem dn_ok {P : Program} {H' : Hp} {h' : Heap} {a : Addr} {xs : List NX} {us : List NY} (h1 : (a == sysModules) = false) (h3 : ∀ x ∈ xs, x.1.depth ≤ 8) (h2 : xs.length ≤ sizeLine) (r : NXY xs us) (d : h'.DictOfH (nestedKind P X.w) a us) : ObjOk P X.w H' h' a (DN X.w a xs) := by
  obtain ⟨o, es, ep, e1, e2, e3, e4, _, nd⟩ := d
  exact ⟨⟨⟨h1, h3⟩, h2, us, r, ⟨o, es, ep, e1, e2, e3, e4⟩, nd⟩, ⟨o, e1⟩, fun g1 g2 ⟨z1, z2, us, r, ⟨o, es, ep, q1, q⟩, nd⟩ k => ⟨z1, z2, us, r, ⟨o, es, ep, k _ q1, q⟩, nd⟩⟩
abbrev room (X : Cx) : Prop := X.A.units + 9 < cLine
theorem room_in (hu : room X) : (nestedKind X.prog X.w).room X.A.in1 := by
  show X.A.units + 1 + 8 < cLine
  exact hu
/-! ### operations -/
def rNIn (w : World) (neg : Bool) : R2 := fun x y H Q => ∃ a b xs k, x = .ref b ∧ y = .ref a ∧ H a = some (DN w a xs) ∧ AllK H xs ∧ KOk H k b ∧ Q (.bl (if neg then !(lkN xs k).isSome else (lkN xs k).isSome)) H
theorem op_nin (hu : room X) : OpR X (compareOp .In) (rNIn X.w false) := by
  intro pins s σ H x y v u Q I rx ry h
  obtain ⟨a, b, xs, k, rfl, rfl, ha, hk, hb, q⟩ := h
  cases rx
  cases ry
  obtain ⟨h1, h3, h2, us, r, d⟩ := dn_get I ha hk
  refine wpAny_in_heap (room_in hu) (hb.is I) h1 d ?_
  have e := (lk_rel (k := k) r).isSome_eq
  rw [Option.isSome_map] at e
  rw [← e]
  exact ⟨.bl (lkN xs k).isSome, H, I.tok _, rfl, q⟩
theorem op_nnotin (hu : room X) : OpR X (compareOp .NotIn) (rNIn X.w true) := by
  intro pins s σ H x y v u Q I rx ry h
  obtain ⟨a, b, xs, k, rfl, rfl, ha, hk, hb, q⟩ := h
  cases rx
  cases ry
  obtain ⟨h1, h3, h2, us, r, d⟩ := dn_get I ha hk
  refine wpAny_notIn_heap (room_in hu) (hb.is I) h1 d ?_
  have e := (lk_rel (k := k) r).isSome_eq
  rw [Option.isSome_map] at e
  rw [← e]
  exact ⟨.bl (!(lkN xs k).isSome), H, I.tok _, rfl, q⟩
def rNIx (w : World) : R2 := fun x y H Q => ∃ a b xs k v, x = .ref a ∧ y = .ref b ∧ H a = some (DN w a xs) ∧ AllK H xs ∧ NIs H k (.ref b) ∧ lkN xs k = some v ∧ Q v H
theorem get_n (hu : room X) : PGet X (rNIx X.w) := by
  intro pins s σ H x y v u Q I rx ry h
  obtain ⟨a, b, xs, k, z, rfl, rfl, ha, hk, hb, hv, q⟩ := h
  cases rx
  cases ry
  obtain ⟨h1, h3, h2, us, r, d⟩ := dn_get I ha hk
  obtain ⟨w', hw, rw'⟩ := RelO.some_of (v := z) (o := (atKey us k).map (·.2)) (by rw [← hv]; exact lk_rel r)
  obtain ⟨p, hp, hp2⟩ := Option.map_eq_some_iff.mp hw
  have hd8 : k.depth ≤ 8 := by
    unfold lkN at hv
    cases hf : xs.find? fun x => decide (x.1 = k) with
    | none => rw [hf] at hv; cases hv
    | some x =>
      have e1 := List.find?_some hf
      have e2 := h3 x (List.mem_of_find?_eq_some hf)
      rw [of_decide_eq_true e1] at e2
      exact e2
  refine wpAny_getItem_heap (room_in hu) (KOk.is I ⟨hb, hd8⟩) d hp ?_
  rw [hp2]
  exact ⟨z, H, I.tok _, rw', q⟩
theorem ix_n (hu : room X) : IxR X (rNIx X.w) := by
  intro value slice pins s σ H x y v u Q I rx ry h hs
  obtain ⟨a, b, xs, k, z, rfl, rfl, ha, hk, hb, hv, q⟩ := h
  obtain ⟨h1, h3, h2, us, r, d⟩ := dn_get I ha hk
  cases rx
  exact tail_any d.typeIs PySem.F.slot_dict_getitem.lookup (get_n hu pins s σ H (.ref a) (.ref b) (.ref a) u Q I rfl ry ⟨a, b, xs, k, z, rfl, rfl, ha, hk, hb, hv, q⟩) hs
/-- d[y], the keys ints or texts -/
def rKIx : R2 := fun x y H Q => ∃ a kvs k v, x = .ref a ∧ y = kV k ∧ H a = some (.dK kvs) ∧ valV kvs k = some v ∧ Q v H
theorem ix_k (hu : X.A.units + 1 < cLine) : IxR X rKIx := by
  intro value slice pins s σ H x y v u Q I rx ry h hs
  obtain ⟨a, kvs, k, z, rfl, rfl, ha, hv, q⟩ := h
  cases rx
  have g : DGet H a (kV k) (some z) := hv ▸ DGet.k ha
  exact tail_any (dict_typeIs I g) PySem.F.slot_dict_getitem.lookup (d_getItem hu I g ry fun w' s' I' r' => ⟨z, H, I', r', q⟩) hs
def rNSet (w : World) : V → V → V → Hp → (Hp → Prop) → Prop := fun o i v H Q => ∃ a b xs k, o = .ref a ∧ i = .ref b ∧ H a = some (DN w a xs) ∧ AllK H xs ∧ KOk H k b ∧ xs.length < sizeLine ∧ Q (upd H a (DN w a (putN xs k b v)))
theorem set_n (hu : room X) : PSet X (rNSet X.w) := by
  intro pins s σ H o i v ov iv u Q I ro ri rv h
  obtain ⟨a, b, xs, k, rfl, rfl, ha, hk, hb, hl, q⟩ := h
  cases ro
  cases ri
  obtain ⟨h1, h3, h2, us, r, d⟩ := dn_get I ha hk
  refine wpAny_setItem_heap (hsz := by rw [← Paired.length r]; exact h2) (room_in hu) (hb.is I) d fun h' d' hs => ?_
  have he : ∃ q, h'.get? a = some q := let ⟨q, _, _, hq, _⟩ := d'; ⟨q, hq⟩
  exact ⟨_, d_write I (by rw [ha]; exact True.intro) hs he (dn_ok h1 (putN_all h3 hb.2) (by have := putN_len xs k b v; omega) (put_rel rv r) d'), q⟩
/-- {} -/
def tNNew (w : World) : TE := fun _ H Q => ∀ p, H p = none → Q (.ref p) (upd H p (DN w p []))
theorem pe_nnew {pos : Pos} : PE X (.Dict [] [] pos) (tNNew X.w) := ⟨fun pins s σ H Q I h =>
  wpAny_Dict_empty ⟨.ref s.heap.objs.size, _, I.laid (a := s.heap.objs.size) (o := DN X.w s.heap.objs.size []) (t' := s.toks) (fun _ _ q => Heap.get?_push_of_some _ q) (Nat.le_refl _)
    (dn_ok (us := []) (beq_eq_false_iff_ne.mpr (Ne.symm (Nat.ne_of_lt I.big))) (fun _ h => nomatch h) (Nat.zero_le _) .nil (Heap.DictOfH.new s.heap)), rfl, h _ (I.hok.fresh (Nat.le_refl _))⟩⟩
/-- len(d) -/
def rLenN (w : World) : List V → Hp → VK → Prop := fun vs H Q => ∃ a xs, vs = [.ref a] ∧ H a = some (DN w a xs) ∧ AllK H xs ∧ Q (.int (xs.length : Nat)) H
theorem call_lenN : CallR X (.builtin "len") (rLenN X.w) := by
  intro pins s σ H vs us Q I r h
  obtain ⟨a, xs, rfl, ha, hk, q⟩ := h
  obtain ⟨u, rfl, ru⟩ := vals1 r
  cases ru
  obtain ⟨h1, h3, h2, us, r, d⟩ := dn_get I ha hk
  have hm : s.heap.DictKeyed (nestedKind X.prog X.w) a (pairsH us) := ⟨us, d, rfl⟩
  have hl : (pairsH us).length = xs.length := by rw [pairsH_length, Paired.length r]
  refine PyProof.Rows.call_len_slot (n := (pairsH us).length) hm.typeIs F.slot_dict_len (fun Q' hq => len_keyed h1 hm hq) (by omega) (by rw [sizeLine_eq] at h2; omega) ?_
  exact ⟨.int (xs.length : Nat), H, I.tok _, ⟨_, by rw [hl]⟩, q⟩
def rKIn (neg : Bool) : R2 := fun x y H Q => ∃ a kvs k, y = .ref a ∧ x = kV k ∧ H a = some (.dK kvs) ∧ Q (.bl (if neg then !(valV kvs k).isSome else (valV kvs k).isSome)) H
theorem op_kin (hu : X.A.units + 1 < cLine) : OpR X (compareOp .In) (rKIn false) := by
  intro pins s σ H x y v u Q I rx ry h
  obtain ⟨a, kvs, k, rfl, rfl, ha, q⟩ := h
  cases ry
  exact d_in hu I (DGet.k (k := k) ha) rx fun s' I' => ⟨.bl _, H, I', rfl, q⟩
theorem op_knotin (hu : X.A.units + 1 < cLine) : OpR X (compareOp .NotIn) (rKIn true) := by
  intro pins s σ H x y v u Q I rx ry h
  obtain ⟨a, kvs, k, rfl, rfl, ha, q⟩ := h
  cases ry
  exact d_notIn hu I (DGet.k (k := k) ha) rx fun s' I' => ⟨.bl _, H, I', rfl, q⟩
end
end Nd
set_option Elab.async false
set_option linter.all false
set_option maxRecDepth 100000
set_option maxHeartbeats 4000000
/-! Data without addresses: values as trees, worlds, and what a reading means over them. -/
namespace Dt
open PySem PySem.Spec PyProof.Rows L2 Com Nd
inductive D where
  | non | bl (b : Bool) | int (i : Int) | str (s : Str) | tup (ds : List D) | lst (ds : List D) | obj (C : Addr) (ks : List Str) (ds : List D) | flow (a : Addr) | scr (K : PySem.W.Frag) (ns : List Int) | dict0
  /-- a dict: its keys, its values -/
  | dct (w : World) (nk : Bool) (ks : List NestedKey) (ds : List D)
  /-- the very object v, whose data are d -/
  | vry (v : V) (d : D)
mutual
/-- a key as data -/
def dOf : NestedKey → D
  | .none => .non
  | .num i => .int i
  | .text x => .str x
  | .tup ks => .tup (dOfA ks)
def dOfA : List NestedKey → List D
  | [] => []
  | k :: ks => dOf k :: dOfA ks
end
def nkK : Key → NestedKey
  | .inl i => .num i
  | .inr x => .text x
/-- what stays as it is; what draws change -/
structure Wd where
  F : Hp
  G : Addr → Prop
mutual
inductive Vd (W : Wd) : V → D → Prop
  | non : Vd W .non .non
  | bl (b : Bool) : Vd W (.bl b) (.bl b)
  | int (i : Int) : Vd W (.int i) (.int i)
  | str (s : Str) : Vd W (.str s) (.str s)
  | tup {a : Addr} {vs : List V} {ds : List D} : W.F a = some (.tup vs) → VdA W vs ds → Vd W (.ref a) (.tup ds)
  | lst {a : Addr} {vs : List V} {ds : List D} : W.F a = some (.lst vs) → VdA W vs ds → Vd W (.ref a) (.lst ds)
  | obj {a C dx : Addr} {ks : List Str} {vs : List V} {ds : List D} : W.F a = some (.ins C dx (ks.zip vs)) → ks.length = vs.length → VdA W vs ds → Vd W (.ref a) (.obj C ks ds)
  | flow {a : Addr} : W.G a → Vd W (.ref a) (.flow a)
  | scr {a : Addr} {K : PySem.W.Frag} {ns : List Int} : (∀ H : Hp, (∀ b o, W.F b = some o → H b = some o) → SqL K H a (ns.map V.int)) → Vd W (.ref a) (.scr K ns)
  | dict0 {a : Addr} : W.F a = some (.dK []) → Vd W (.ref a) .dict0
  | dctN {a : Addr} {w : World} {xs : List NX} {ks : List NestedKey} {ds : List D} : W.F a = some (DN w a xs) → xs.map (·.1) = ks → VdA W (xs.map fun x => .ref x.2.1) (dOfA ks) → VdA W (xs.map (·.2.2)) ds → Vd W (.ref a) (.dct w true ks ds)
  | dctK {a : Addr} {w : World} {xs : List (Key × V)} {ks : List NestedKey} {ds : List D} : W.F a = some (.dK xs) → xs.map (fun x => nkK x.1) = ks → VdA W (xs.map (·.2)) ds → Vd W (.ref a) (.dct w false ks ds)
  | vry {v : V} {d : D} : Vd W v d → Vd W v (.vry v d)
inductive VdA (W : Wd) : List V → List D → Prop
  | nil : VdA W [] []
  | cons {v : V} {vs : List V} {d : D} {ds : List D} : Vd W v d → VdA W vs ds → VdA W (v :: vs) (d :: ds)
end
/-- the world grows -/
structure Le (W W' : Wd) : Prop where
  f : ∀ b o, W.F b = some o → W'.F b = some o
  g : ∀ a, W.G a → W'.G a
theorem Le.refl (W : Wd) : Le W W := ⟨fun _ _ h => h, fun _ h => h⟩
theorem Le.trans {W W1 W2 : Wd} (a : Le W W1) (b : Le W1 W2) : Le W W2 := ⟨fun x o h => b.f x o (a.f x o h), fun x h => b.g x (a.g x h)⟩
mutual
theorem Vd.mono {W W' : Wd} (l : Le W W') : ∀ {v : V} {d : D}, Vd W v d → Vd W' v d
  | _, _, .non => .non
  | _, _, .bl b => .bl b
  | _, _, .int i => .int i
  | _, _, .str s => .str s
  | _, _, .tup h t => .tup (l.f _ _ h) (VdA.mono l t)
  | _, _, .lst h t => .lst (l.f _ _ h) (VdA.mono l t)
  | _, _, .obj h e t => .obj (l.f _ _ h) e (VdA.mono l t)
  | _, _, .flow h => .flow (l.g _ h)
  | _, _, .scr h => .scr fun H e => h H fun b o e1 => e b o (l.f b o e1)
  | _, _, .dict0 h => .dict0 (l.f _ _ h)
  | _, _, .dctN h e t1 t2 => .dctN (l.f _ _ h) e (VdA.mono l t1) (VdA.mono l t2)
  | _, _, .dctK h e t => .dctK (l.f _ _ h) e (VdA.mono l t)
  | _, _, .vry h => .vry (Vd.mono l h)
theorem VdA.mono {W W' : Wd} (l : Le W W') : ∀ {vs : List V} {ds : List D}, VdA W vs ds → VdA W' vs ds
  | _, _, .nil => .nil
  | _, _, .cons h t => .cons (Vd.mono l h) (VdA.mono l t)
end
section
variable {W W1 W2 : Wd} {v : V} {vs us : List V} {d : D} {ds es : List D}
theorem VdA.length : ∀ {vs : List V} {ds : List D}, VdA W vs ds → vs.length = ds.length
  | _, _, .nil => rfl
  | _, _, .cons _ t => by rw [List.length_cons, List.length_cons, VdA.length t]
theorem VdA.append : ∀ {vs : List V} {ds : List D}, VdA W vs ds → VdA W us es → VdA W (vs ++ us) (ds ++ es)
  | _, _, .nil, h => h
  | _, _, .cons h t, g => .cons h (VdA.append t g)
theorem VdA.one (h : Vd W v d) : VdA W [v] [d] := .cons h .nil
theorem VdA.get : ∀ {vs : List V} {ds : List D} {i : Nat} {v : V}, VdA W vs ds → vs[i]? = some v → ∃ d, ds[i]? = some d ∧ Vd W v d
  | _, _, 0, _, .cons h t, e => by
    rw [List.getElem?_cons_zero] at e
    cases e
    exact ⟨_, rfl, h⟩
  | _, _, n + 1, _, .cons h t, e => by
    rw [List.getElem?_cons_succ] at e
    rw [List.getElem?_cons_succ]
    exact VdA.get t e
theorem VdA.get' : ∀ {vs : List V} {ds : List D} {i : Nat} {d : D}, VdA W vs ds → ds[i]? = some d → ∃ v, vs[i]? = some v ∧ Vd W v d
  | _, _, 0, _, .cons h t, e => by
    rw [List.getElem?_cons_zero] at e
    cases e
    exact ⟨_, rfl, h⟩
  | _, _, n + 1, _, .cons h t, e => by
    rw [List.getElem?_cons_succ] at e
    rw [List.getElem?_cons_succ]
    exact VdA.get' t e
theorem VdA.take : ∀ {vs : List V} {ds : List D} (n : Nat), VdA W vs ds → VdA W (vs.take n) (ds.take n)
  | _, _, 0, _ => by rw [List.take_zero, List.take_zero]; exact .nil
  | _, _, _ + 1, .nil => .nil
  | _, _, n + 1, .cons h t => .cons h (VdA.take n t)
theorem VdA.drop : ∀ {vs : List V} {ds : List D} (n : Nat), VdA W vs ds → VdA W (vs.drop n) (ds.drop n)
  | _, _, 0, h => h
  | _, _, _ + 1, .nil => .nil
  | _, _, n + 1, .cons h t => VdA.drop n t
theorem VdA.set : ∀ {vs : List V} {ds : List D} (n : Nat), Vd W v d → VdA W vs ds → VdA W (vs.set n v) (ds.set n d)
  | _, _, _, _, .nil => .nil
  | _, _, 0, h, .cons _ t => .cons h t
  | _, _, n + 1, h, .cons g t => .cons g (VdA.set n h t)
theorem VdA.ints : ∀ {ns : List Int}, VdA W (ns.map V.int) (ns.map D.int)
  | [] => .nil
  | n :: ns => .cons (.int n) VdA.ints
theorem VdA.of_ints : ∀ {vs : List V} {ns : List Int}, VdA W vs (ns.map D.int) → vs = ns.map V.int
  | _, [], h => by
    cases h
    rfl
  | _, n :: ns, h => by
    cases h with
    | cons h t =>
      cases h
      rw [VdA.of_ints t]
      rfl
theorem VdA.of_bls : ∀ {vs : List V} {ns : List Bool}, VdA W vs (ns.map D.bl) → vs = ns.map V.bl
  | _, [], h => by
    cases h
    rfl
  | _, n :: ns, h => by
    cases h with
    | cons h t =>
      cases h
      rw [VdA.of_bls t]
      rfl
theorem VdA.of_strs : ∀ {vs : List V} {ns : List Str}, VdA W vs (ns.map D.str) → vs = ns.map V.str
  | _, [], h => by
    cases h
    rfl
  | _, n :: ns, h => by
    cases h with
    | cons h t =>
      cases h
      rw [VdA.of_strs t]
      rfl
theorem VdA.rev : ∀ {vs : List V} {ds : List D}, VdA W vs ds → VdA W vs.reverse ds.reverse
  | _, _, .nil => .nil
  | _, _, .cons h t => by
    rw [List.reverse_cons, List.reverse_cons]
    exact (VdA.rev t).append (.one h)
end
/-! ### the heap holds the world -/
structure Ok (W : Wd) (H : Hp) : Prop where
  f : ∀ b o, W.F b = some o → H b = some o
  g : ∀ a, W.G a → W.F a = none ∧ FlowAt H a
structure Go (W : Wd) (H : Hp) (W' : Wd) (H' : Hp) : Prop where
  le : Le W W'
  gn : ∀ a, W'.G a → W.G a ∨ H a = none
  fn : ∀ a o, W'.F a = some o → W.F a = some o ∨ H a = none ∨ ∃ xs, H a = some (.tup xs)
  p : ∀ b o, H b = some o → ¬ W.G b → H' b = some o
  ok : Ok W' H'
section
variable {W W1 W2 W' : Wd} {H H1 H2 H' : Hp} {a : Addr} {o : HO}
theorem Go.refl (k : Ok W H) : Go W H W H := ⟨.refl W, fun _ h => .inl h, fun _ _ h => .inl h, fun _ _ h _ => h, k⟩
theorem Go.gone (k : Ok W H) (g : Go W H W' H') (h : H' a = none) : H a = none := by
  cases e : H a with
  | none => rfl
  | some o =>
    by_cases hg : W.G a
    · obtain ⟨_, n, c, r, e1⟩ := g.ok.g a (g.le.g a hg)
      rw [h] at e1
      cases e1
    · rw [g.p a o e hg] at h
      cases h
theorem Go.trans (k : Ok W H) (g : Go W H W1 H1) (g2 : Go W1 H1 W2 H2) : Go W H W2 H2 where
  le := g.le.trans g2.le
  gn := fun a h => (g2.gn a h).elim (g.gn a) fun e => .inr (g.gone k e)
  fn := fun a o h => by
    rcases g2.fn a o h with h | h | ⟨xs, h⟩
    · exact g.fn a o h
    · exact .inr (.inl (g.gone k h))
    · cases e : H a with
      | none => exact .inr (.inl rfl)
      | some u =>
        by_cases hg : W.G a
        · obtain ⟨_, n, c, r, e1⟩ := g.ok.g a (g.le.g a hg)
          rw [h] at e1
          cases e1
        · have := g.p a u e hg
          rw [h] at this
          cases this
          exact .inr (.inr ⟨xs, rfl⟩)
  p := fun b o e n => g2.p b o (g.p b o e n) fun h => by
    rcases g.gn b h with h | h
    · exact n h
    · rw [e] at h
      cases h
  ok := g2.ok
theorem Ok.fg (k : Ok W H) (h : W.F a = some o) : ¬ W.G a := fun g => by rw [(k.g a g).1] at h; cases h
/-- a new frozen object -/
def Wd.put (W : Wd) (a : Addr) (o : HO) : Wd := ⟨upd W.F a o, W.G⟩
theorem Ok.no (k : Ok W H) (h : H a = none) : W.F a = none ∧ ¬ W.G a := by
  refine ⟨?_, fun g => ?_⟩
  · cases e : W.F a with
    | none => rfl
    | some o =>
      rw [k.f a o e] at h
      cases h
  · obtain ⟨_, n, c, r, e1⟩ := k.g a g
    rw [h] at e1
    cases e1
theorem Go.putS (k : Ok W H) (sm : Same H H') (e : H' a = some o) (c : H a = none ∨ ∃ xs, o = .tup xs) : Go W H (W.put a o) H' := by
  have ng : ¬ W.G a := fun g => by
    obtain ⟨_, n, x, r, e1⟩ := k.g a g
    rcases c with c | ⟨xs, c⟩
    · rw [c] at e1
      cases e1
    · rw [sm _ _ e1] at e
      subst c
      cases e
  have ha : ∀ u, H a = some u → u = o := fun u q => by
    have := sm _ _ q
    rw [e] at this
    exact (Option.some.inj this).symm
  have fa : ∀ u, W.F a = some u → u = o := fun u q => ha u (k.f a u q)
  refine ⟨⟨fun b u e1 => ?_, fun _ h => h⟩, fun _ h => .inl h, fun b u e1 => ?_, fun b u e1 _ => sm b u e1, ⟨fun b u e1 => ?_, fun b g => ?_⟩⟩
  · show upd W.F a o b = _
    by_cases z : b = a
    · subst z
      rw [upd_same, fa u e1]
    · rw [upd_ne z]
      exact e1
  · have e1 : upd W.F a o b = some u := e1
    by_cases z : b = a
    · subst z
      refine .inr ?_
      cases q : H b with
      | none => exact .inl rfl
      | some w =>
        have := ha w q
        subst this
        rcases c with c | ⟨xs, c⟩
        · rw [c] at q
          cases q
        · exact .inr ⟨xs, by rw [c]⟩
    · rw [upd_ne z] at e1
      exact .inl e1
  · have e1 : upd W.F a o b = some u := e1
    by_cases z : b = a
    · subst z
      rw [upd_same] at e1
      rw [e, e1]
    · rw [upd_ne z] at e1
      exact sm _ _ (k.f b u e1)
  · have nb : b ≠ a := fun z => ng (z ▸ g)
    refine ⟨?_, ?_⟩
    · show upd W.F a o b = none
      rw [upd_ne nb]
      exact (k.g b g).1
    · obtain ⟨_, n, x, r, e1⟩ := k.g b g
      exact ⟨n, x, r, sm _ _ e1⟩
theorem Go.put (k : Ok W H) (h : H a = none) : Go W H (W.put a o) (upd H a o) := Go.putS k (Com.Same.upd h) upd_same (.inl h)
/-- a new object of one's own: not in the world -/
theorem Go.own (k : Ok W H) (h : H a = none) : Go W H W (upd H a o) where
  le := .refl W
  gn := fun _ h => .inl h
  fn := fun _ _ h => .inl h
  p := fun b u e _ => by rw [upd_ne (ne_of_none e h)]; exact e
  ok := ⟨fun b u e => by rw [upd_ne (ne_of_none (k.f b u e) h)]; exact k.f b u e, fun b g => by
    have nb : b ≠ a := fun z => (k.no h).2 (z ▸ g)
    obtain ⟨e0, n, c, r, e1⟩ := k.g b g
    exact ⟨e0, n, c, r, by rw [upd_ne nb]; exact e1⟩⟩
/-- it changes: seen from a heap where it was not yet -/
theorem Go.mut (g : Go W H W1 H1) (h : H a = none) (f : W1.F a = none) (n : ¬ W1.G a) : Go W H W1 (upd H1 a o) where
  le := g.le
  gn := g.gn
  fn := g.fn
  p := fun b u e m => by rw [upd_ne (ne_of_none e h)]; exact g.p b u e m
  ok := ⟨fun b u e => by rw [upd_ne (ne_of_none e f)]; exact g.ok.f b u e, fun b gb => by
    have nb : b ≠ a := fun z => n (z ▸ gb)
    obtain ⟨e0, x, c, r, e1⟩ := g.ok.g b gb
    exact ⟨e0, x, c, r, by rw [upd_ne nb]; exact e1⟩⟩
/-- it is frozen -/
theorem Go.freeze (g : Go W H W1 H1) (h : H a = none) (f : W1.F a = none) (n : ¬ W1.G a) (e : H1 a = some o) : Go W H (W1.put a o) H1 ∧ Le W1 (W1.put a o) := by
  have l : Le W1 (W1.put a o) := ⟨fun b u e => by
    show upd W1.F a o b = _
    rw [upd_ne (ne_of_none e f)]
    exact e, fun _ h => h⟩
  refine ⟨⟨g.le.trans l, g.gn, fun b u e2 => ?_, g.p, ⟨fun b u e2 => ?_, fun b gb => ⟨?_, (g.ok.g b gb).2⟩⟩⟩, l⟩
  · by_cases z : b = a
    · rw [z]
      exact .inr (.inl h)
    · have e2 : upd W1.F a o b = some u := e2
      rw [upd_ne z] at e2
      exact g.fn b u e2
  · by_cases z : b = a
    · subst z
      have e2 : upd W1.F b o b = some u := e2
      rw [upd_same] at e2
      rw [e]
      exact e2
    · have e2 : upd W1.F a o b = some u := e2
      rw [upd_ne z] at e2
      exact g.ok.f b u e2
  · show upd W1.F a o b = none
    have gb : W1.G b := gb
    rw [upd_ne (fun z : b = a => n (by rw [← z]; exact gb))]
    exact (g.ok.g b gb).1
theorem Go.same (k : Ok W H) (s : Same H H1) : Go W H W H1 := ⟨.refl W, fun _ h => .inl h, fun _ _ h => .inl h, fun b o e _ => s b o e, ⟨fun b o e => s b o (k.f b o e), fun a g => ⟨(k.g a g).1, let ⟨_, n, c, r, e⟩ := k.g a g; ⟨n, c, r, s _ _ e⟩⟩⟩⟩
end
/-! ### slots -/
inductive En where
  | d (x : D)
  /-- a list of one's own: it may change -/
  | own (ds : List D)
abbrev Ev := List (Option En)
def SlotV (W : Wd) (H0 H : Hp) (v : V) : En → Prop
  | .d x => Vd W v x
  | .own ds => ∃ a vs, v = .ref a ∧ H a = some (.lst vs) ∧ VdA W vs ds ∧ W.F a = none ∧ ¬ W.G a ∧ H0 a = none
structure Rep (W : Wd) (H0 H : Hp) (σ : L2.St) (ρ : Ev) : Prop where
  ok : Ok W H
  len : σ.length = ρ.length
  at_ : ∀ (i : Nat) (e : En), ρ[i]? = some (some e) → ∃ v, σ[i]? = some (some v) ∧ SlotV W H0 H v e
  sep : ∀ (i j : Nat) (ds es : List D) (v : V), ρ[i]? = some (some (.own ds)) → ρ[j]? = some (some (.own es)) → σ[i]? = some (some v) → σ[j]? = some (some v) → i = j
section
variable {W W' W1 : Wd} {H H0 H' H1 : Hp} {σ σ' : L2.St} {ρ ρ' : Ev} {i : Nat} {v : V} {d : D} {ds : List D} {a : Addr}
theorem SlotV.go (k : Ok W H) (g : Go W H W' H') {e : En} (h : SlotV W H0 H v e) : SlotV W' H0 H' v e := by
  cases e with
  | d x => exact Vd.mono g.le h
  | own ds =>
    obtain ⟨a, vs, e, e1, t, f, n, z⟩ := h
    refine ⟨a, vs, e, g.p a _ e1 n, VdA.mono g.le t, ?_, fun q => ?_, z⟩
    · cases q : W'.F a with
      | none => rfl
      | some o =>
        rcases g.fn a o q with h | h | ⟨xs, h⟩
        · rw [f] at h; cases h
        · rw [e1] at h; cases h
        · rw [e1] at h; cases h
    · rcases g.gn a q with h | h
      · exact n h
      · rw [e1] at h; cases h
theorem Rep.go (R : Rep W H0 H σ ρ) (g : Go W H W' H') : Rep W' H0 H' σ ρ := ⟨g.ok, R.len, fun i e h => let ⟨v, e1, s⟩ := R.at_ i e h; ⟨v, e1, s.go R.ok g⟩, R.sep⟩
theorem Rep.var (R : Rep W H0 H σ ρ) (h : ρ[i]? = some (some (.d d))) : ∃ v, σ[i]? = some (some v) ∧ Vd W v d := R.at_ i _ h
theorem getset {α : Type} {l : List α} {i j : Nat} {x y : α} (h : (l.set i x)[j]? = some y) : (j = i ∧ y = x ∧ i < l.length) ∨ (j ≠ i ∧ l[j]? = some y) := by
  by_cases e : i = j
  · subst e
    rw [List.getElem?_set_self'] at h
    cases q : l[i]? with
    | none => rw [q] at h; cases h
    | some z =>
      rw [q] at h
      cases h
      exact .inl ⟨rfl, rfl, (List.getElem?_eq_some_iff.mp q).1⟩
  · rw [List.getElem?_set_ne e] at h
    exact .inr ⟨fun z => e z.symm, h⟩
theorem Rep.set (R : Rep W H0 H σ ρ) (h : Vd W v d) : Rep W H0 H (σ.set i (some v)) (ρ.set i (some (.d d))) where
  ok := R.ok
  len := by rw [List.length_set, List.length_set, R.len]
  at_ := fun j e q => by
    rcases getset q with ⟨rfl, e1, l⟩ | ⟨n, q⟩
    · cases e1
      exact ⟨v, List.getElem?_set_self (by rw [R.len]; exact l), h⟩
    · obtain ⟨u, e1, s⟩ := R.at_ j e q
      exact ⟨u, by rw [List.getElem?_set_ne (fun z => n z.symm)]; exact e1, s⟩
  sep := fun j k xs ys u q1 q2 q3 q4 => by
    rcases getset q1 with ⟨_, e1, _⟩ | ⟨n1, q1⟩
    · cases e1
    rcases getset q2 with ⟨_, e1, _⟩ | ⟨n2, q2⟩
    · cases e1
    rw [List.getElem?_set_ne (fun z => n1 z.symm)] at q3
    rw [List.getElem?_set_ne (fun z => n2 z.symm)] at q4
    exact R.sep j k xs ys u q1 q2 q3 q4
theorem Rep.wipe1 (R : Rep W H0 H σ ρ) : Rep W H0 H (σ.set i none) (ρ.set i none) where
  ok := R.ok
  len := by rw [List.length_set, List.length_set, R.len]
  at_ := fun j e q => by
    rcases getset q with ⟨_, e1, _⟩ | ⟨n, q⟩
    · cases e1
    · obtain ⟨u, e1, s⟩ := R.at_ j e q
      exact ⟨u, by rw [List.getElem?_set_ne (fun z => n z.symm)]; exact e1, s⟩
  sep := fun j k xs ys u q1 q2 q3 q4 => by
    rcases getset q1 with ⟨_, e1, _⟩ | ⟨n1, q1⟩
    · cases e1
    rcases getset q2 with ⟨_, e1, _⟩ | ⟨n2, q2⟩
    · cases e1
    rw [List.getElem?_set_ne (fun z => n1 z.symm)] at q3
    rw [List.getElem?_set_ne (fun z => n2 z.symm)] at q4
    exact R.sep j k xs ys u q1 q2 q3 q4
def wipeD (ρ : Ev) : List Nat → Ev
  | [] => ρ
  | v :: vs => (wipeD ρ vs).set v none
theorem Rep.wipe (R : Rep W H0 H σ ρ) : ∀ vs : List Nat, Rep W H0 H (L2.wipe σ vs) (wipeD ρ vs)
  | [] => R
  | v :: vs => by
    unfold L2.wipe wipeD
    exact (Rep.wipe R vs).wipe1
/-- a slot gets a new list of one's own -/
theorem Rep.setOwn {vs : List V} (R : Rep W H0 H σ ρ) (h : H a = none) (z : H0 a = none) (t : VdA W vs ds) : Rep W H0 (upd H a (.lst vs)) (σ.set i (some (.ref a))) (ρ.set i (some (.own ds))) := by
  have g := Go.own (o := .lst vs) R.ok h
  have R1 := R.go g
  have noa : ∀ (j : Nat) (xs : List D) (u : V), ρ[j]? = some (some (.own xs)) → σ[j]? = some (some u) → u ≠ .ref a := fun j xs u q q2 e => by
    obtain ⟨w, e1, b, ws, e2, e3, _⟩ := R.at_ j _ q
    rw [q2] at e1
    cases e1
    subst e
    cases e2
    rw [h] at e3
    cases e3
  refine ⟨R1.ok, by rw [List.length_set, List.length_set, R.len], fun j e q => ?_, fun j k xs ys u q1 q2 q3 q4 => ?_⟩
  · rcases getset q with ⟨rfl, e1, l⟩ | ⟨n, q⟩
    · cases e1
      exact ⟨_, List.getElem?_set_self (by rw [R.len]; exact l), a, vs, rfl, upd_same, t, (R.ok.no h).1, (R.ok.no h).2, z⟩
    · obtain ⟨u, e1, s⟩ := R1.at_ j e q
      exact ⟨u, by rw [List.getElem?_set_ne (fun z => n z.symm)]; exact e1, s⟩
  · rcases getset q1 with ⟨e1, _, l1⟩ | ⟨n1, q1'⟩
    · rcases getset q2 with ⟨e2, _, _⟩ | ⟨n2, q2'⟩
      · rw [e1, e2]
      · rw [e1, List.getElem?_set_self (by rw [R.len]; exact l1)] at q3
        rw [List.getElem?_set_ne (fun z => n2 z.symm)] at q4
        cases q3
        exact absurd rfl (noa k _ _ q2' q4)
    · rw [List.getElem?_set_ne (fun z => n1 z.symm)] at q3
      rcases getset q2 with ⟨e2, _, l2⟩ | ⟨n2, q2'⟩
      · rw [e2, List.getElem?_set_self (by rw [R.len]; exact l2)] at q4
        cases q4
        exact absurd rfl (noa j _ _ q1' q3)
      · rw [List.getElem?_set_ne (fun z => n2 z.symm)] at q4
        exact R.sep j k xs ys u q1' q2' q3 q4
/-- a list of one's own changes -/
theorem Rep.mutOwn {es : List D} {us : List V} (R : Rep W H0 H σ ρ) (q : ρ[i]? = some (some (.own ds))) (qs : σ[i]? = some (some (.ref a))) (t : VdA W us es) : Rep W H0 (upd H a (.lst us)) σ (ρ.set i (some (.own es))) ∧ W.F a = none ∧ ¬ W.G a ∧ H0 a = none := by
  obtain ⟨v, e1, b, vs, e2, e3, t0, f, n, z⟩ := R.at_ i _ q
  rw [qs] at e1
  cases e1
  cases e2
  refine ⟨⟨⟨fun b u e => ?_, fun b gb => ?_⟩, by rw [List.length_set, R.len], fun j e h => ?_, fun j k xs ys u q1 q2 q3 q4 => ?_⟩, f, n, z⟩
  · rw [upd_ne (ne_of_none e f)]
    exact R.ok.f b u e
  · have nb : b ≠ a := fun z => n (z ▸ gb)
    obtain ⟨e0, x, c, r, e1⟩ := R.ok.g b gb
    exact ⟨e0, x, c, r, by rw [upd_ne nb]; exact e1⟩
  · rcases getset h with ⟨rfl, e1, l⟩ | ⟨nj, h⟩
    · cases e1
      exact ⟨_, qs, a, us, rfl, upd_same, t, f, n, z⟩
    · obtain ⟨u, e1, s⟩ := R.at_ j e h
      refine ⟨u, e1, ?_⟩
      cases e with
      | d x => exact s
      | own xs =>
        obtain ⟨b, ws, e2, e3, r1, r2, r3, r4⟩ := s
        refine ⟨b, ws, e2, ?_, r1, r2, r3, r4⟩
        rw [upd_ne (fun z => nj (R.sep j i xs ds u h q e1 (by rw [e2, z]; exact qs)))]
        exact e3
  · have f1 : ∀ (j : Nat) (xs : List D), (ρ.set i (some (.own es)))[j]? = some (some (.own xs)) → ∃ zs : List D, ρ[j]? = some (some (.own zs)) := fun j xs h => by
      rcases getset h with ⟨rfl, e1, l⟩ | ⟨nj, h⟩
      · exact ⟨_, q⟩
      · exact ⟨_, h⟩
    obtain ⟨zs, h1⟩ := f1 j xs q1
    obtain ⟨ws, h2⟩ := f1 k ys q2
    exact R.sep j k zs ws u h1 h2 q3 q4
end
/-- no list of one's own among the slots -/
def NoOwn (ρ : Ev) : Prop := ∀ (i : Nat) (ds : List D), ρ[i]? ≠ some (some (.own ds))
def plain1 : Option En → Option En
  | some (.own _) => none
  | x => x
def plain (ρ : Ev) : Ev := ρ.map plain1
theorem plain_at {ρ : Ev} {i : Nat} {e : En} (h : (plain ρ)[i]? = some (some e)) : ρ[i]? = some (some e) ∧ ∃ d, e = .d d := by
  unfold plain at h
  rw [List.getElem?_map] at h
  cases q : ρ[i]? with
  | none => rw [q] at h; cases h
  | some o =>
    rw [q] at h
    cases o with
    | none => cases h
    | some u =>
      cases u with
      | own ds => cases h
      | d x =>
        cases h
        exact ⟨rfl, x, rfl⟩
theorem plain_no (ρ : Ev) : NoOwn (plain ρ) := fun i ds h => by
  obtain ⟨_, d, e⟩ := plain_at h
  cases e
theorem NoOwn.set {ρ : Ev} {i : Nat} {d : D} (h : NoOwn ρ) : NoOwn (ρ.set i (some (.d d))) := fun j ds q => by
  rcases getset q with ⟨_, e, _⟩ | ⟨_, q⟩
  · cases e
  · exact h j ds q
theorem NoOwn.wipe {ρ : Ev} (h : NoOwn ρ) : ∀ vs : List Nat, NoOwn (wipeD ρ vs)
  | [] => h
  | v :: vs => fun j ds q => by
    unfold wipeD at q
    rcases getset q with ⟨_, e, _⟩ | ⟨_, q⟩
    · cases e
    · exact NoOwn.wipe h vs j ds q
theorem Rep.plain {W : Wd} {H0 H : Hp} {σ : L2.St} {ρ : Ev} (R : Rep W H0 H σ ρ) : Rep W H0 H σ (plain ρ) :=
  ⟨R.ok, by unfold Dt.plain; rw [List.length_map, R.len], fun i e h => R.at_ i e (plain_at h).1, fun i j ds es v h => absurd h (plain_no ρ i ds)⟩
theorem Rep.free {W W' : Wd} {H0 H H' : Hp} {σ : L2.St} {ρ : Ev} (R : Rep W H0 H σ ρ) (n : NoOwn ρ) (l : Le W W') (k : Ok W' H') : Rep W' H0 H' σ ρ :=
  ⟨k, R.len, fun i e h => by
    cases e with
    | own ds => exact absurd h (n i ds)
    | d x =>
      obtain ⟨v, e1, hv⟩ := R.at_ i _ h
      exact ⟨v, e1, Vd.mono l hv⟩, fun i j ds es v h => absurd h (n i ds)⟩
end Dt
set_option Elab.async false
set_option linter.all false
set_option maxRecDepth 100000
set_option maxHeartbeats 4000000
/-! What a reading means over data: expressions. -/
namespace Dt
open PySem PySem.Spec PyProof.Rows L2 Com
abbrev KD := D → Prop
abbrev XD := Addr → Str → D → Prop
abbrev ME := Ev → KD → XD → Prop
abbrev MT := Ev → (Bool → Prop) → XD → Prop
abbrev MA := Ev → (List D → Prop) → XD → Prop
abbrev MO := Ev → (Option Int → Prop) → XD → Prop
abbrev SpD := List D → KD → XD → Prop
def Kv (W : Wd) (H : Hp) (Q : VK) (q : KD) : Prop := ∀ W' v d H', Go W H W' H' → Vd W' v d → q d → Q v H'
def Ka (n : Nat) (W : Wd) (H : Hp) (Q : List V → Hp → Prop) (q : List D → Prop) : Prop := ∀ W' vs ds H', Go W H W' H' → VdA W' vs ds → ds.length = n → q ds → Q vs H'
def Kb {α : Type} (W : Wd) (H : Hp) (Q : α → Hp → Prop) (q : α → Prop) : Prop := ∀ W' b H', Go W H W' H' → q b → Q b H'
def Kx (W : Wd) (H : Hp) (E : XK) (e : XD) : Prop := ∀ W' H' C dx f v d, Go W H W' H' → H' dx = some (.xd [(f, v)]) → Vd W' v d → e C f d → E (.ref C) (some dx) H'
section
variable {W W1 : Wd} {H H1 : Hp} {Q : VK} {q : KD} {E : XK} {e : XD}
theorem Kv.go (k : Ok W H) (h : Kv W H Q q) (g : Go W H W1 H1) : Kv W1 H1 Q q := fun W' v d H' g1 => h W' v d H' (g.trans k g1)
theorem Ka.go {n : Nat} {Q : List V → Hp → Prop} {q : List D → Prop} (k : Ok W H) (h : Ka n W H Q q) (g : Go W H W1 H1) : Ka n W1 H1 Q q := fun W' v d H' g1 => h W' v d H' (g.trans k g1)
theorem Kb.go {α : Type} {Q : α → Hp → Prop} {q : α → Prop} (k : Ok W H) (h : Kb W H Q q) (g : Go W H W1 H1) : Kb W1 H1 Q q := fun W' b H' g1 => h W' b H' (g.trans k g1)
theorem Kx.go (k : Ok W H) (h : Kx W H E e) (g : Go W H W1 H1) : Kx W1 H1 E e := fun W' H' C dx f v d g1 => h W' H' C dx f v d (g.trans k g1)
end
def SimE (E : XK) (te : TE) (m : ME) : Prop := ∀ W H0 H σ ρ Q q e, Rep W H0 H σ ρ → m ρ q e → Kv W H Q q → Kx W H E e → te σ H Q
def SimT (E : XK) (tt : TT) (m : MT) : Prop := ∀ W H0 H σ ρ Q q e, Rep W H0 H σ ρ → m ρ q e → Kb W H Q q → Kx W H E e → tt σ H Q
def SimA (E : XK) (n : Nat) (ta : TA) (m : MA) : Prop := ∀ W H0 H σ ρ Q q e, Rep W H0 H σ ρ → m ρ q e → Ka n W H Q q → Kx W H E e → ta σ H Q
def SimO (E : XK) (to : TO) (m : MO) : Prop := ∀ W H0 H σ ρ Q q e, Rep W H0 H σ ρ → m ρ q e → Kb W H Q q → Kx W H E e → to σ H Q
def SimR (r : R2) (f : D → D → KD → Prop) : Prop := ∀ W H x y dx dy Q q, Ok W H → Vd W x dx → Vd W y dy → f dx dy q → Kv W H Q q → r x y H Q
def SimU (r : V → Hp → VK → Prop) (f : D → KD → Prop) : Prop := ∀ W H x dx Q q, Ok W H → Vd W x dx → f dx q → Kv W H Q q → r x H Q
def SimC (r : List V → Hp → VK → Prop) (f : List D → KD → Prop) : Prop := ∀ W H xs ds Q q, Ok W H → VdA W xs ds → f ds q → Kv W H Q q → r xs H Q
/-! ### the forms -/
abbrev mVar (i : Nat) : ME := fun ρ q _ => ∃ d, ρ[i]? = some (some (.d d)) ∧ q d
abbrev mC (d : D) : ME := fun _ q _ => q d
abbrev mOp (f : D → D → KD → Prop) (a b : ME) : ME := fun ρ q e => a ρ (fun x => b ρ (fun y => f x y q) e) e
abbrev mUn (f : D → KD → Prop) (a : ME) : ME := fun ρ q e => a ρ (fun x => f x q) e
abbrev mNil : MA := fun _ q _ => q []
abbrev mCons (a : ME) (r : MA) : MA := fun ρ q e => a ρ (fun x => r ρ (fun xs => q (x :: xs)) e) e
abbrev mTup (a : MA) : ME := fun ρ q e => a ρ (fun ds => ds.length ≤ sizeLine ∧ q (.tup ds)) e
abbrev mLst (a : MA) : ME := fun ρ q e => a ρ (fun ds => ds.length ≤ sizeLine ∧ q (.lst ds)) e
abbrev mCB (f : List D → KD → Prop) (a : MA) : ME := fun ρ q e => a ρ (fun ds => f ds q) e
abbrev mBoo (a : ME) : MT := fun ρ q e => a ρ (fun x => ∃ c, x = .bl c ∧ q c) e
abbrev mAnd (a b : MT) : MT := fun ρ q e => a ρ (fun c => if c = true then b ρ q e else q false) e
abbrev mOr (a b : MT) : MT := fun ρ q e => a ρ (fun c => if c = true then q true else b ρ q e) e
abbrev mNot (a : MT) : MT := fun ρ q e => a ρ (fun c => q (!c)) e
abbrev mAndV (a b : ME) : ME := fun ρ q e => a ρ (fun x => ∃ c, x = .bl c ∧ if c = true then b ρ q e else q (.bl false)) e
abbrev mOrV (a b : ME) : ME := fun ρ q e => a ρ (fun x => ∃ c, x = .bl c ∧ if c = true then q (.bl true) else b ρ q e) e
abbrev mNotV (a : ME) : ME := fun ρ q e => a ρ (fun x => ∃ c, x = .bl c ∧ q (.bl (!c))) e
abbrev mIf (t : MT) (a b : ME) : ME := fun ρ q e => t ρ (fun c => if c = true then a ρ q e else b ρ q e) e
abbrev mDef (sp : SpD) (a : MA) : ME := fun ρ q e => a ρ (fun ds => sp ds q e) e
abbrev mDefK (sp : SpD) (a k : MA) : ME := fun ρ q e => a ρ (fun ds => k ρ (fun es => sp (ds ++ es) q e) e) e
abbrev mNoP : MO := fun _ q _ => q none
abbrev mPart (a : ME) : MO := fun ρ q e => a ρ (fun x => ∃ i, x = .int i ∧ q (some i)) e
abbrev mSl (f : D → Option Int → Option Int → KD → Prop) (a : ME) (l h : MO) : ME := fun ρ q e => a ρ (fun x => l ρ (fun lo => h ρ (fun hi => f x lo hi q) e) e) e
def lookD (f : Str) : List Str → List D → Option D
  | k :: ks, d :: ds => if (f == k) = true then some d else lookD f ks ds
  | _, _ => none
abbrev mFld (C : Addr) (f : Str) (a : ME) : ME := fun ρ q e => a ρ (fun x => ∃ ks ds d, x = .obj C ks ds ∧ lookD f ks ds = some d ∧ q d) e
abbrev mMth (C : Addr) (m : Str) (sp : SpD) (o : ME) (a : MA) : ME := fun ρ q e => o ρ (fun x => ∃ ks ds, x = .obj C ks ds ∧ ks.contains m = false ∧ a ρ (fun es => sp (x :: es) q e) e) e
abbrev mChain (f f' : D → D → KD → Prop) (a b c : ME) : ME := fun ρ q e => a ρ (fun x => b ρ (fun y => f x y fun z => ∃ k, z = .bl k ∧ if k = true then c ρ (fun w => f' y w q) e else q (.bl false)) e) e
def spOf (sp : SpD) : Sp := fun vs H Q E => ∃ W ds q e, Ok W H ∧ VdA W vs ds ∧ sp ds q e ∧ Kv W H Q q ∧ Kx W H E e
section
variable {E : XK} {ta tb tc te : TE} {ma mb mc me : ME} {tt tu : TT} {mt mu : MT} {aa ab : TA} {na nb : MA} {r r' : R2} {f f' : D → D → KD → Prop} {K : PySem.W.Frag} {n n' : Nat}
theorem si_var {i : Nat} : SimE E (tVar i) (mVar i) := fun W H0 H σ ρ Q q e R h k _ => by
  obtain ⟨d, h1, hq⟩ := h
  obtain ⟨v, e1, hv⟩ := R.var h1
  exact ⟨v, e1, k W v d H (.refl R.ok) hv hq⟩
theorem si_int {i : Int} : SimE E (tC (.int i)) (mC (.int i)) := fun W H0 H σ ρ Q q e R h k _ => k W _ _ H (.refl R.ok) (.int i) h
theorem si_bl {b : Bool} : SimE E (tC (.bl b)) (mC (.bl b)) := fun W H0 H σ ρ Q q e R h k _ => k W _ _ H (.refl R.ok) (.bl b) h
theorem si_non : SimE E (tC .non) (mC .non) := fun W H0 H σ ρ Q q e R h k _ => k W _ _ H (.refl R.ok) .non h
theorem si_str {x : Str} : SimE E (tC (.str x)) (mC (.str x)) := fun W H0 H σ ρ Q q e R h k _ => k W _ _ H (.refl R.ok) (.str x) h
theorem si_op (ha : SimE E ta ma) (hb : SimE E tb mb) (hr : SimR r f) : SimE E (tOp r ta tb) (mOp f ma mb) := fun W H0 H σ ρ Q q e R h k kx =>
  ha W H0 H σ ρ _ _ e R h (fun W1 x dx H1 g1 hx h1 => hb W1 H0 H1 σ ρ _ _ e (R.go g1) h1 (fun W2 y dy H2 g2 hy h2 => hr W2 H2 x y dx dy Q q g2.ok (hx.mono g2.le) hy h2 (k.go R.ok (g1.trans R.ok g2))) (kx.go R.ok g1)) kx
theorem si_un {r : V → Hp → VK → Prop} {f : D → KD → Prop} (ha : SimE E ta ma) (hr : SimU r f) : SimE E (tUn r ta) (mUn f ma) := fun W H0 H σ ρ Q q e R h k kx =>
  ha W H0 H σ ρ _ _ e R h (fun W1 x dx H1 g1 hx h1 => hr W1 H1 x dx Q q g1.ok hx h1 (k.go R.ok g1)) kx
theorem si_nil : SimA E 0 tNil mNil := fun W H0 H σ ρ Q q e R h k _ => k W _ _ H (.refl R.ok) .nil rfl h
theorem si_cons (ha : SimE E ta ma) (hr : SimA E n aa na) : SimA E (n + 1) (tCons ta aa) (mCons ma na) := fun W H0 H σ ρ Q q e R h k kx =>
  ha W H0 H σ ρ _ _ e R h (fun W1 x dx H1 g1 hx h1 => hr W1 H0 H1 σ ρ _ _ e (R.go g1) h1 (fun W2 xs ds H2 g2 hy hl h2 => k W2 _ _ H2 (g1.trans R.ok g2) (.cons (hx.mono g2.le) hy) (by rw [List.length_cons, hl]) h2) (kx.go R.ok g1)) kx
theorem si_tup (ha : SimA E n aa na) : SimE E (tTup aa) (mTup na) := fun W H0 H σ ρ Q q e R h k kx =>
  ha W H0 H σ ρ _ _ e R h (fun W1 xs ds H1 g1 hx hl1 h1 => ⟨by rw [hx.length]; exact h1.1, fun p hp => k _ _ _ _ (g1.trans R.ok (.put g1.ok hp)) (.tup (upd_same (H := W1.F)) (hx.mono (Go.put g1.ok hp).le)) h1.2⟩) kx
theorem si_lst (ha : SimA E n aa na) : SimE E (tLst aa) (mLst na) := fun W H0 H σ ρ Q q e R h k kx =>
  ha W H0 H σ ρ _ _ e R h (fun W1 xs ds H1 g1 hx hl1 h1 => ⟨by rw [hx.length]; exact h1.1, fun p hp => k _ _ _ _ (g1.trans R.ok (.put g1.ok hp)) (.lst (upd_same (H := W1.F)) (hx.mono (Go.put g1.ok hp).le)) h1.2⟩) kx
theorem si_cb {r : List V → Hp → VK → Prop} {f : List D → KD → Prop} (ha : SimA E n aa na) (hr : SimC r f) : SimE E (tCB r aa) (mCB f na) := fun W H0 H σ ρ Q q e R h k kx =>
  ha W H0 H σ ρ _ _ e R h (fun W1 xs ds H1 g1 hx hl1 h1 => hr W1 H1 xs ds Q q g1.ok hx h1 (k.go R.ok g1)) kx
theorem bl_of {W : Wd} {v : V} {d : D} {c : Bool} (h : Vd W v d) (e : d = .bl c) : v = .bl c := by subst e; cases h; rfl
theorem int_of {W : Wd} {v : V} {d : D} {i : Int} (h : Vd W v d) (e : d = .int i) : v = .int i := by subst e; cases h; rfl
theorem str_of {W : Wd} {v : V} {d : D} {i : Str} (h : Vd W v d) (e : d = .str i) : v = .str i := by subst e; cases h; rfl
theorem non_of {W : Wd} {v : V} {d : D} (h : Vd W v d) (e : d = .non) : v = .non := by subst e; cases h; rfl
theorem tup_of {W : Wd} {H : Hp} {v : V} {d : D} {ds : List D} (k : Ok W H) (h : Vd W v d) (e : d = .tup ds) : ∃ a vs, v = .ref a ∧ W.F a = some (.tup vs) ∧ H a = some (.tup vs) ∧ VdA W vs ds := by subst e; cases h with | tup h t => exact ⟨_, _, rfl, h, k.f _ _ h, t⟩
theorem lst_of {W : Wd} {H : Hp} {v : V} {d : D} {ds : List D} (k : Ok W H) (h : Vd W v d) (e : d = .lst ds) : ∃ a vs, v = .ref a ∧ W.F a = some (.lst vs) ∧ H a = some (.lst vs) ∧ VdA W vs ds := by subst e; cases h with | lst h t => exact ⟨_, _, rfl, h, k.f _ _ h, t⟩
theorem obj_of {W : Wd} {H : Hp} {v : V} {d : D} {C : Addr} {ks : List Str} {ds : List D} (k : Ok W H) (h : Vd W v d) (e : d = .obj C ks ds) : ∃ a dx vs, v = .ref a ∧ H a = some (.ins C dx (ks.zip vs)) ∧ ks.length = vs.length ∧ VdA W vs ds := by subst e; cases h with | obj h l t => exact ⟨_, _, _, rfl, k.f _ _ h, l, t⟩
theorem si_test (ha : SimE E ta ma) : SimT E (tTest ta) (mBoo ma) := fun W H0 H σ ρ Q q e R h k kx =>
  ha W H0 H σ ρ _ _ e R h (fun W1 x dx H1 g1 hx h1 => by obtain ⟨c, e1, h1⟩ := h1; exact ⟨c, bl_of hx e1, k W1 c H1 g1 h1⟩) kx
theorem si_B (ha : SimE E ta ma) : SimT E (tB ta) (mBoo ma) := fun W H0 H σ ρ Q q e R h k kx =>
  ha W H0 H σ ρ _ _ e R h (fun W1 x dx H1 g1 hx h1 => by obtain ⟨c, e1, h1⟩ := h1; exact ⟨c, bl_of hx e1, k W1 c H1 g1 h1⟩) kx
theorem si_and (ha : SimT E tt mt) (hb : SimT E tu mu) : SimT E (tAnd tt tu) (mAnd mt mu) := fun W H0 H σ ρ Q q e R h k kx =>
  ha W H0 H σ ρ _ _ e R h (fun W1 c H1 g1 h1 => by
    cases c with
    | true => exact (hb W1 H0 H1 σ ρ _ _ e (R.go g1) h1 (k.go R.ok g1) (kx.go R.ok g1) : tu σ H1 Q)
    | false => exact (k W1 false H1 g1 h1 : Q false H1)) kx
theorem si_or (ha : SimT E tt mt) (hb : SimT E tu mu) : SimT E (tOr tt tu) (mOr mt mu) := fun W H0 H σ ρ Q q e R h k kx =>
  ha W H0 H σ ρ _ _ e R h (fun W1 c H1 g1 h1 => by
    cases c with
    | false => exact (hb W1 H0 H1 σ ρ _ _ e (R.go g1) h1 (k.go R.ok g1) (kx.go R.ok g1) : tu σ H1 Q)
    | true => exact (k W1 true H1 g1 h1 : Q true H1)) kx
theorem si_not (ha : SimT E tt mt) : SimT E (tNot tt) (mNot mt) := fun W H0 H σ ρ Q q e R h k kx =>
  ha W H0 H σ ρ _ _ e R h (fun W1 c H1 g1 h1 => k W1 _ H1 g1 h1) kx
theorem si_andV (ha : SimE E ta ma) (hb : SimE E tb mb) : SimE E (tAndV ta tb) (mAndV ma mb) := fun W H0 H σ ρ Q q e R h k kx =>
  ha W H0 H σ ρ _ _ e R h (fun W1 x dx H1 g1 hx h1 => by
    obtain ⟨c, e1, h1⟩ := h1
    refine ⟨c, bl_of hx e1, ?_⟩
    cases c with
    | true => exact (hb W1 H0 H1 σ ρ _ _ e (R.go g1) h1 (k.go R.ok g1) (kx.go R.ok g1) : tb σ H1 Q)
    | false => exact (k W1 _ _ H1 g1 (.bl false) h1 : Q (.bl false) H1)) kx
theorem si_orV (ha : SimE E ta ma) (hb : SimE E tb mb) : SimE E (tOrV ta tb) (mOrV ma mb) := fun W H0 H σ ρ Q q e R h k kx =>
  ha W H0 H σ ρ _ _ e R h (fun W1 x dx H1 g1 hx h1 => by
    obtain ⟨c, e1, h1⟩ := h1
    refine ⟨c, bl_of hx e1, ?_⟩
    cases c with
    | false => exact (hb W1 H0 H1 σ ρ _ _ e (R.go g1) h1 (k.go R.ok g1) (kx.go R.ok g1) : tb σ H1 Q)
    | true => exact (k W1 _ _ H1 g1 (.bl true) h1 : Q (.bl true) H1)) kx
theorem si_notV (ha : SimE E ta ma) : SimE E (tNotV ta) (mNotV ma) := fun W H0 H σ ρ Q q e R h k kx =>
  ha W H0 H σ ρ _ _ e R h (fun W1 x dx H1 g1 hx h1 => by obtain ⟨c, e1, h1⟩ := h1; exact ⟨c, bl_of hx e1, k W1 _ _ H1 g1 (.bl _) h1⟩) kx
theorem si_if (ht : SimT E tt mt) (ha : SimE E ta ma) (hb : SimE E tb mb) : SimE E (tIf tt ta tb) (mIf mt ma mb) := fun W H0 H σ ρ Q q e R h k kx =>
  ht W H0 H σ ρ _ _ e R h (fun W1 c H1 g1 h1 => by
    cases c with
    | true => exact (ha W1 H0 H1 σ ρ _ _ e (R.go g1) h1 (k.go R.ok g1) (kx.go R.ok g1) : ta σ H1 Q)
    | false => exact (hb W1 H0 H1 σ ρ _ _ e (R.go g1) h1 (k.go R.ok g1) (kx.go R.ok g1) : tb σ H1 Q)) kx
theorem si_def {sp : SpD} (ha : SimA E n aa na) : SimE E (tDef (spOf sp) E aa) (mDef sp na) := fun W H0 H σ ρ Q q e R h k kx =>
  ha W H0 H σ ρ _ _ e R h (fun W1 xs ds H1 g1 hx hl1 h1 => ⟨W1, ds, q, e, g1.ok, hx, h1, k.go R.ok g1, kx.go R.ok g1⟩) kx
theorem si_kwD {sp : SpD} (ha : SimA E n aa na) (hb : SimA E n' ab nb) : SimE E (tCallN n n' (spOf sp) Gn.app E aa ab) (mDefK sp na nb) := fun W H0 H σ ρ Q q e R h k kx =>
  ha W H0 H σ ρ _ _ e R h (fun W1 xs ds H1 g1 hx hl1 h1 => hb W1 H0 H1 σ ρ _ _ e (R.go g1) h1 (fun W2 ys es H2 g2 hy hl2 h2 =>
    ⟨by rw [hx.length]; exact hl1, by rw [hy.length]; exact hl2, W2, ds ++ es, q, e, g2.ok, (hx.mono g2.le).append hy, h2, k.go R.ok (g1.trans R.ok g2), kx.go R.ok (g1.trans R.ok g2)⟩) (kx.go R.ok g1)) kx
theorem si_noP : SimO E tNoPart mNoP := fun W H0 H σ ρ Q q e R h k _ => k W _ H (.refl R.ok) h
theorem si_part (ha : SimE E ta ma) : SimO E (tPart ta) (mPart ma) := fun W H0 H σ ρ Q q e R h k kx =>
  ha W H0 H σ ρ _ _ e R h (fun W1 x dx H1 g1 hx h1 => by obtain ⟨c, e1, h1⟩ := h1; exact ⟨c, int_of hx e1, k W1 _ H1 g1 h1⟩) kx
def SimSl (r : V → Option Int → Option Int → Hp → VK → Prop) (f : D → Option Int → Option Int → KD → Prop) : Prop := ∀ W H x dx lo hi Q q, Ok W H → Vd W x dx → f dx lo hi q → Kv W H Q q → r x lo hi H Q
theorem si_sl {r : V → Option Int → Option Int → Hp → VK → Prop} {f : D → Option Int → Option Int → KD → Prop} {tl th : TO} {ml mh : MO} (ha : SimE E ta ma) (hl : SimO E tl ml) (hh : SimO E th mh) (hr : SimSl r f) : SimE E (tSl r ta tl th) (mSl f ma ml mh) := fun W H0 H σ ρ Q q e R h k kx =>
  ha W H0 H σ ρ _ _ e R h (fun W1 x dx H1 g1 hx h1 => hl W1 H0 H1 σ ρ _ _ e (R.go g1) h1 (fun W2 lo H2 g2 h2 => hh W2 H0 H2 σ ρ _ _ e ((R.go g1).go g2) h2 (fun W3 hi H3 g3 h3 =>
    hr W3 H3 x dx lo hi Q q g3.ok ((hx.mono g2.le).mono g3.le) h3 (k.go R.ok ((g1.trans R.ok g2).trans R.ok g3))) (kx.go R.ok (g1.trans R.ok g2))) (kx.go R.ok g1)) kx
theorem look_zip {W : Wd} {f : Str} : ∀ {ks : List Str} {vs : List V} {ds : List D} {d : D}, ks.length = vs.length → VdA W vs ds → lookD f ks ds = some d → ∃ v, (ks.zip vs).lookup f = some v ∧ Vd W v d
  | [], _, _, _, _, _, h => by
    unfold lookD at h
    cases h
  | k :: ks, [], _, _, l, _, _ => by cases l
  | k :: ks, v :: vs, _, d, l, .cons h t, e => by
    unfold lookD at e
    rw [List.zip_cons_cons, List.lookup_cons]
    by_cases z : (f == k) = true
    · rw [if_pos z] at e
      cases e
      rw [z]
      exact ⟨v, rfl, h⟩
    · rw [if_neg z] at e
      have z2 : (f == k) = false := by simpa using z
      rw [z2]
      exact look_zip (by simpa using l) t e
theorem look_no {m : Str} : ∀ {ks : List Str} {vs : List V}, ks.contains m = false → (ks.zip vs).lookup m = none
  | [], _, _ => by simp
  | k :: ks, [], _ => by simp
  | k :: ks, v :: vs, h => by
    rw [List.contains_cons, Bool.or_eq_false_iff] at h
    rw [List.zip_cons_cons, List.lookup_cons, h.1]
    exact look_no h.2
theorem si_fld {C : Addr} {x : Str} (cl : Cls K C) (na : NoAttr K C x) (ha : SimE E ta ma) : SimE E (tFld K ta x) (mFld C x ma) := fun W H0 H σ ρ Q q e R h k kx =>
  ha W H0 H σ ρ _ _ e R h (fun W1 v dx H1 g1 hx h1 => by
    obtain ⟨ks, ds, d, e1, e2, h1⟩ := h1
    obtain ⟨a, dx, vs, e3, e4, l, t⟩ := obj_of g1.ok hx e1
    obtain ⟨u, e5, hu⟩ := look_zip l t e2
    exact ⟨a, C, dx, _, u, e3, e4, cl, na, e5, k W1 u d H1 g1 hu h1⟩) kx
theorem si_mth {C : Addr} {m : Str} {sp : SpD} (ho : SimE E ta ma) (ha : SimA E n aa na) : SimE E (tMth C m (spOf sp) E ta aa) (mMth C m sp ma na) := fun W H0 H σ ρ Q q e R h k kx =>
  ho W H0 H σ ρ _ _ e R h (fun W1 v d H1 g1 hx h1 => by
    obtain ⟨ks, ds, e1, e2, h1⟩ := h1
    obtain ⟨a, dx, vs, e3, e4, l, t⟩ := obj_of g1.ok hx e1
    exact ⟨a, dx, _, e3, e4, look_no e2, ha W1 H0 H1 σ ρ _ _ e (R.go g1) h1 (fun W2 xs es H2 g2 hy _ h2 => ⟨W2, d :: es, q, e, g2.ok, .cons (hx.mono g2.le) hy, h2, k.go R.ok (g1.trans R.ok g2), kx.go R.ok (g1.trans R.ok g2)⟩) (kx.go R.ok g1)⟩) kx
theorem si_chain (ha : SimE E ta ma) (hb : SimE E tb mb) (hc : SimE E tc mc) (hr : SimR r f) (hr' : SimR r' f') : SimE E (tChain r r' ta tb tc) (mChain f f' ma mb mc) := fun W H0 H σ ρ Q q e R h k kx =>
  ha W H0 H σ ρ _ _ e R h (fun W1 x dx H1 g1 hx h1 => hb W1 H0 H1 σ ρ _ _ e (R.go g1) h1 (fun W2 y dy H2 g2 hy h2 => hr W2 H2 x y dx dy _ _ g2.ok (hx.mono g2.le) hy h2 (fun W3 z dz H3 g3 hz h3 => by
    obtain ⟨c, e1, h3⟩ := h3
    refine ⟨c, bl_of hz e1, ?_⟩
    have g := (g1.trans R.ok g2).trans R.ok g3
    cases c with
    | true => exact (hc W3 H0 H3 σ ρ _ _ e (R.go g) h3 (fun W4 w dw H4 g4 hw h4 => hr' W4 H4 y w dy dw Q q g4.ok ((hy.mono g3.le).mono g4.le) hw h4 (k.go R.ok (g.trans R.ok g4))) (kx.go R.ok g) : tc σ H3 _)
    | false => exact (k W3 _ _ H3 g (.bl false) h3 : Q (.bl false) H3))) (kx.go R.ok g1)) kx
end
end Dt
set_option Elab.async false
set_option linter.all false
set_option maxRecDepth 100000
set_option maxHeartbeats 4000000
/-! What a reading means over data: statements, walks, defs. -/
namespace Dt
open PySem PySem.Spec PyProof.Rows L2 Com
structure EndsD where
  nx : Ev → Prop
  rt : D → Prop
  bk : Ev → Prop
  ct : Ev → Prop
abbrev MS := EndsD → Ev → XD → Prop
abbrev MG := D → Ev → (Ev → Prop) → Prop
abbrev MGs := List D → Ev → (Ev → Prop) → Prop
abbrev MI := Ev → (List D → Prop) → XD → Prop
/-- what follows, from a start (W0, H0), the world being at least W -/
def Cn (W0 : Wd) (H0 : Hp) (W : Wd) (n : L2.St → Hp → Prop) (m : Ev → Prop) : Prop := ∀ W' H' σ' ρ', Le W W' → Go W0 H0 W' H' → Rep W' H0 H' σ' ρ' → m ρ' → n σ' H'
structure Ct (W0 : Wd) (H0 : Hp) (W : Wd) (D : Ends) (d : EndsD) : Prop where
  nx : Cn W0 H0 W D.nx d.nx
  rt : ∀ W' H' v x, Le W W' → Go W0 H0 W' H' → Vd W' v x → d.rt x → D.rt v H'
  bk : Cn W0 H0 W D.bk d.bk
  ct : Cn W0 H0 W D.ct d.ct
theorem Cn.up {W0 W W1 : Wd} {H0 : Hp} {n : L2.St → Hp → Prop} {m : Ev → Prop} (h : Cn W0 H0 W n m) (l : Le W W1) : Cn W0 H0 W1 n m := fun W' H' σ' ρ' l1 => h W' H' σ' ρ' (l.trans l1)
theorem Ct.up {W0 W W1 : Wd} {H0 : Hp} {D : Ends} {d : EndsD} (h : Ct W0 H0 W D d) (l : Le W W1) : Ct W0 H0 W1 D d := ⟨h.nx.up l, fun W' H' v x l1 => h.rt W' H' v x (l.trans l1), h.bk.up l, h.ct.up l⟩
def SimS (E : XK) (ts : TS) (m : MS) : Prop := ∀ W0 H0 W H σ ρ D d e, Ok W0 H0 → Go W0 H0 W H → Rep W H0 H σ ρ → m d ρ e → Ct W0 H0 W D d → Kx W0 H0 E e → ts D σ H
def SimG (g : TG) (m : MG) (is : List Nat) : Prop := ∀ W H0 H v d σ ρ (Q : L2.St → Hp → Prop) (q : Ev → Prop), Rep W H0 H σ ρ → Vd W v d → m d ρ q → (∀ σ' ρ', Rep W H0 H σ' ρ' → (∀ vs : List Nat, (∀ i ∈ is, i ∈ vs) → wipe σ' vs = wipe σ vs) → (NoOwn ρ → NoOwn ρ') → q ρ' → Q σ' H) → g v σ H Q
def SimGs (g : TGs) (m : MGs) (is : List Nat) : Prop := ∀ W H0 H vs ds σ ρ (Q : L2.St → Hp → Prop) (q : Ev → Prop), Rep W H0 H σ ρ → VdA W vs ds → m ds ρ q → (∀ σ' ρ', Rep W H0 H σ' ρ' → (∀ vs : List Nat, (∀ i ∈ is, i ∈ vs) → wipe σ' vs = wipe σ vs) → (NoOwn ρ → NoOwn ρ') → q ρ' → Q σ' H) → g vs σ H Q
/-- it walks the data xs -/
def ItD (W : Wd) (J : It) (xs : List D) : Prop := ∀ i W1 H1, Le W W1 → Ok W1 H1 → (∀ d, xs[i]? = some d → J.go i H1 ∧ ∀ v H2, J.yld i H1 v H2 → ∃ W2, Go W1 H1 W2 H2 ∧ Vd W2 v d) ∧ (xs.length ≤ i → J.stop i H1)
def SimI (E : XK) (ti : TI) (m : MI) : Prop := ∀ W H0 H σ ρ R q e, Rep W H0 H σ ρ → m ρ q e → (∀ W' J xs H', Go W H W' H' → ItD W' J xs → q xs → R J H') → Kx W H E e → ti σ H R
/-! ### targets -/
theorem wipe_set {σ : L2.St} {i : Nat} {o : Option V} : ∀ vs : List Nat, wipe (σ.set i o) vs = if i ∈ vs then wipe σ vs else (wipe σ vs).set i o
  | [] => by rw [if_neg (by simp)]; rfl
  | v :: vs => by
    show (wipe (σ.set i o) vs).set v none = _
    rw [wipe_set vs]
    show _ = if i ∈ v :: vs then (wipe σ vs).set v none else ((wipe σ vs).set v none).set i o
    by_cases h : i ∈ vs
    · rw [if_pos h, if_pos (List.mem_cons_of_mem _ h)]
    · rw [if_neg h]
      by_cases e : i = v
      · subst e
        rw [if_pos (by simp), List.set_set]
      · rw [if_neg (by simp [e, h]), List.set_comm _ _ e]
theorem wipe_in {σ : L2.St} {i : Nat} {o : Option V} {vs : List Nat} (h : i ∈ vs) : wipe (σ.set i o) vs = wipe σ vs := by rw [wipe_set, if_pos h]
theorem wipe_two {σ : L2.St} : ∀ {vs us : List Nat}, (∀ i ∈ us, i ∈ vs) → wipe (wipe σ us) vs = wipe σ vs
  | vs, [], _ => rfl
  | vs, u :: us, h => by
    show wipe ((wipe σ us).set u none) vs = _
    rw [wipe_in (h u (by simp)), wipe_two fun i hi => h i (List.mem_cons_of_mem _ hi)]
abbrev mgN (i : Nat) : MG := fun d ρ q => q (ρ.set i (some (.d d)))
abbrev mgNil : MGs := fun ds ρ q => ds = [] ∧ q ρ
abbrev mgCons (m : MG) (r : MGs) : MGs := fun ds ρ q => ∃ d es, ds = d :: es ∧ m d ρ fun ρ' => r es ρ' q
abbrev mgT (n : Nat) (r : MGs) : MG := fun d ρ q => ∃ ds, d = .tup ds ∧ ds.length = n ∧ r ds ρ q
section
variable {E : XK} {K : PySem.W.Frag} {is js : List Nat} {g : TG} {gs : TGs} {mg : MG} {mgs : MGs} {te : TE} {me : ME} {tt : TT} {mt : MT} {ta : TA} {ma : MA} {ti : TI} {mi : MI} {ts tu : TS} {ms mu : MS} {n : Nat}
theorem sg_name {i : Nat} : SimG (gName i) (mgN i) [i] := fun W H0 H v d σ ρ Q q R hv h k => k _ _ (R.set hv) (fun vs hvs => wipe_in (hvs i (by simp))) (fun n => n.set) h
theorem sg_nil : SimGs gNil mgNil [] := fun W H0 H vs ds σ ρ Q q R hv h k => by
  obtain ⟨rfl, h⟩ := h
  cases hv
  exact ⟨rfl, k _ _ R (fun _ _ => rfl) (fun n => n) h⟩
theorem sg_cons (h1 : SimG g mg is) (h2 : SimGs gs mgs js) : SimGs (gCons g gs) (mgCons mg mgs) (is ++ js) := fun W H0 H vs ds σ ρ Q q R hv h k => by
  obtain ⟨d, es, rfl, h⟩ := h
  cases hv with
  | cons hd ht => exact ⟨_, _, rfl, h1 W H0 H _ d σ ρ _ _ R hd h fun σ' ρ' R' w' n' h' => h2 W H0 H _ es σ' ρ' Q q R' ht h' fun σ2 ρ2 R2 w2 n2 h2 => k σ2 ρ2 R2 (fun us hus => by rw [w2 us (fun i hi => hus i (by simp [hi])), w' us (fun i hi => hus i (by simp [hi]))]) (fun n => n2 (n' n)) h2⟩
theorem sg_tup {n : Nat} (h2 : SimGs gs mgs js) : SimG (gTup K n gs) (mgT n mgs) js := fun W H0 H v d σ ρ Q q R hv h k => by
  obtain ⟨ds, rfl, hl, h⟩ := h
  obtain ⟨a, vs, e, _, ha, t⟩ := tup_of R.ok hv rfl
  exact ⟨a, vs, e, SqT.of ha, by rw [t.length, hl], h2 W H0 H vs ds σ ρ Q q R t h k⟩
/-! ### walks -/
abbrev mSeq (a : ME) : MI := fun ρ q e => a ρ (fun x => ∃ xs, (x = .tup xs ∨ x = .lst xs) ∧ q xs) e
abbrev mRng1 (a : MA) : MI := fun ρ q e => a ρ (fun ds => ∃ n : Int, ds = [.int n] ∧ n ≤ 1000000 ∧ -1000000 ≤ n ∧ q ((List.range n.toNat).map fun (i : Nat) => .int (i : Int))) e
abbrev mRng2 (a : MA) : MI := fun ρ q e => a ρ (fun ds => ∃ l n : Int, ds = [.int l, .int n] ∧ (l ≤ 1000000 ∧ -1000000 ≤ l ∧ n ≤ 1000000 ∧ -1000000 ≤ n) ∧ q ((List.range (n - l).toNat).map fun (i : Nat) => .int (l + (i : Int)))) e
theorem it_list {W : Wd} {a : Addr} {vs : List V} {xs : List D} (h : W.F a = some (.lst vs)) (t : VdA W vs xs) : ItD W (Itl K a) xs := fun i W1 H1 l k => by
  have h1 : SqL K H1 a vs := SqL.of (k.f _ _ (l.f _ _ h))
  refine ⟨fun d hd => ?_, fun hl => ⟨vs, h1, by rw [t.length]; exact hl⟩⟩
  obtain ⟨v, hv, r⟩ := t.get' hd
  refine ⟨⟨vs, v, h1, hv⟩, fun u H2 y => ?_⟩
  obtain ⟨rfl, y⟩ := y
  have := y vs h1
  rw [hv] at this
  cases this
  exact ⟨W1, .refl k, r.mono l⟩
theorem it_tup {W : Wd} {a : Addr} {vs : List V} {xs : List D} (h : W.F a = some (.tup vs)) (t : VdA W vs xs) : ItD W (Itt K a) xs := fun i W1 H1 l k => by
  have h1 : SqT K H1 a vs := SqT.of (k.f _ _ (l.f _ _ h))
  refine ⟨fun d hd => ?_, fun hl => ⟨vs, h1, by rw [t.length]; exact hl⟩⟩
  obtain ⟨v, hv, r⟩ := t.get' hd
  refine ⟨⟨vs, v, h1, hv⟩, fun u H2 y => ?_⟩
  obtain ⟨rfl, y⟩ := y
  have := y vs h1
  rw [hv] at this
  cases this
  exact ⟨W1, .refl k, r.mono l⟩
theorem it_rng {W : Wd} {lo : Int} {n : Nat} : ItD W (Itr lo n) ((List.range n).map fun (i : Nat) => .int (lo + (i : Int))) := fun i W1 H1 l k => by
  refine ⟨fun d hd => ?_, fun hl => (show n ≤ i by simpa using hl)⟩
  rw [List.getElem?_map] at hd
  cases e : (List.range n)[i]? with
  | none =>
    rw [e] at hd
    cases hd
  | some j =>
    rw [e] at hd
    cases hd
    have hi := (List.getElem?_eq_some_iff.mp e).1
    have hj := (List.getElem?_eq_some_iff.mp e).2
    rw [List.getElem_range] at hj
    subst hj
    refine ⟨(show i < n by simpa using hi), fun v H2 y => ?_⟩
    obtain ⟨rfl, rfl⟩ := y
    exact ⟨W1, .refl k, .int _⟩
theorem si_seq (ha : SimE E te me) : SimI E (Gn.iSeq K te) (mSeq me) := fun W H0 H σ ρ R q e Rp h k kx =>
  ha W H0 H σ ρ _ _ e Rp h (fun W1 v d H1 g1 hv h1 => by
    obtain ⟨xs, e1, h1⟩ := h1
    rcases e1 with e1 | e1
    · obtain ⟨a, vs, e2, f, hh, t⟩ := tup_of g1.ok hv e1
      exact ⟨a, e2, .inr ⟨vs, SqT.of hh, k W1 _ xs H1 g1 (it_tup f t) h1⟩⟩
    · obtain ⟨a, vs, e2, f, hh, t⟩ := lst_of g1.ok hv e1
      exact ⟨a, e2, .inl ⟨vs, SqL.of hh, k W1 _ xs H1 g1 (it_list f t) h1⟩⟩) kx
theorem si_rng1 (ha : SimA E n ta ma) : SimI E (iRng1 ta) (mRng1 ma) := fun W H0 H σ ρ R q e Rp h k kx =>
  ha W H0 H σ ρ _ _ e Rp h (fun W1 vs ds H1 g1 hv _ h1 => by
    obtain ⟨n, rfl, b1, b2, h1⟩ := h1
    have := hv.of_ints (ns := [n])
    refine ⟨n, this, by omega, by omega, k W1 _ _ H1 g1 it_rng ?_⟩
    have e : ((List.range n.toNat).map fun (i : Nat) => D.int (0 + (i : Int))) = (List.range n.toNat).map fun (i : Nat) => D.int (i : Int) := by
      congr 1
      funext i
      rw [Int.zero_add]
    rw [e]
    exact h1) kx
theorem si_rng2 (ha : SimA E n ta ma) : SimI E (iRng2 ta) (mRng2 ma) := fun W H0 H σ ρ R q e Rp h k kx =>
  ha W H0 H σ ρ _ _ e Rp h (fun W1 vs ds H1 g1 hv _ h1 => by
    obtain ⟨l, n, rfl, ⟨b1, b2, b3, b4⟩, h1⟩ := h1
    have := hv.of_ints (ns := [l, n])
    exact ⟨l, n, this, by omega, k W1 _ _ H1 g1 it_rng h1⟩) kx
/-! ### statements -/
abbrev msNx : MS := fun d ρ _ => d.nx ρ
abbrev msNever : MS := fun _ _ _ => False
abbrev msBrk : MS := fun d ρ _ => d.bk ρ
abbrev msCnt : MS := fun d ρ _ => d.ct ρ
abbrev msSeq (a b : MS) : MS := fun d ρ e => a { d with nx := fun ρ' => b d ρ' e } ρ e
abbrev msIf (t : MT) (a b : MS) : MS := fun d ρ e => t ρ (fun c => if c = true then a d ρ e else b d ρ e) e
abbrev msRet (a : ME) : MS := fun d ρ e => a ρ d.rt e
abbrev msRetN : MS := fun d _ _ => d.rt .non
abbrev msExp (a : ME) : MS := fun d ρ e => a ρ (fun _ => d.nx ρ) e
abbrev msAsg (a : ME) (g : MG) : MS := fun d ρ e => a ρ (fun x => g x ρ d.nx) e
abbrev msPar (i j : Nat) (a : MA) : MS := fun d ρ e => a ρ (fun ds => ∃ x y, ds = [x, y] ∧ d.nx ((ρ.set i (some (.d x))).set j (some (.d y)))) e
abbrev msAug (i : Nat) (a : ME) (f : D → D → KD → Prop) : MS := fun d ρ e => ∃ x, ρ[i]? = some (some (.d x)) ∧ a ρ (fun y => f x y fun z => d.nx (ρ.set i (some (.d z)))) e
def msLoop (g : MG) (b : MS) : List D → MS
  | [] => fun d ρ _ => d.nx ρ
  | x :: xs => fun d ρ e => g x ρ fun ρ' => b { nx := fun ρ2 => msLoop g b xs d ρ2 e, rt := d.rt, bk := d.nx, ct := fun ρ2 => msLoop g b xs d ρ2 e } ρ' e
abbrev msFor (i : MI) (g : MG) (b : MS) : MS := fun d ρ e => i ρ (fun xs => msLoop g b xs d ρ e) e
abbrev msWhile (t : MT) (b : MS) : MS := fun d ρ e => ∃ w : Nat → Ev → Prop, (∃ n, w n ρ) ∧ ∀ n ρ, w n ρ → t ρ (fun c => if c = true then b { nx := fun ρ' => ∃ m, m < n ∧ w m ρ', rt := d.rt, bk := d.nx, ct := fun ρ' => ∃ m, m < n ∧ w m ρ' } ρ e else d.nx ρ) e
theorem ss_nx : SimS E tNext msNx := fun W0 H0 W H σ ρ D d e k0 g R h c _ => c.nx W H σ ρ (.refl W) g R h
theorem ss_never : SimS E tNever msNever := fun W0 H0 W H σ ρ D d e k0 g R h c _ => h.elim
theorem ss_brk : SimS E tBreak msBrk := fun W0 H0 W H σ ρ D d e k0 g R h c _ => c.bk W H σ ρ (.refl W) g R h
theorem ss_cnt : SimS E tCont msCnt := fun W0 H0 W H σ ρ D d e k0 g R h c _ => c.ct W H σ ρ (.refl W) g R h
theorem ss_seq (h1 : SimS E ts ms) (h2 : SimS E tu mu) : SimS E (tSeq ts tu) (msSeq ms mu) := fun W0 H0 W H σ ρ D d e k0 g R h c kx =>
  h1 W0 H0 W H σ ρ _ _ e k0 g R h ⟨fun W' H' σ' ρ' l g' R' h' => h2 W0 H0 W' H' σ' ρ' D d e k0 g' R' h' (c.up l) kx, c.rt, c.bk, c.ct⟩ kx
theorem ss_if (ht : SimT E tt mt) (h1 : SimS E ts ms) (h2 : SimS E tu mu) : SimS E (tIfS tt ts tu) (msIf mt ms mu) := fun W0 H0 W H σ ρ D d e k0 g R h c kx =>
  ht W H0 H σ ρ _ _ e R h (fun W1 b H1 g1 hb => by
    cases b with
    | true => exact (h1 W0 H0 W1 H1 σ ρ D d e k0 (g.trans k0 g1) (R.go g1) hb (c.up g1.le) kx : ts D σ H1)
    | false => exact (h2 W0 H0 W1 H1 σ ρ D d e k0 (g.trans k0 g1) (R.go g1) hb (c.up g1.le) kx : tu D σ H1)) (kx.go k0 g)
theorem ss_ret (ha : SimE E te me) : SimS E (tRet te) (msRet me) := fun W0 H0 W H σ ρ D d e k0 g R h c kx =>
  ha W H0 H σ ρ _ _ e R h (fun W1 v x H1 g1 hv h1 => c.rt W1 H1 v x g1.le (g.trans k0 g1) hv h1) (kx.go k0 g)
theorem ss_retN : SimS E tRetN msRetN := fun W0 H0 W H σ ρ D d e k0 g R h c kx => c.rt W H _ _ (.refl W) g .non h
theorem ss_exp (ha : SimE E te me) : SimS E (tDrop te) (msExp me) := fun W0 H0 W H σ ρ D d e k0 g R h c kx =>
  ha W H0 H σ ρ _ _ e R h (fun W1 v x H1 g1 hv h1 => c.nx W1 H1 σ ρ g1.le (g.trans k0 g1) (R.go g1) h1) (kx.go k0 g)
theorem ss_asg (ha : SimE E te me) (hg : SimG g mg is) : SimS E (tAsg te g) (msAsg me mg) := fun W0 H0 W H σ ρ D d e k0 g R h c kx =>
  ha W H0 H σ ρ _ _ e R h (fun W1 v x H1 g1 hv h1 => hg W1 H0 H1 v x σ ρ _ _ (R.go g1) hv h1 fun σ' ρ' R' _ _ h' => c.nx W1 H1 σ' ρ' g1.le (g.trans k0 g1) R' h') (kx.go k0 g)
theorem ss_par {i j : Nat} (ha : SimA E n ta ma) : SimS E (tPar i j ta) (msPar i j ma) := fun W0 H0 W H σ ρ D d e k0 g R h c kx =>
  ha W H0 H σ ρ _ _ e R h (fun W1 vs ds H1 g1 hv _ h1 => by
    obtain ⟨x, y, rfl, h1⟩ := h1
    cases hv with
    | cons a t =>
      cases t with
      | cons b t =>
        cases t
        exact ⟨_, _, rfl, c.nx W1 H1 _ _ g1.le (g.trans k0 g1) (((R.go g1).set a).set b) h1⟩) (kx.go k0 g)
/-- op= on values -/
def SimIp (t : TIp) (f : D → D → KD → Prop) : Prop := ∀ W H x y dx dy Q q, Ok W H → Vd W x dx → Vd W y dy → f dx dy q → Kv W H Q q → t x y H Q
theorem ss_aug {i : Nat} {t : TIp} {f : D → D → KD → Prop} (ha : SimE E te me) (hp : SimIp t f) : SimS E (tAug i te t) (msAug i me f) := fun W0 H0 W H σ ρ D d e k0 g R h c kx => by
  obtain ⟨x, e1, h⟩ := h
  obtain ⟨v, e2, hv⟩ := R.var e1
  exact ⟨v, e2, ha W H0 H σ ρ _ _ e R h (fun W1 u y H1 g1 hu h1 => hp W1 H1 v u x y _ _ g1.ok (hv.mono g1.le) hu h1 fun W2 w z H2 g2 hw h2 => c.nx W2 H2 _ _ (g1.trans R.ok g2).le (g.trans k0 (g1.trans R.ok g2)) (((R.go g1).go g2).set hw) h2) (kx.go k0 g)⟩
theorem ss_for (hi : SimI E ti mi) (hg : SimG g mg is) (hb : SimS E ts ms) : SimS E (tFor ti g ts) (msFor mi mg ms) := fun W0 H0 W H σ ρ D d e k0 g0 R h c kx =>
  hi W H0 H σ ρ _ _ e R h (fun W1 J xs H1 g1 hJ h1 => by
    refine ⟨fun i m σ H => m = xs.length - i ∧ i ≤ xs.length ∧ ∃ W2 ρ, Le W1 W2 ∧ Go W0 H0 W2 H ∧ Rep W2 H0 H σ ρ ∧ msLoop mg ms (xs.drop i) d ρ e, ⟨xs.length, by simp, Nat.zero_le _, W1, ρ, .refl W1, g0.trans k0 g1, R.go g1, h1⟩, ?_⟩
    rintro i m σ2 H2 ⟨rfl, hi, W2, ρ2, l2, g2, R2, h2⟩
    by_cases hlt : i < xs.length
    · rw [List.drop_eq_getElem_cons hlt] at h2
      obtain ⟨j1, j2⟩ := (hJ i W2 H2 l2 R2.ok).1 xs[i] (List.getElem?_eq_getElem hlt)
      refine .inr ⟨j1, fun σ3 H3 => ∃ W3 ρ3, Le W1 W3 ∧ Go W0 H0 W3 H3 ∧ Rep W3 H0 H3 σ3 ρ3 ∧ msLoop mg ms (xs.drop (i + 1)) d ρ3 e, fun σ3 H3 ⟨W3, ρ3, z⟩ => ⟨xs.length - (i + 1), by omega, rfl, hlt, W3, ρ3, z⟩, fun v H3 y => ?_⟩
      obtain ⟨W3, g3, hv⟩ := j2 v H3 y
      refine hg W3 H0 H3 v xs[i] σ2 ρ2 _ _ (R2.go g3) hv h2 fun σ4 ρ4 R4 _ _ h4 => ?_
      have l3 := (g1.le.trans l2).trans g3.le
      exact hb W0 H0 W3 H3 σ4 ρ4 _ _ e k0 (g2.trans k0 g3) R4 h4 ⟨fun W5 H5 σ5 ρ5 l5 g5 R5 h5 => ⟨W5, ρ5, (l2.trans g3.le).trans l5, g5, R5, h5⟩, fun W5 H5 v x l5 => c.rt W5 H5 v x (l3.trans l5), c.nx.up l3, fun W5 H5 σ5 ρ5 l5 g5 R5 h5 => ⟨W5, ρ5, (l2.trans g3.le).trans l5, g5, R5, h5⟩⟩ kx
    · have e1 : i = xs.length := by omega
      subst e1
      rw [List.drop_length] at h2
      exact .inl ⟨(hJ xs.length W2 H2 l2 R2.ok).2 (Nat.le_refl _), c.nx W2 H2 σ2 ρ2 (g1.le.trans l2) g2 R2 h2⟩) (kx.go k0 g0)
theorem ss_while (ht : SimT E tt mt) (hb : SimS E ts ms) : SimS E (tWhile tt ts) (msWhile mt ms) := fun W0 H0 W H σ ρ D d e k0 g0 R h c kx => by
  obtain ⟨w, ⟨n0, w0⟩, step⟩ := h
  refine ⟨fun n σ H => ∃ W2 ρ, Le W W2 ∧ Go W0 H0 W2 H ∧ Rep W2 H0 H σ ρ ∧ w n ρ, ⟨n0, W, ρ, .refl W, g0, R, w0⟩, ?_⟩
  rintro n σ2 H2 ⟨W2, ρ2, l2, g2, R2, h2⟩
  refine ht W2 H0 H2 σ2 ρ2 _ _ e R2 (step n ρ2 h2) (fun W3 b H3 g3 hb3 => ?_) (kx.go k0 g2)
  cases b with
  | true =>
    show ∃ N, _
    refine ⟨fun σ4 H4 => ∃ W4 ρ4, Le W W4 ∧ Go W0 H0 W4 H4 ∧ Rep W4 H0 H4 σ4 ρ4 ∧ ∃ m, m < n ∧ w m ρ4, fun σ4 H4 ⟨W4, ρ4, a, b, c, m, lt, z⟩ => ⟨m, lt, W4, ρ4, a, b, c, z⟩, ?_⟩
    have l3 := l2.trans g3.le
    exact hb W0 H0 W3 H3 σ2 ρ2 _ _ e k0 (g2.trans k0 g3) (R2.go g3) hb3 ⟨fun W5 H5 σ5 ρ5 l5 g5 R5 h5 => ⟨W5, ρ5, l3.trans l5, g5, R5, h5⟩, fun W5 H5 v x l5 => c.rt W5 H5 v x (l3.trans l5), c.nx.up l3, fun W5 H5 σ5 ρ5 l5 g5 R5 h5 => ⟨W5, ρ5, l3.trans l5, g5, R5, h5⟩⟩ kx
  | false => exact (c.nx W3 H3 σ2 ρ2 (l2.trans g3.le) (g2.trans k0 g3) (R2.go g3) hb3 : D.nx σ2 H3)
/-! ### comprehensions -/
def mLcL (g : MG) (t : MT) (x : ME) (vs : List Nat) (ρ : Ev) (e : XD) : List D → List D → (List D → Prop) → Prop
  | [], acc, q => q acc
  | d :: ds, acc, q => g d (wipeD ρ vs) fun ρ2 => t ρ2 (fun b => if b = true then x ρ2 (fun y => acc.length < sizeLine ∧ mLcL g t x vs ρ e ds (acc ++ [y]) q) e else mLcL g t x vs ρ e ds acc q) e
abbrev mLcN (i : MI) (g : MG) (t : MT) (x : ME) (vs : List Nat) : Ev → (List D → Prop) → XD → Prop := fun ρ q e => i ρ (fun xs => mLcL g t x vs ρ e xs [] q) e
abbrev mLc (i : MI) (g : MG) (t : MT) (x : ME) (vs : List Nat) : ME := fun ρ q e => mLcN i g t x vs ρ (fun ds => q (.lst ds)) e
abbrev mYes : MT := fun _ q _ => q true
theorem si_yes : SimT E tYes mYes := fun W H0 H σ ρ Q q e R h k _ => k W _ H (.refl R.ok) h
/-- a new list comes -/
def Kn (W : Wd) (H : Hp) (Q : VK) (q : List D → Prop) : Prop := ∀ W' H' p vs ds, Go W H W' H' → H p = none → H' p = some (.lst vs) → W'.F p = none → ¬ W'.G p → VdA W' vs ds → q ds → Q (.ref p) H'
def SimN (E : XK) (te : TE) (m : MA) : Prop := ∀ W H0 H σ ρ Q q e, Rep W H0 H σ ρ → m ρ q e → Kn W H Q q → Kx W H E e → te σ H Q
theorem kn_of {W : Wd} {H : Hp} {Q : VK} {q : KD} (k0 : Ok W H) (k : Kv W H Q q) : Kn W H Q fun ds => q (.lst ds) := fun W' H' p vs ds g hp e f n t h => by
  obtain ⟨g2, l2⟩ := g.freeze hp f n e
  exact k _ _ _ H' g2 (.lst (upd_same (H := W'.F)) (t.mono l2)) h
theorem si_new (h : SimN E te ma) : SimE E te (fun ρ q e => ma ρ (fun ds => q (.lst ds)) e) := fun W H0 H σ ρ Q q e R hm k kx => h W H0 H σ ρ Q _ e R hm (kn_of R.ok k) kx
theorem sn_lc {vs : List Nat} {tx : TE} {mx : ME} (hi : SimI E ti mi) (hg : SimG g mg is) (ht : SimT E tt mt) (hx : SimE E tx mx) (hs : ∀ i ∈ is, i ∈ vs) : SimN E (tLc ti g tt tx vs) (mLcN mi mg mt mx vs) := fun W H0 H σ ρ Q q e R h k kx =>
  hi W H0 H σ ρ _ _ e R h (fun W1 J xs H1 g1 hJ h1 Da hD => by
    have nD := g1.ok.no hD
    have g0 := Go.own (o := .lst []) g1.ok hD
    refine ⟨fun i m H2 => m = xs.length - i ∧ i ≤ xs.length ∧ ∃ W2 us acc, Go W1 H1 W2 H2 ∧ H2 Da = some (.lst us) ∧ VdA W2 us acc ∧ W2.F Da = none ∧ ¬ W2.G Da ∧ mLcL mg mt mx vs ρ e (xs.drop i) acc q, ⟨xs.length, by simp, Nat.zero_le _, W1, [], [], g0, upd_same, .nil, nD.1, nD.2, h1⟩, ?_⟩
    rintro i m H2 ⟨rfl, hi, W2, us, acc, g2, e2, t2, f2, n2, h2⟩
    by_cases hlt : i < xs.length
    · rw [List.drop_eq_getElem_cons hlt] at h2
      obtain ⟨j1, j2⟩ := (hJ i W2 H2 g2.le g2.ok).1 xs[i] (List.getElem?_eq_getElem hlt)
      refine .inr ⟨j1, fun H3 => ∃ W3 us acc, Go W1 H1 W3 H3 ∧ H3 Da = some (.lst us) ∧ VdA W3 us acc ∧ W3.F Da = none ∧ ¬ W3.G Da ∧ mLcL mg mt mx vs ρ e (xs.drop (i + 1)) acc q, fun H3 ⟨W3, us3, acc3, z⟩ => ⟨xs.length - (i + 1), by omega, rfl, hlt, W3, us3, acc3, z⟩, fun v H3 y => ?_⟩
      obtain ⟨W3, g3, hv⟩ := j2 v H3 y
      -- the new list through a step
      have stay : ∀ {W3 H3 W4 H4}, Ok W3 H3 → Go W3 H3 W4 H4 → ∀ {us acc}, H3 Da = some (.lst us) → VdA W3 us acc → W3.F Da = none → ¬ W3.G Da → H4 Da = some (.lst us) ∧ VdA W4 us acc ∧ W4.F Da = none ∧ ¬ W4.G Da := fun {W3 H3 W4 H4} k3 g4 {us acc} e3 t3 f3 n3 => by
        refine ⟨g4.p _ _ e3 n3, t3.mono g4.le, ?_, fun z => ?_⟩
        · cases z : W4.F Da with
          | none => rfl
          | some o =>
            rcases g4.fn Da o z with z | z | ⟨ys, z⟩
            · rw [f3] at z; cases z
            · rw [e3] at z; cases z
            · rw [e3] at z; cases z
        · rcases g4.gn Da z with z | z
          · exact n3 z
          · rw [e3] at z; cases z
      have s3 := stay g2.ok g3 e2 t2 f2 n2
      have R3 : Rep W3 H0 H3 σ ρ := (R.go (g1.trans R.ok (g2.trans g1.ok g3)))
      refine hg W3 H0 H3 v xs[i] _ _ _ _ (R3.wipe vs) hv h2 fun σ4 ρ4 R4 w4 _ h4 => ⟨by rw [w4 vs hs, wipe_two (fun _ h => h)], ?_⟩
      refine ht W3 H0 H3 σ4 ρ4 _ _ e R4 h4 (fun W5 b H5 g5 h5 => ?_) (kx.go R.ok (g1.trans R.ok (g2.trans g1.ok g3)))
      have s5 := stay g3.ok g5 s3.1 s3.2.1 s3.2.2.1 s3.2.2.2
      have g35 := (g2.trans g1.ok g3).trans g1.ok g5
      cases b with
      | true =>
        refine (hx W5 H0 H5 σ4 ρ4 _ _ e (R4.go g5) h5 (fun W6 u yd H6 g6 hu h6 => ?_) (kx.go R.ok (g1.trans R.ok g35)) : tx σ4 H5 _)
        have s6 := stay g5.ok g6 s5.1 s5.2.1 s5.2.2.1 s5.2.2.2
        refine ⟨us, s6.1, by rw [s6.2.1.length]; exact h6.1, W6, us ++ [u], acc ++ [yd], ?_, upd_same, s6.2.1.append (.one hu), s6.2.2.1, s6.2.2.2, h6.2⟩
        exact Go.mut (g35.trans g1.ok g6) hD s6.2.2.1 s6.2.2.2
      | false => exact (⟨W5, us, acc, g35, s5.1, s5.2.1, s5.2.2.1, s5.2.2.2, h5⟩ : ∃ W3 us acc, Go W1 H1 W3 H5 ∧ H5 Da = some (.lst us) ∧ VdA W3 us acc ∧ W3.F Da = none ∧ ¬ W3.G Da ∧ mLcL mg mt mx vs ρ e (xs.drop (i + 1)) acc q)
    · have e1 : i = xs.length := by omega
      subst e1
      rw [List.drop_length] at h2
      exact .inl ⟨(hJ xs.length W2 H2 g2.le g2.ok).2 (Nat.le_refl _), k W2 H2 Da us acc (g1.trans R.ok g2) (g1.gone R.ok hD) e2 f2 n2 t2 h2⟩) kx
theorem si_lc {vs : List Nat} {tx : TE} {mx : ME} (hi : SimI E ti mi) (hg : SimG g mg is) (ht : SimT E tt mt) (hx : SimE E tx mx) (hs : ∀ i ∈ is, i ∈ vs) : SimE E (tLc ti g tt tx vs) (mLc mi mg mt mx vs) := si_new (sn_lc hi hg ht hx hs)
end
end Dt
set_option Elab.async false
set_option linter.all false
set_option maxRecDepth 100000
set_option maxHeartbeats 4000000
/-! Operators and built-ins over data; defs by their promises over data. -/
namespace Dt
open PySem PySem.Spec PyProof.Rows L2 Com
/-! ### data as the library's data -/
mutual
def toPy : D → Option PyData
  | .non => some .none
  | .bl b => some (.bool b)
  | .int i => some (.int i)
  | .str s => some (.str s)
  | .tup ds => match toPyA ds with
    | some ps => some (.tuple ps)
    | none => none
  | .lst ds => match toPyA ds with
    | some ps => some (.list ps)
    | none => none
  | .obj _ _ _ => none
  | .flow _ => none
  | .scr _ _ => none
  | .dict0 => none
  | .dct _ _ _ _ => none
  | .vry _ d => toPy d
def toPyA : List D → Option (List PyData)
  | [] => some []
  | d :: ds => match toPy d with
    | some p => match toPyA ds with
      | some ps => some (p :: ps)
      | none => none
    | none => none
end
section
variable {W : Wd} {H : Hp} {K : PySem.W.Frag}
mutual
theorem dp_of (k : Ok W H) : ∀ {v : V} {d : D} {p : PyData}, Vd W v d → toPy d = some p → Dp K H v p
  | _, _, _, .non, e => by rw [toPy] at e; cases e; exact .non
  | _, _, _, .bl b, e => by rw [toPy] at e; cases e; exact .bl b
  | _, _, _, .int i, e => by rw [toPy] at e; cases e; exact .int i
  | _, _, _, .str s, e => by rw [toPy] at e; cases e; exact .str s
  | _, _, _, .tup (ds := ds) h t, e => by
    rw [toPy] at e
    cases q : toPyA ds with
    | none => rw [q] at e; cases e
    | some ps =>
      rw [q] at e
      cases e
      exact .tup (SqT.of (k.f _ _ h)) (dpA_of k t q)
  | _, _, _, .lst (ds := ds) h t, e => by
    rw [toPy] at e
    cases q : toPyA ds with
    | none => rw [q] at e; cases e
    | some ps =>
      rw [q] at e
      cases e
      exact .lst (SqL.of (k.f _ _ h)) (dpA_of k t q)
  | _, _, _, .obj _ _ _, e => by rw [toPy] at e; cases e
  | _, _, _, .flow _, e => by rw [toPy] at e; cases e
  | _, _, _, .scr _, e => by rw [toPy] at e; cases e
  | _, _, _, .dict0 _, e => by rw [toPy] at e; cases e
  | _, _, _, .dctN _ _ _ _, e => by rw [toPy] at e; cases e
  | _, _, _, .dctK _ _ _, e => by rw [toPy] at e; cases e
  | _, _, _, .vry h, e => by rw [toPy] at e; exact dp_of k h e
theorem dpA_of (k : Ok W H) : ∀ {vs : List V} {ds : List D} {ps : List PyData}, VdA W vs ds → toPyA ds = some ps → DpAll K H vs ps
  | _, _, _, .nil, e => by rw [toPyA] at e; cases e; exact .nil
  | _, _, _, .cons (d := d) (ds := ds) h t, e => by
    rw [toPyA] at e
    cases q : toPy d with
    | none => rw [q] at e; cases e
    | some p =>
      cases q2 : toPyA ds with
      | none => rw [q, q2] at e; cases e
      | some ps =>
        rw [q, q2] at e
        cases e
        exact .cons (dp_of k h q) (dpA_of k t q2)
end
end
/-! ### binary operators -/
def fAdd (x y : D) (q : KD) : Prop := match x, y with
  | .int i, .int j => q (.int (i + j))
  | .tup a, .tup b => a.length + b.length ≤ 1000 ∧ q (.tup (a ++ b))
  | .lst a, .lst b => a.length + b.length ≤ sizeLine ∧ q (.lst (a ++ b))
  | .str a, .str b => a.length + b.length ≤ sizeLine ∧ q (.str (a ++ b))
  | _, _ => False
def rPlus : R2 := fun x y H Q => (rI0 (fun i j => .int (i + j)) x y H Q) ∨ rCatB x y H Q ∨ rCat x y H Q ∨ (∃ i j, x = .str i ∧ y = .str j ∧ i.length + j.length ≤ sizeLine ∧ Q (.str (i ++ j)) H)
theorem op_plus {X : Cx} : OpR X (binaryOp .Add) rPlus := by
  intro pins s σ H x y v u Q I rx ry h
  rcases h with h | h | h | h
  · exact op_add pins s σ H x y v u Q I rx ry h
  · exact catB pins s σ H x y v u Q I rx ry h
  · exact op_cat pins s σ H x y v u Q I rx ry h
  · exact op_add_str pins s σ H x y v u Q I rx ry h
theorem sr_plus : SimR rPlus fAdd := fun W H x y dx dy Q q k hx hy h hk => by
  cases hx with
  | int i =>
    cases hy with
    | int j => exact .inl ⟨i, j, rfl, rfl, hk W _ _ H (.refl k) (.int _) h⟩
    | _ => exact h.elim
  | str i =>
    cases hy with
    | str j => exact .inr (.inr (.inr ⟨i, j, rfl, rfl, h.1, hk W _ _ H (.refl k) (.str _) h.2⟩))
    | _ => exact h.elim
  | tup a1 t1 =>
    cases hy with
    | tup a2 t2 =>
      refine .inr (.inl ⟨_, _, _, _, rfl, rfl, k.f _ _ a1, k.f _ _ a2, by rw [t1.length, t2.length]; exact h.1, fun p H' hp s => ?_⟩)
      have g := Go.putS k s hp (.inr ⟨_, rfl⟩)
      exact hk _ _ _ H' g (.tup (upd_same (H := W.F)) ((t1.append t2).mono g.le)) h.2
    | _ => exact h.elim
  | lst a1 t1 =>
    cases hy with
    | lst a2 t2 =>
      refine .inr (.inr (.inl ⟨_, _, _, _, rfl, rfl, k.f _ _ a1, k.f _ _ a2, by rw [t1.length, t2.length]; exact h.1, fun p hp => ?_⟩))
      exact hk _ _ _ _ (Go.put k hp) (.lst (upd_same (H := W.F)) ((t1.append t2).mono (Go.put k hp).le)) h.2
    | _ => exact h.elim
  | _ => exact h.elim
def fI (c : Int → Int → Prop) (g : Int → Int → D) : D → D → KD → Prop := fun x y q => match x, y with
  | .int i, .int j => c i j ∧ q (g i j)
  | _, _ => False
theorem sr_I {C : Int → Int → Prop} {g : Int → Int → Int} : SimR (rI C fun i j => .int (g i j)) (fI C fun i j => .int (g i j)) := fun W H x y dx dy Q q k hx hy h hk => by
  cases hx with
  | int i =>
    cases hy with
    | int j => exact ⟨i, j, rfl, rfl, h.1, hk W _ _ H (.refl k) (.int _) h.2⟩
    | _ => exact h.elim
  | _ => exact h.elim
theorem sr_I0 {g : Int → Int → Int} : SimR (rI0 fun i j => .int (g i j)) (fI (fun _ _ => True) fun i j => .int (g i j)) := fun W H x y dx dy Q q k hx hy h hk => by
  cases hx with
  | int i =>
    cases hy with
    | int j => exact ⟨i, j, rfl, rfl, hk W _ _ H (.refl k) (.int _) h.2⟩
    | _ => exact h.elim
  | _ => exact h.elim
theorem sr_B0 {g : Int → Int → Bool} : SimR (rI0 fun i j => .bl (g i j)) (fI (fun _ _ => True) fun i j => .bl (g i j)) := fun W H x y dx dy Q q k hx hy h hk => by
  cases hx with
  | int i =>
    cases hy with
    | int j => exact ⟨i, j, rfl, rfl, hk W _ _ H (.refl k) (.bl _) h.2⟩
    | _ => exact h.elim
  | _ => exact h.elim
def fEq (neg : Bool) (x y : D) (q : KD) : Prop := ∃ p r, toPy x = some p ∧ toPy y = some r ∧ SeqAt.shaped p = true ∧ SeqAt.shaped r = true ∧ q (.bl (if neg then !PyData.eqv p r else PyData.eqv p r))
theorem sr_eq {K : PySem.W.Frag} : SimR (rEqD K) (fEq false) := fun W H x y dx dy Q q k hx hy h hk => by
  obtain ⟨p, r, e1, e2, s1, s2, h⟩ := h
  exact ⟨p, r, dp_of k hx e1, dp_of k hy e2, s1, s2, hk W _ _ H (.refl k) (.bl _) h⟩
theorem sr_ne {K : PySem.W.Frag} : SimR (rNeD K) (fEq true) := fun W H x y dx dy Q q k hx hy h hk => by
  obtain ⟨p, r, e1, e2, s1, s2, h⟩ := h
  exact ⟨p, r, dp_of k hx e1, dp_of k hy e2, s1, s2, hk W _ _ H (.refl k) (.bl _) h⟩
def isNon : D → Bool
  | .non => true
  | .vry _ d => isNon d
  | _ => false
theorem isNon_eq {W : Wd} {v : V} : ∀ {d : D}, Vd W v d → decide (v = .non) = isNon d
  | D.vry _ d, h => by cases h with | vry h => exact isNon_eq (d := d) h
  | .non, h => by cases h; rfl
  | .bl _, h => by cases h; exact decide_eq_false (fun z => nomatch z)
  | .int _, h => by cases h; exact decide_eq_false (fun z => nomatch z)
  | .str _, h => by cases h; exact decide_eq_false (fun z => nomatch z)
  | .tup _, h => by cases h; exact decide_eq_false (fun z => nomatch z)
  | .lst _, h => by cases h; exact decide_eq_false (fun z => nomatch z)
  | .obj _ _ _, h => by cases h; exact decide_eq_false (fun z => nomatch z)
  | .flow _, h => by cases h; exact decide_eq_false (fun z => nomatch z)
  | .scr _ _, h => by cases h; exact decide_eq_false (fun z => nomatch z)
  | .dict0, h => by cases h; exact decide_eq_false (fun z => nomatch z)
  | .dct _ _ _ _, h => by cases h <;> exact decide_eq_false (fun z => nomatch z)
def fIsN (neg : Bool) (x y : D) (q : KD) : Prop := y = .non ∧ q (.bl (if neg then !isNon x else isNon x))
theorem sr_isN : SimR (fun x y H Q => y = .non ∧ Q (.bl (decide (x = .non))) H) (fIsN false) := fun W H x y dx dy Q q k hx hy h hk => by
  obtain ⟨rfl, h⟩ := h
  cases hy
  refine ⟨rfl, ?_⟩
  rw [isNon_eq hx]
  exact hk W _ _ H (.refl k) (.bl _) h
theorem sr_notN : SimR (fun x y H Q => y = .non ∧ Q (.bl (!decide (x = .non))) H) (fIsN true) := fun W H x y dx dy Q q k hx hy h hk => by
  obtain ⟨rfl, h⟩ := h
  cases hy
  refine ⟨rfl, ?_⟩
  rw [isNon_eq hx]
  exact hk W _ _ H (.refl k) (.bl _) h
def fIsB (neg : Bool) (x y : D) (q : KD) : Prop := match x, y with
  | .bl a, .bl b => q (.bl (if neg then !decide (a = b) else decide (a = b)))
  | _, _ => False
theorem sr_isB : SimR (fun x y H Q => ∃ a b, x = .bl a ∧ y = .bl b ∧ Q (.bl (decide (a = b))) H) (fIsB false) := fun W H x y dx dy Q q k hx hy h hk => by
  cases hx with
  | bl a =>
    cases hy with
    | bl b => exact ⟨a, b, rfl, rfl, hk W _ _ H (.refl k) (.bl _) h⟩
    | _ => exact h.elim
  | _ => exact h.elim
theorem sr_isnotB : SimR (fun x y H Q => ∃ a b, x = .bl a ∧ y = .bl b ∧ Q (.bl (!decide (a = b))) H) (fIsB true) := fun W H x y dx dy Q q k hx hy h hk => by
  cases hx with
  | bl a =>
    cases hy with
    | bl b => exact ⟨a, b, rfl, rfl, hk W _ _ H (.refl k) (.bl _) h⟩
    | _ => exact h.elim
  | _ => exact h.elim
/-! ### in -/
def rInT (K : PySem.W.Frag) : R2 := fun x y H Q => ∃ d ds, Dp K H x d ∧ Dp K H y (.tuple ds) ∧ SeqAt.shaped d = true ∧ SeqAt.shaped (.list ds) = true ∧ Q (.bl (ds.any fun z => PyData.eqv z d)) H
theorem op_inT {X : Cx} (K : PySem.W.Frag) (hu : X.A.units + 65 < cLine) (hK : X.K = K := by rfl) : OpR X (compareOp .In) (rInT K) := by
  subst hK
  intro pins s σ H x y v u Q I rx ry h
  obtain ⟨d, ds, hd, he, sd, se, q⟩ := h
  obtain ⟨as, r1⟩ := Dp.reads I d x v hd rx
  obtain ⟨bs, r2⟩ := Dp.reads I (.tuple ds) y u he ry
  exact SeqAt.in_tuple_reads r2 r1 (SeqAt.canLay_of_shaped se) (SeqAt.canLay_of_shaped sd) (room_in_shaped sd hu) ⟨.bl _, H, I, rfl, q⟩
def rInU (K : PySem.W.Frag) : R2 := fun x y H Q => rInT K x y H Q ∨ rInD K x y H Q
def rNotInU (K : PySem.W.Frag) : R2 := fun x y H Q => Gn.rNotInT K x y H Q ∨ rNotInD K x y H Q
theorem op_inU {X : Cx} (K : PySem.W.Frag) (hu : X.A.units + 65 < cLine) (hK : X.K = K := by rfl) : OpR X (compareOp .In) (rInU K) := by
  intro pins s σ H x y v u Q I rx ry h
  rcases h with h | h
  · exact op_inT K hu hK pins s σ H x y v u Q I rx ry h
  · subst hK; exact op_inD hu pins s σ H x y v u Q I rx ry h
theorem op_notInU {X : Cx} (K : PySem.W.Frag) (hu : X.A.units + 65 < cLine) (hK : X.K = K := by rfl) : OpR X (compareOp .NotIn) (rNotInU K) := by
  intro pins s σ H x y v u Q I rx ry h
  rcases h with h | h
  · exact Gn.notInT K hu hK pins s σ H x y v u Q I rx ry h
  · subst hK; exact op_notInD hu pins s σ H x y v u Q I rx ry h
def fIn (neg : Bool) (x y : D) (q : KD) : Prop := ∃ p ds ps, toPy x = some p ∧ (y = .tup ds ∨ y = .lst ds) ∧ toPyA ds = some ps ∧ SeqAt.shaped p = true ∧ SeqAt.shaped (.list ps) = true ∧ q (.bl (if neg then !ps.any (fun z => PyData.eqv z p) else ps.any fun z => PyData.eqv z p))
theorem sr_in {K : PySem.W.Frag} : SimR (rInU K) (fIn false) := fun W H x y dx dy Q q k hx hy h hk => by
  obtain ⟨p, ds, ps, e1, e2, e3, s1, s2, h⟩ := h
  rcases e2 with rfl | rfl
  · exact .inl ⟨p, ps, dp_of k hx e1, dp_of k hy (by rw [toPy, e3]), s1, s2, hk W _ _ H (.refl k) (.bl _) h⟩
  · exact .inr ⟨p, ps, dp_of k hx e1, dp_of k hy (by rw [toPy, e3]), s1, s2, hk W _ _ H (.refl k) (.bl _) h⟩
theorem sr_notIn {K : PySem.W.Frag} : SimR (rNotInU K) (fIn true) := fun W H x y dx dy Q q k hx hy h hk => by
  obtain ⟨p, ds, ps, e1, e2, e3, s1, s2, h⟩ := h
  rcases e2 with rfl | rfl
  · exact .inl ⟨p, ps, dp_of k hx e1, dp_of k hy (by rw [toPy, e3]), s1, s2, hk W _ _ H (.refl k) (.bl _) h⟩
  · exact .inr ⟨p, ps, dp_of k hx e1, dp_of k hy (by rw [toPy, e3]), s1, s2, hk W _ _ H (.refl k) (.bl _) h⟩
/-! ### subscripts, slices, tuple * int -/
def rIxU (K : PySem.W.Frag) : R2 := fun x y H Q => rIxL K x y H Q ∨ rIxT K x y H Q
theorem ixU {X : Cx} (K : PySem.W.Frag) (hK : X.K = K := by rfl) : IxR X (rIxU K) := by
  intro value slice pins s σ H x y v u Q I rx ry h he
  rcases h with h | h
  · exact ixL K hK value slice pins s σ H x y v u Q I rx ry h he
  · exact ixT K hK value slice pins s σ H x y v u Q I rx ry h he
def fIx (x y : D) (q : KD) : Prop := ∃ ds i d, (x = .tup ds ∨ x = .lst ds) ∧ y = .int i ∧ atI ds i = some d ∧ q d
theorem atI_vd {W : Wd} {vs : List V} {ds : List D} {i : Int} {d : D} (t : VdA W vs ds) (h : atI ds i = some d) : ∃ v, atI vs i = some v ∧ Vd W v d := by
  unfold atI at h ⊢
  rw [t.length]
  cases e : ixN ds.length i with
  | none =>
    rw [e] at h
    cases h
  | some j =>
    rw [e] at h
    exact t.get' h
theorem sr_ix {K : PySem.W.Frag} : SimR (rIxU K) fIx := fun W H x y dx dy Q q k hx hy h hk => by
  obtain ⟨ds, i, d, e1, rfl, e3, h⟩ := h
  cases hy
  rcases e1 with rfl | rfl
  · obtain ⟨a, vs, rfl, f, hh, t⟩ := tup_of k hx rfl
    obtain ⟨v, e4, hv⟩ := atI_vd t e3
    exact .inr ⟨a, vs, i, v, rfl, rfl, SqT.of hh, e4, hk W v d H (.refl k) hv h⟩
  · obtain ⟨a, vs, rfl, f, hh, t⟩ := lst_of k hx rfl
    obtain ⟨v, e4, hv⟩ := atI_vd t e3
    exact .inl ⟨a, vs, i, v, rfl, rfl, SqL.of hh, e4, hk W v d H (.refl k) hv h⟩
def cutD (xs : List D) (lo hi : Option Int) : List D := (xs.drop (HT.sIx xs.length 0 lo)).take (HT.sIx xs.length xs.length hi - HT.sIx xs.length 0 lo)
theorem VdA.cut {W : Wd} {vs : List V} {ds : List D} (t : VdA W vs ds) (lo hi : Option Int) : VdA W (cutV vs lo hi) (cutD ds lo hi) := by
  unfold cutV cutD
  rw [t.length]
  exact (t.drop _).take _
def rSlU (K : PySem.W.Frag) : V → Option Int → Option Int → Hp → VK → Prop := fun x lo hi H Q => rCutT x lo hi H Q ∨ rSlL K x lo hi H Q
theorem slU {X : Cx} (K : PySem.W.Frag) (hK : X.K = K := by rfl) : SlR X (rSlU K) := by
  intro pins s σ H x v vl vu lo hi sl Q I rx hs pl pu h
  rcases h with h | h
  · exact slT pins s σ H x v vl vu lo hi sl Q I rx hs pl pu h
  · exact slL K hK pins s σ H x v vl vu lo hi sl Q I rx hs pl pu h
def fSl (x : D) (lo hi : Option Int) (q : KD) : Prop := match x with
  | .tup ds => q (.tup (cutD ds lo hi))
  | .lst ds => q (.lst (cutD ds lo hi))
  | _ => False
theorem sl_U {K : PySem.W.Frag} : SimSl (rSlU K) fSl := fun W H x dx lo hi Q q k hx h hk => by
  cases hx with
  | tup a t =>
    refine .inl ⟨_, _, rfl, k.f _ _ a, fun p H' hp s => ?_⟩
    have g := Go.putS k s hp (.inr ⟨_, rfl⟩)
    exact hk _ _ _ H' g (.tup (upd_same (H := W.F)) ((t.cut lo hi).mono g.le)) h
  | lst a t =>
    refine .inr ⟨_, _, rfl, SqL.of (k.f _ _ a), fun p hp => ?_⟩
    exact hk _ _ _ _ (Go.put k hp) (.lst (upd_same (H := W.F)) ((t.cut lo hi).mono (Go.put k hp).le)) h
  | _ => exact h.elim
def fRep (x y : D) (q : KD) : Prop := match x, y with
  | .tup ds, .int k => ds ≠ [] ∧ 1 ≤ k ∧ k ≤ 1000 ∧ ds.length ≤ 1000 ∧ q (.tup (List.replicate k.toNat ds).flatten)
  | _, _ => False
theorem VdA.rep {W : Wd} {vs : List V} {ds : List D} (t : VdA W vs ds) : ∀ n, VdA W (List.replicate n vs).flatten (List.replicate n ds).flatten
  | 0 => .nil
  | n + 1 => by
    rw [List.replicate_succ, List.replicate_succ, List.flatten_cons, List.flatten_cons]
    exact t.append (VdA.rep t n)
theorem sr_rep {K : PySem.W.Frag} : SimR (rRepA K) fRep := fun W H x y dx dy Q q k hx hy h hk => by
  cases hx with
  | tup a t =>
    cases hy with
    | int i =>
      obtain ⟨h1, h2, h3, h4, h⟩ := h
      refine ⟨_, i, _, rfl, rfl, k.f _ _ a, fun z => h1 ?_, h2, h3, by rw [t.length]; exact h4, fun p H' hp s => ?_⟩
      · subst z
        cases t
        rfl
      · have g := Go.putS k s hp (.inr ⟨_, rfl⟩)
        exact hk _ _ _ H' g (.tup (upd_same (H := W.F)) ((t.rep _).mono g.le)) h
    | _ => exact h.elim
  | _ => exact h.elim
theorem su_neg : SimU (rU fun i => .int (-i)) (fun x q => match x with | .int i => q (.int (-i)) | _ => False) := fun W H x dx Q q k hx h hk => by
  cases hx with
  | int i => exact ⟨i, rfl, hk W _ _ H (.refl k) (.int _) h⟩
  | _ => exact h.elim
/-! ### built-ins -/
def fLen (K : PySem.W.Frag) (xs : List D) (q : KD) : Prop := (∃ ds, (xs = [.tup ds] ∨ xs = [.lst ds]) ∧ q (.int (ds.length : Nat))) ∨ ∃ ns, xs = [.scr K ns] ∧ q (.int (ns.length : Nat))
theorem one_of {W : Wd} {vs : List V} {d : D} (h : VdA W vs [d]) : ∃ v, vs = [v] ∧ Vd W v d := by
  cases h with
  | cons h t =>
    cases t
    exact ⟨_, rfl, h⟩
theorem two_of {W : Wd} {vs : List V} {d e : D} (h : VdA W vs [d, e]) : ∃ v u, vs = [v, u] ∧ Vd W v d ∧ Vd W u e := by
  cases h with
  | cons h t =>
    obtain ⟨u, rfl, hu⟩ := one_of t
    exact ⟨_, _, rfl, h, hu⟩
theorem sc_len {K : PySem.W.Frag} : SimC (Com.rLen K) (fLen K) := fun W H xs ds Q q k hx h hk => by
  rcases h with ⟨es, e1, h⟩ | ⟨ns, rfl, h⟩
  rcases e1 with rfl | rfl
  · obtain ⟨v, rfl, hv⟩ := one_of hx
    obtain ⟨a, vs, rfl, f, hh, t⟩ := tup_of k hv rfl
    exact ⟨a, vs, rfl, .inr (SqT.of hh), by rw [t.length]; exact hk W _ _ H (.refl k) (.int _) h⟩
  · obtain ⟨v, rfl, hv⟩ := one_of hx
    obtain ⟨a, vs, rfl, f, hh, t⟩ := lst_of k hv rfl
    exact ⟨a, vs, rfl, .inl (SqL.of hh), by rw [t.length]; exact hk W _ _ H (.refl k) (.int _) h⟩
  · obtain ⟨v, rfl, hv⟩ := one_of hx
    cases hv with
    | scr g => exact ⟨_, _, rfl, .inl (g H k.f), by rw [List.length_map]; exact hk W _ _ H (.refl k) (.int _) h⟩
def fTuple (xs : List D) (q : KD) : Prop := ∃ ds, (xs = [.tup ds] ∨ xs = [.lst ds]) ∧ q (.tup ds)
def fList (xs : List D) (q : List D → Prop) : Prop := ∃ ds, (xs = [.tup ds] ∨ xs = [.lst ds]) ∧ q ds
theorem sc_tuple {K : PySem.W.Frag} : SimC (rTupleOf K) fTuple := fun W H xs ds Q q k hx h hk => by
  obtain ⟨es, e1, h⟩ := h
  rcases e1 with rfl | rfl
  · obtain ⟨v, rfl, hv⟩ := one_of hx
    obtain ⟨a, vs, rfl, f, hh, t⟩ := tup_of k hv rfl
    exact ⟨a, vs, rfl, .inr ⟨SqT.of hh, hk W _ _ H (.refl k) (.tup f t) h⟩⟩
  · obtain ⟨v, rfl, hv⟩ := one_of hx
    obtain ⟨a, vs, rfl, f, hh, t⟩ := lst_of k hv rfl
    refine ⟨a, vs, rfl, .inl ⟨SqL.of hh, fun p hp => ?_⟩⟩
    have g := Go.put (o := .tup vs) k hp
    exact hk _ _ _ _ g (.tup (upd_same (H := W.F)) (t.mono g.le)) h
/-- a built-in that makes a new list -/
def SimCN (r : List V → Hp → VK → Prop) (f : List D → (List D → Prop) → Prop) : Prop := ∀ W H xs ds Q q, Ok W H → VdA W xs ds → f ds q → Kn W H Q q → r xs H Q
theorem scn_list {K : PySem.W.Frag} : SimCN (rListOf K) fList := fun W H xs ds Q q k hx h hk => by
  obtain ⟨es, e1, h⟩ := h
  rcases e1 with rfl | rfl
  · obtain ⟨v, rfl, hv⟩ := one_of hx
    obtain ⟨a, vs, rfl, f, hh, t⟩ := tup_of k hv rfl
    exact ⟨a, vs, rfl, .inr (SqT.of hh), fun p hp => hk W _ p vs es (.own k hp) hp upd_same (k.no hp).1 (k.no hp).2 t h⟩
  · obtain ⟨v, rfl, hv⟩ := one_of hx
    obtain ⟨a, vs, rfl, f, hh, t⟩ := lst_of k hv rfl
    exact ⟨a, vs, rfl, .inl (SqL.of hh), fun p hp => hk W _ p vs es (.own k hp) hp upd_same (k.no hp).1 (k.no hp).2 t h⟩
theorem sn_cb {E : XK} {n : Nat} {ta : TA} {ma : MA} {r : List V → Hp → VK → Prop} {f : List D → (List D → Prop) → Prop} (ha : SimA E n ta ma) (hr : SimCN r f) : SimN E (tCB r ta) (fun ρ q e => ma ρ (fun ds => f ds q) e) := fun W H0 H σ ρ Q q e R h k kx =>
  ha W H0 H σ ρ _ _ e R h (fun W1 xs ds H1 g1 hx _ h1 => hr W1 H1 xs ds Q q g1.ok hx h1 fun W' H' p vs es g hp e1 f1 n1 t1 h2 => k W' H' p vs es (g1.trans R.ok g) (g1.gone R.ok hp) e1 f1 n1 t1 h2) kx
theorem sc_list {K : PySem.W.Frag} : SimC (rListOf K) (fun xs q => fList xs fun ds => q (.lst ds)) := fun W H xs ds Q q k hx h hk => scn_list W H xs ds Q _ k hx h (kn_of k hk)
theorem sn_lst {E : XK} {n : Nat} {ta : TA} {ma : MA} (ha : SimA E n ta ma) : SimN E (tLst ta) (fun ρ q e => ma ρ (fun ds => ds.length ≤ sizeLine ∧ q ds) e) := fun W H0 H σ ρ Q q e R h k kx =>
  ha W H0 H σ ρ _ _ e R h (fun W1 xs ds H1 g1 hx _ h1 => ⟨by rw [hx.length]; exact h1.1, fun p hp => k W1 _ p xs ds (g1.trans R.ok (.own g1.ok hp)) (g1.gone R.ok hp) upd_same (g1.ok.no hp).1 (g1.ok.no hp).2 hx h1.2⟩) kx
def bools : List D → Option (List Bool)
  | [] => some []
  | .bl b :: ds => match bools ds with
    | some bs => some (b :: bs)
    | none => none
  | _ :: _ => none
theorem bools_map : ∀ {ds : List D} {bs : List Bool}, bools ds = some bs → ds = bs.map .bl
  | [], bs, h => by
    rw [bools] at h
    cases h
    rfl
  | d :: ds, bs, h => by
    cases d with
    | bl b =>
      rw [bools] at h
      cases e : bools ds with
      | none => rw [e] at h; cases h
      | some cs =>
        rw [e] at h
        cases h
        rw [bools_map e]
        rfl
    | _ => rw [bools] at h; cases h; (intro b e; cases e)
theorem bools_of : ∀ bs : List Bool, bools (bs.map .bl) = some bs
  | [] => rfl
  | b :: bs => by rw [List.map_cons, bools, bools_of bs]
def fAll (xs : List D) (q : KD) : Prop := ∃ bs : List Bool, xs = [.lst (bs.map .bl)] ∧ q (.bl (bs.all id))
def fAny (xs : List D) (q : KD) : Prop := ∃ bs : List Bool, xs = [.lst (bs.map .bl)] ∧ q (.bl (bs.any id))
theorem sc_all {K : PySem.W.Frag} : SimC (rAll K) fAll := fun W H xs ds Q q k hx h hk => by
  obtain ⟨bs, rfl, h⟩ := h
  obtain ⟨v, rfl, hv⟩ := one_of hx
  obtain ⟨a, vs, rfl, f, hh, t⟩ := lst_of k hv rfl
  exact ⟨a, bs, rfl, SqL.of (by rw [hh, t.of_bls]), hk W _ _ H (.refl k) (.bl _) h⟩
theorem sc_any {K : PySem.W.Frag} : SimC (rAny K) fAny := fun W H xs ds Q q k hx h hk => by
  obtain ⟨bs, rfl, h⟩ := h
  obtain ⟨v, rfl, hv⟩ := one_of hx
  obtain ⟨a, vs, rfl, f, hh, t⟩ := lst_of k hv rfl
  exact ⟨a, bs, rfl, SqL.of (by rw [hh, t.of_bls]), hk W _ _ H (.refl k) (.bl _) h⟩
def fSum (xs : List D) (q : KD) : Prop := ∃ ns : List Int, xs = [.lst (ns.map .int)] ∧ q (.int ns.sum)
theorem sc_sum {K : PySem.W.Frag} : SimC (rSum K) fSum := fun W H xs ds Q q k hx h hk => by
  obtain ⟨bs, rfl, h⟩ := h
  obtain ⟨v, rfl, hv⟩ := one_of hx
  obtain ⟨a, vs, rfl, f, hh, t⟩ := lst_of k hv rfl
  exact ⟨a, bs, rfl, SqL.of (by rw [hh, t.of_ints]), hk W _ _ H (.refl k) (.int _) h⟩
def fMax (xs : List D) (q : KD) : Prop := ∃ ns : List Int, xs = [.lst (ns.map .int)] ∧ 0 < ns.length ∧ ∀ m, m ∈ ns → (∀ y, y ∈ ns → y ≤ m) → q (.int m)
def fMin (xs : List D) (q : KD) : Prop := ∃ ns : List Int, xs = [.lst (ns.map .int)] ∧ 0 < ns.length ∧ ∀ m, m ∈ ns → (∀ y, y ∈ ns → m ≤ y) → q (.int m)
theorem sc_max {K : PySem.W.Frag} : SimC (rMax K) fMax := fun W H xs ds Q q k hx h hk => by
  obtain ⟨bs, rfl, l, h⟩ := h
  obtain ⟨v, rfl, hv⟩ := one_of hx
  obtain ⟨a, vs, rfl, f, hh, t⟩ := lst_of k hv rfl
  exact ⟨a, bs, rfl, SqL.of (by rw [hh, t.of_ints]), l, fun m h1 h2 => hk W _ _ H (.refl k) (.int _) (h m h1 h2)⟩
theorem sc_min {K : PySem.W.Frag} : SimC (rMin K) fMin := fun W H xs ds Q q k hx h hk => by
  obtain ⟨bs, rfl, l, h⟩ := h
  obtain ⟨v, rfl, hv⟩ := one_of hx
  obtain ⟨a, vs, rfl, f, hh, t⟩ := lst_of k hv rfl
  exact ⟨a, bs, rfl, SqL.of (by rw [hh, t.of_ints]), l, fun m h1 h2 => hk W _ _ H (.refl k) (.int _) (h m h1 h2)⟩
def fMax2 (xs : List D) (q : KD) : Prop := ∃ i j, xs = [.int i, .int j] ∧ q (.int (if j > i then j else i))
def fMin2 (xs : List D) (q : KD) : Prop := ∃ i j, xs = [.int i, .int j] ∧ q (.int (if j < i then j else i))
theorem sc_max2 : SimC (fun xs H Q => ∃ i j, xs = [.int i, .int j] ∧ Q (.int (if j > i then j else i)) H) fMax2 := fun W H xs ds Q q k hx h hk => by
  obtain ⟨i, j, rfl, h⟩ := h
  exact ⟨i, j, hx.of_ints (ns := [i, j]), hk W _ _ H (.refl k) (.int _) h⟩
theorem sc_min2 : SimC (fun xs H Q => ∃ i j, xs = [.int i, .int j] ∧ Q (.int (if j < i then j else i)) H) fMin2 := fun W H xs ds Q q k hx h hk => by
  obtain ⟨i, j, rfl, h⟩ := h
  exact ⟨i, j, hx.of_ints (ns := [i, j]), hk W _ _ H (.refl k) (.int _) h⟩
/-! ### isinstance -/
def tyD : D → Value
  | .non => .type "NoneType"
  | .bl _ => .type "bool"
  | .int _ => .type "int"
  | .str _ => .type "str"
  | .tup _ => .type "tuple"
  | .lst _ => .type "list"
  | .obj C _ _ => .ref C
  | .flow _ => .type "list"
  | .scr _ _ => .type "list"
  | .dict0 => .type "dict"
  | .dct _ _ _ _ => .type "dict"
  | .vry _ d => tyD d
/-- what is asked of an object's class -/
structure ClsT (K : PySem.W.Frag) (C : Addr) : Prop where
  cl : Cls K C
  ca : PySem.W.findIn K (.ref C) "__class__" = some (some (.builtin "object.__class__"))
  cn : PySem.W.specialIn K (.builtin "object.__class__") "__get__" = some (some (.builtin "getset_descriptor.__get__"))
  ct : PySem.W.takesIn K (.builtin "object.__class__") = some true
  cm : PySem.W.mroIn K C (.type "object") = some true
  kN : ∀ n ∈ (["int", "bool", "tuple", "list", "str", "dict"] : List String), PySem.W.kitOne K (.ref C) (.type n) = some false
def clsOk (K : PySem.W.Frag) : D → Prop
  | .obj C _ _ => ClsT K C
  | .scr _ _ => False
  | .dct _ _ _ _ => False
  | .vry _ _ => False
  | _ => True
theorem tyx_of {K : PySem.W.Frag} {W : Wd} {H : Hp} {v : V} (k : Ok W H) : ∀ {d : D}, Vd W v d → clsOk K d → TyX K H v (tyD d)
  | .vry _ _, h, c => False.elim c
  | .non, h, c => by cases h; exact .base .non
  | .bl b, h, c => by cases h; exact .base (.bl b)
  | .int i, h, c => by cases h; exact .base (.int i)
  | .str s, h, c => by cases h; exact .base (.str s)
  | .tup _, h, c => by cases h with | tup a t => exact .base (.tup (k.f _ _ a))
  | .lst _, h, c => by cases h with | lst a t => exact .base (.lst (k.f _ _ a))
  | .obj _ _ _, h, c => by cases h with | obj a l t => exact .base (.ins (k.f _ _ a) c.cl c.ca c.cn c.ct c.cm)
  | .flow _, h, c => by
    cases h with
    | flow g =>
      obtain ⟨_, n, x, r, e⟩ := k.g _ g
      exact .base (.lst e)
  | .scr _ _, h, c => c.elim
  | .dct _ _ _ _, h, c => c.elim
  | .dict0, h, c => by cases h with | dict0 h => exact .base (.dK (k.f _ _ h))
def fIsi (K : PySem.W.Frag) (u : Value) (x : D) (q : KD) : Prop := clsOk K x ∧ ∃ b, PySem.W.kitOne K (tyD x) u = some b ∧ q (.bl b)
/-- isinstance(e, T), T a built-in class or one of one's own -/
abbrev mIsi (K : PySem.W.Frag) (u : Value) (a : ME) : ME := fun ρ q e => a ρ (fun x => fIsi K u x q) e
theorem si_isi {E : XK} {K : PySem.W.Frag} {te : TE} {me : ME} {c : V} {u : Value} (hc : ClsV c u) (ha : SimE E te me) : SimE E (tCB (rIsi K) (tCons te (tCons (tC c) tNil))) (mIsi K u me) := fun W H0 H σ ρ Q q e R h k kx =>
  ha W H0 H σ ρ _ _ e R h (fun W1 v d H1 g1 hv h1 => by
    obtain ⟨c1, b, e1, h1⟩ := h1
    exact ⟨v, c, tyD d, u, b, rfl, hc, tyx_of g1.ok hv c1, e1, k W1 _ _ H1 g1 (.bl b) h1⟩) kx
end Dt
set_option Elab.async false
set_option linter.all false
set_option maxRecDepth 100000
set_option maxHeartbeats 4000000
/-! Defs over data; lists of one's own; further walks. -/
namespace Dt
open PySem PySem.Spec PyProof.Rows L2 Com
theorem passE {X : Cx} {E : XK} : Passes CX0 X E := fun _ _ _ _ _ _ _ h => h.elim
def startD (N : List Str) (ds : List D) : Ev := ds.map (fun d => some (.d d)) ++ List.replicate (N.length - ds.length) none
theorem VdA.getD {W : Wd} {vs : List V} {ds : List D} (t : VdA W vs ds) {i : Nat} {d : D} (h : ds[i]? = some d) : ∃ v, vs[i]? = some v ∧ Vd W v d := t.get' h
theorem start_get {N : List Str} {ds : List D} {i : Nat} {e : En} (h : (startD N ds)[i]? = some (some e)) : ∃ d, e = .d d ∧ ds[i]? = some d := by
  unfold startD at h
  by_cases lt : i < (ds.map (fun d => some (En.d d))).length
  · rw [List.getElem?_append_left lt, List.getElem?_map] at h
    cases q : ds[i]? with
    | none => rw [q] at h; cases h
    | some d =>
      rw [q] at h
      cases h
      exact ⟨d, rfl, rfl⟩
  · rw [List.getElem?_append_right (by omega)] at h
    have := List.mem_of_getElem? h
    have := (List.mem_replicate.mp this).2
    cases this
theorem rep_start {W : Wd} {H : Hp} {N : List Str} {vs : List V} {ds : List D} (k : Ok W H) (t : VdA W vs ds) : Rep W H H (L2.start N vs) (startD N ds) where
  ok := k
  len := by
    unfold L2.start startD
    simp [t.length]
  at_ := fun i e h => by
    obtain ⟨d, rfl, h1⟩ := start_get h
    obtain ⟨v, h2, hv⟩ := t.get' h1
    refine ⟨v, ?_, hv⟩
    unfold L2.start
    have := (List.getElem?_eq_some_iff.mp h2).1
    rw [List.getElem?_append_left (by simpa using this), List.getElem?_map, h2]
    rfl
  sep := fun i j ds' es v h _ _ _ => by
    obtain ⟨d, e, _⟩ := start_get h
    cases e
/-- what follows a def's body -/
def endD (q : KD) : EndsD := ⟨fun _ => q .non, q, fun _ => False, fun _ => False⟩
theorem ct_end {W : Wd} {H : Hp} {Q : VK} {q : KD} {E : XK} {e : XD} (k : Kv W H Q q) (D : Ends) (h1 : D.nx = fun _ H' => Q .non H') (h2 : D.rt = Q) : Ct W H W D (endD q) where
  nx := fun W' H' σ' ρ' _ g R h => by rw [h1]; exact k W' _ _ H' g .non h
  rt := fun W' H' v x _ g hv h => by rw [h2]; exact k W' v x H' g hv h
  bk := fun W' H' σ' ρ' _ g R h => h.elim
  ct := fun W' H' σ' ρ' _ g R h => h.elim
section
variable {P : Program} {w : World} {K : PySem.W.Frag} {mg : Str → Option Value} {base : Heap} {x qual : Str} {C : Addr} {st : Stmt} {ps N : List Str} {k : Nat} {sp : SpD}
theorem DefAtD.ok (D : DefAt K mg x st ps) (S : FnScope N ps (defScope st)) (len : ∀ ds q e, sp ds q e → ds.length = ps.length)
    (hbody : ∀ (f : Addr) (cdv : Value) (A : Around) (outer : List Env) (s : Shared) (H : Hp) (E : XK), Room k (A.deeper (envOfC x (defScope st) s.heap.objs.size f cdv)) →
      ∃ t m, PSs (cxOf CX0 P w K mg base N x (defScope st) f cdv A outer s H E).nox (defBody st) t ∧ SimS E t m ∧ ∀ ds q e, sp ds q e → m (endD q) (startD N ds) e) : DefOk P w K mg base CX0 (k + 1) x (spOf sp) := by
  refine D.ok S (fun vs H Q E h => ?_) (fun f cdv A outer s H vs Q E hr h => ?_)
  · obtain ⟨W, ds, q, e, k0, t, h, _⟩ := h
    rw [t.length, len ds q e h]
  obtain ⟨W, ds, q, e, k0, t, h, kq, kx⟩ := h
  obtain ⟨t', m, p, sm, hm⟩ := hbody f cdv A outer s H E hr
  exact ⟨t', p, sm W H W H _ _ _ (endD q) e k0 (.refl k0) (rep_start k0 t) (hm ds q e h) (ct_end (E := E) (e := e) kq _ rfl rfl) kx⟩
theorem MethAtD.ok (D : MethAt K C x qual st ps) (S : FnScope N ps (defScope st)) (len : ∀ ds q e, sp ds q e → ds.length = ps.length)
    (hbody : ∀ (f : Addr) (cdv : Value) (A : Around) (outer : List Env) (s : Shared) (H : Hp) (E : XK), Room k (A.deeper (envOfC qual (defScope st) s.heap.objs.size f cdv)) →
      ∃ t m, PSs (cxOf CX0 P w K mg base N qual (defScope st) f cdv A outer s H E).nox (defBody st) t ∧ SimS E t m ∧ ∀ ds q e, sp ds q e → m (endD q) (startD N ds) e) : MethOk P w K mg base CX0 (k + 1) C x (spOf sp) := by
  refine D.fn S (fun vs H Q E h => ?_) (fun f cdv A outer s H vs Q E hr h => ?_)
  · obtain ⟨W, ds, q, e, k0, t, h, _⟩ := h
    rw [t.length, len ds q e h]
  obtain ⟨W, ds, q, e, k0, t, h, kq, kx⟩ := h
  obtain ⟨t', m, p, sm, hm⟩ := hbody f cdv A outer s H E hr
  exact ⟨t', p, sm W H W H _ _ _ (endD q) e k0 (.refl k0) (rep_start k0 t) (hm ds q e h) (ct_end (E := E) (e := e) kq _ rfl rfl) kx⟩
/-- the function itself (for calls by names) -/
theorem FunD.ok {f : Addr} {fd : FuncData} (F : Fun K x qual st f fd) (S : FnScope N ps (defScope st)) (len : ∀ ds q e, sp ds q e → ds.length = ps.length)
    (hbody : ∀ (cdv : Value) (A : Around) (outer : List Env) (s : Shared) (H : Hp) (E : XK), Room k (A.deeper (envOfC qual (defScope st) s.heap.objs.size f cdv)) →
      ∃ t m, PSs (cxOf CX0 P w K mg base N qual (defScope st) f cdv A outer s H E).nox (defBody st) t ∧ SimS E t m ∧ ∀ ds q e, sp ds q e → m (endD q) (startD N ds) e) : FnOk P w K mg base CX0 (k + 1) f fd ps (spOf sp) := by
  refine F.ok S (fun vs H Q E h => ?_) (fun cdv A outer s H vs Q E hr h => ?_)
  · obtain ⟨W, ds, q, e, k0, t, h, _⟩ := h
    rw [t.length, len ds q e h]
  obtain ⟨W, ds, q, e, k0, t, h, kq, kx⟩ := h
  obtain ⟨t', m, p, sm, hm⟩ := hbody cdv A outer s H E hr
  exact ⟨t', p, sm W H W H _ _ _ (endD q) e k0 (.refl k0) (rep_start k0 t) (hm ds q e h) (ct_end (E := E) (e := e) kq _ rfl rfl) kx⟩
theorem defok_imp {sp' : Sp} {sp'' : Sp} {CX : CXT} (D : DefOk P w K mg base CX k x sp') (h : ∀ vs H Q E, sp'' vs H Q E → sp' vs H Q E) : DefOk P w K mg base CX k x sp'' := let ⟨f, F, m, kp⟩ := D.ex; ⟨f, F.imp h, m, kp⟩
end
/-! ### a list of one's own -/
section
variable {E : XK} {K : PySem.W.Frag} {te ta ti : TE} {me mi : ME} {na : MA}
theorem Rep.newOwn {W W' : Wd} {H H0 H' : Hp} {σ : L2.St} {ρ : Ev} {i : Nat} {p : Addr} {vs : List V} {ds : List D} (R : Rep W H0 H σ ρ) (g : Go W H W' H') (hp : H p = none) (z : H0 p = none) (e : H' p = some (.lst vs)) (f : W'.F p = none) (n : ¬ W'.G p) (t : VdA W' vs ds) :
    Rep W' H0 H' (σ.set i (some (.ref p))) (ρ.set i (some (.own ds))) := by
  have R1 := R.go g
  have noa : ∀ (j : Nat) (xs : List D) (u : V), ρ[j]? = some (some (.own xs)) → σ[j]? = some (some u) → u ≠ .ref p := fun j xs u q q2 e => by
    obtain ⟨w, e1, b, ws, e2, e3, _⟩ := R.at_ j _ q
    rw [q2] at e1
    cases e1
    subst e
    cases e2
    rw [hp] at e3
    cases e3
  refine ⟨R1.ok, by rw [List.length_set, List.length_set, R.len], fun j e' q => ?_, fun j k xs ys u q1 q2 q3 q4 => ?_⟩
  · rcases getset q with ⟨rfl, e1, l⟩ | ⟨n', q⟩
    · cases e1
      exact ⟨_, List.getElem?_set_self (by rw [R.len]; exact l), p, vs, rfl, e, t, f, n, z⟩
    · obtain ⟨u, e1, s⟩ := R1.at_ j e' q
      exact ⟨u, by rw [List.getElem?_set_ne (fun z => n' z.symm)]; exact e1, s⟩
  · rcases getset q1 with ⟨e1, _, l1⟩ | ⟨n1, q1'⟩
    · rcases getset q2 with ⟨e2, _, _⟩ | ⟨n2, q2'⟩
      · rw [e1, e2]
      · rw [e1, List.getElem?_set_self (by rw [R.len]; exact l1)] at q3
        rw [List.getElem?_set_ne (fun z => n2 z.symm)] at q4
        cases q3
        exact absurd rfl (noa k _ _ q2' q4)
    · rw [List.getElem?_set_ne (fun z => n1 z.symm)] at q3
      rcases getset q2 with ⟨e2, _, l2⟩ | ⟨n2, q2'⟩
      · rw [e2, List.getElem?_set_self (by rw [R.len]; exact l2)] at q4
        cases q4
        exact absurd rfl (noa j _ _ q1' q3)
      · rw [List.getElem?_set_ne (fun z => n2 z.symm)] at q4
        exact R.sep j k xs ys u q1' q2' q3 q4
/-- x = (a new list), to be changed -/
abbrev msOwn (i : Nat) (a : MA) : MS := fun d ρ e => a ρ (fun ds => d.nx (ρ.set i (some (.own ds)))) e
theorem ss_own {i : Nat} (h : SimN E te na) : SimS E (tAsg te (gName i)) (msOwn i na) := fun W0 H0 W H σ ρ D d e k0 g R hm c kx =>
  h W H0 H σ ρ _ _ e R hm (fun W' H' p vs ds g1 hp e1 f1 n1 t1 h1 => c.nx W' H' _ _ g1.le (g.trans k0 g1) (R.newOwn g1 hp (g.gone k0 hp) e1 f1 n1 t1) h1) (kx.go k0 g)
theorem Rep.own {W : Wd} {H H0 : Hp} {σ : L2.St} {ρ : Ev} {i : Nat} {ds : List D} (R : Rep W H0 H σ ρ) (h : ρ[i]? = some (some (.own ds))) : ∃ a vs, σ[i]? = some (some (.ref a)) ∧ H a = some (.lst vs) ∧ VdA W vs ds ∧ W.F a = none ∧ ¬ W.G a ∧ H0 a = none := by
  obtain ⟨v, e, a, vs, e2, r⟩ := R.at_ i _ h
  subst e2
  exact ⟨a, vs, e, r⟩
/-- from here on it stays as it is -/
abbrev msFrz (i : Nat) (m : MS) : MS := fun d ρ e => ∃ ds, ρ[i]? = some (some (.own ds)) ∧ m d (ρ.set i (some (.d (.lst ds)))) e
theorem Rep.frz {W : Wd} {H H0 : Hp} {σ : L2.St} {ρ : Ev} {i : Nat} {a : Addr} {vs : List V} {ds : List D} (R : Rep W H0 H σ ρ) (h : ρ[i]? = some (some (.own ds))) (hs : σ[i]? = some (some (.ref a))) (k : Ok (W.put a (.lst vs)) H) (l : Le W (W.put a (.lst vs))) (t : VdA W vs ds) (f : W.F a = none) : Rep (W.put a (.lst vs)) H0 H σ (ρ.set i (some (.d (.lst ds)))) where
  ok := k
  len := by rw [List.length_set, R.len]
  at_ := fun j e q => by
    rcases getset q with ⟨rfl, e1, _⟩ | ⟨n, q⟩
    · cases e1
      exact ⟨_, hs, .lst (upd_same (H := W.F)) (t.mono l)⟩
    · obtain ⟨u, e1, s⟩ := R.at_ j e q
      refine ⟨u, e1, ?_⟩
      cases e with
      | d x => exact Vd.mono l s
      | own xs =>
        obtain ⟨b, ws, e2, e3, r1, r2, r3, r4⟩ := s
        refine ⟨b, ws, e2, e3, r1.mono l, ?_, r3, r4⟩
        show upd W.F a _ b = none
        rw [upd_ne (fun z => n (R.sep j i xs ds u q h e1 (by rw [e2, z]; exact hs)))]
        exact r2
  sep := fun j k xs ys u q1 q2 q3 q4 => by
    rcases getset q1 with ⟨_, e1, _⟩ | ⟨_, q1⟩
    · cases e1
    rcases getset q2 with ⟨_, e1, _⟩ | ⟨_, q2⟩
    · cases e1
    exact R.sep j k xs ys u q1 q2 q3 q4
theorem ss_frz {i : Nat} {ts : TS} {ms : MS} (h : SimS E ts ms) : SimS E ts (msFrz i ms) := fun W0 H0 W H σ ρ D d e k0 g R hm c kx => by
  obtain ⟨ds, h1, hm⟩ := hm
  obtain ⟨a, vs, e1, ha, t, f, n, z⟩ := R.own h1
  obtain ⟨g2, l2⟩ := g.freeze z f n ha
  exact h W0 H0 (W.put a (.lst vs)) H σ _ D d e k0 g2 (R.frz h1 e1 g2.ok l2 t f) hm (c.up l2) kx
/-- x.append(e) -/
abbrev msApp (i : Nat) (a : ME) : MS := fun d ρ e => ∃ ds, ρ[i]? = some (some (.own ds)) ∧ a ρ (fun y => ds.length < sizeLine ∧ d.nx (ρ.set i (some (.own (ds ++ [y]))))) e
theorem own_stay {W W' : Wd} {H H' : Hp} {a : Addr} {vs : List V} {ds : List D} (k : Ok W H) (g : Go W H W' H') (e : H a = some (.lst vs)) (t : VdA W vs ds) (n : ¬ W.G a) : H' a = some (.lst vs) ∧ VdA W' vs ds := ⟨g.p _ _ e n, t.mono g.le⟩
theorem ss_app {i : Nat} (ha : SimE E te me) : SimS E (tDrop (tBM K "list" rAppend (tVar i) (tCons te tNil))) (msApp i me) := fun W0 H0 W H σ ρ D d e k0 g R hm c kx => by
  obtain ⟨ds, h1, hm⟩ := hm
  obtain ⟨a, vs, e1, hh, t, f, n, z⟩ := R.own h1
  refine ⟨.ref a, e1, .inl ⟨rfl, vs, SqL.of hh⟩, ?_⟩
  refine ha W H0 H σ ρ _ _ e R hm (fun W1 v y H1 g1 hv h2 => ?_) (kx.go k0 g)
  obtain ⟨e2, t2⟩ := own_stay R.ok g1 hh t n
  obtain ⟨R2, f2, n2, z2⟩ := (R.go g1).mutOwn h1 e1 (t2.append (.one hv))
  refine ⟨a, vs, v, rfl, rfl, e2, by rw [t2.length]; exact h2.1, ?_⟩
  exact c.nx W1 _ σ _ g1.le ((g.trans k0 g1).mut z f2 n2) R2 h2.2
/-- x[k] = e -/
abbrev msSet (i : Nat) (b a : ME) : MS := fun d ρ e => ∃ ds, ρ[i]? = some (some (.own ds)) ∧ a ρ (fun y => b ρ (fun kd => ∃ k j, kd = .int k ∧ ixN ds.length k = some j ∧ d.nx (ρ.set i (some (.own (ds.set j y))))) e) e
theorem ss_set {i : Nat} (ha : SimE E te me) (hi : SimE E ti mi) : SimS E (tAsg te (gSub (tVar i) ti rSetL)) (msSet i mi me) := fun W0 H0 W H σ ρ D d e k0 g R hm c kx => by
  obtain ⟨ds, h1, hm⟩ := hm
  obtain ⟨a, vs, e1, hh, t, f, n, z⟩ := R.own h1
  refine ha W H0 H σ ρ _ _ e R hm (fun W1 v y H1 g1 hv h2 => ?_) (kx.go k0 g)
  obtain ⟨e2, t2⟩ := own_stay R.ok g1 hh t n
  refine ⟨.ref a, e1, ?_⟩
  refine hi W1 H0 H1 σ ρ _ _ e (R.go g1) h2 (fun W2 u yd H2 g2 hu h3 => ?_) (kx.go k0 (g.trans k0 g1))
  obtain ⟨kk, j, rfl, hj, h3⟩ := h3
  cases hu
  have n1 : ¬ W1.G a := fun q => by
    rcases g1.gn a q with q | q
    · exact n q
    · rw [hh] at q; cases q
  obtain ⟨e3, t3⟩ := own_stay g1.ok g2 e2 t2 n1
  obtain ⟨R2, f2, n2, z2⟩ := ((R.go g1).go g2).mutOwn h1 e1 (t3.set j (hv.mono g2.le))
  refine ⟨a, vs, kk, j, rfl, rfl, e3, by rw [t3.length]; exact hj, ?_⟩
  exact c.nx W2 _ σ _ (g1.trans R.ok g2).le ((g.trans k0 (g1.trans R.ok g2)).mut z f2 n2) R2 h3
/-- x[k] op= e -/
abbrev msAugS (i : Nat) (b a : ME) (f : D → D → KD → Prop) : MS := fun d ρ e => ∃ ds, ρ[i]? = some (some (.own ds)) ∧ b ρ (fun kd => ∃ k j x, kd = .int k ∧ ixN ds.length k = some j ∧ ds[j]? = some x ∧ a ρ (fun y => f x y fun z => d.nx (ρ.set i (some (.own (ds.set j z))))) e) e
theorem ss_augS {i : Nat} {t : TIp} {f : D → D → KD → Prop} (ha : SimE E te me) (hi : SimE E ti mi) (hp : SimIp t f) : SimS E (tAugS (tVar i) ti te (rIxL K) t rSetL) (msAugS i mi me f) := fun W0 H0 W H σ ρ D d e k0 g R hm c kx => by
  obtain ⟨ds, h1, hm⟩ := hm
  obtain ⟨a, vs, e1, hh, tt, f0, n, z⟩ := R.own h1
  refine ⟨.ref a, e1, ?_⟩
  refine hi W H0 H σ ρ _ _ e R hm (fun W1 u yd H1 g1 hu h3 => ?_) (kx.go k0 g)
  obtain ⟨kk, j, x, rfl, hj, hx, h3⟩ := h3
  cases hu
  obtain ⟨e2, t2⟩ := own_stay R.ok g1 hh tt n
  obtain ⟨v, hv, rv⟩ := t2.get' hx
  refine ⟨a, vs, kk, v, rfl, rfl, SqL.of e2, by unfold atI; rw [t2.length, hj]; exact hv, ?_⟩
  have n1 : ¬ W1.G a := fun q => by
    rcases g1.gn a q with q | q
    · exact n q
    · rw [hh] at q; cases q
  refine ha W1 H0 H1 σ ρ _ _ e (R.go g1) h3 (fun W2 y yd H2 g2 hy h4 => ?_) (kx.go k0 (g.trans k0 g1))
  refine hp W2 H2 v y x yd _ _ g2.ok (rv.mono g2.le) hy h4 fun W3 zv zd H3 g3 hz h5 => ?_
  have g23 := g2.trans g1.ok g3
  obtain ⟨e3, t3⟩ := own_stay g1.ok g23 e2 t2 n1
  obtain ⟨R2, f2, n2, z2⟩ := ((R.go g1).go g23).mutOwn h1 e1 (t3.set j hz)
  refine ⟨a, vs, kk, j, rfl, rfl, e3, by rw [t3.length]; exact hj, ?_⟩
  exact c.nx W3 _ σ _ (g1.trans R.ok g23).le ((g.trans k0 (g1.trans R.ok g23)).mut z f2 n2) R2 h5
theorem ip_I {g : Int → Int → Int} : SimIp (ipI g) (fI (fun _ _ => True) fun i j => .int (g i j)) := fun W H x y dx dy Q q k hx hy h hk => by
  cases hx with
  | int i =>
    cases hy with
    | int j => exact ⟨i, j, rfl, rfl, hk W _ _ H (.refl k) (.int _) h.2⟩
    | _ => exact h.elim
  | _ => exact h.elim
/-- a look at it: the answer is a number, a truth value, None or a text -/
def flatD : D → Bool
  | .non | .bl _ | .int _ | .str _ => true
  | _ => false
abbrev mPeek0 (i : Nat) (m : ME) : ME := fun ρ q e => ∃ ds, ρ[i]? = some (some (.own ds)) ∧ m (ρ.set i (some (.d (.lst ds)))) (fun x => flatD x = true ∧ q x) e
theorem flat_vd {W W' : Wd} {v : V} {d : D} (f : flatD d = true) (h : Vd W v d) : Vd W' v d := by
  cases h <;> first | exact .non | exact .bl _ | exact .int _ | exact .str _ | cases f
end
/-! ### two for in a comprehension -/
def mLc2O (g : MG) (t : MT) (i1 : MI) (g1 : MG) (t1 : MT) (x : ME) (vs vs1 : List Nat) (ρ : Ev) (e : XD) : List D → List D → (List D → Prop) → Prop
  | [], acc, q => q acc
  | d :: ds, acc, q => g d (wipeD ρ vs) fun ρ2 => t ρ2 (fun b => if b = true then i1 ρ2 (fun xs => mLcL g1 t1 x vs1 ρ2 e xs acc (fun acc' => mLc2O g t i1 g1 t1 x vs vs1 ρ e ds acc' q)) e else mLc2O g t i1 g1 t1 x vs vs1 ρ e ds acc q) e
abbrev mLc2N (i : MI) (g : MG) (t : MT) (i1 : MI) (g1 : MG) (t1 : MT) (x : ME) (vs vs1 : List Nat) : MA := fun ρ q e => i ρ (fun xs => mLc2O g t i1 g1 t1 x vs vs1 (plain ρ) e xs [] q) e
abbrev mLc2 (i : MI) (g : MG) (t : MT) (i1 : MI) (g1 : MG) (t1 : MT) (x : ME) (vs vs1 : List Nat) : ME := fun ρ q e => mLc2N i g t i1 g1 t1 x vs vs1 ρ (fun ds => q (.lst ds)) e
/-- the list that grows, seen from (W1, H1) -/
structure Grow (W1 : Wd) (H1 : Hp) (p : Addr) (W : Wd) (H : Hp) (us : List V) (acc : List D) : Prop where
  go : Go W1 H1 W H
  at_ : H p = some (.lst us)
  t : VdA W us acc
  f : W.F p = none
  n : ¬ W.G p
theorem Grow.step {W1 W W' : Wd} {H1 H H' : Hp} {p : Addr} {us : List V} {acc : List D} (k1 : Ok W1 H1) (x : Grow W1 H1 p W H us acc) (g : Go W H W' H') : Grow W1 H1 p W' H' us acc := by
  refine ⟨x.go.trans k1 g, g.p _ _ x.at_ x.n, x.t.mono g.le, ?_, fun z => ?_⟩
  · cases z : W'.F p with
    | none => rfl
    | some o =>
      rcases g.fn p o z with z | z | ⟨ys, z⟩
      · rw [x.f] at z; cases z
      · rw [x.at_] at z; cases z
      · rw [x.at_] at z; cases z
  · rcases g.gn p z with z | z
    · exact x.n z
    · rw [x.at_] at z; cases z
theorem Grow.add {W1 W : Wd} {H1 H : Hp} {p : Addr} {us : List V} {acc : List D} {u : V} {y : D} (hp : H1 p = none) (x : Grow W1 H1 p W H us acc) (h : Vd W u y) : Grow W1 H1 p W (upd H p (.lst (us ++ [u]))) (us ++ [u]) (acc ++ [y]) :=
  ⟨x.go.mut hp x.f x.n, upd_same, x.t.append (.one h), x.f, x.n⟩
section
variable {E : XK} {K : PySem.W.Frag} {is js : List Nat} {g g1 : TG} {mg mg1 : MG} {te : TE} {me : ME} {tt tt1 : TT} {mt mt1 : MT} {ti ti1 : TI} {mi mi1 : MI}
theorem sn_lc2 {vs vs1 : List Nat} (hi : SimI E ti mi) (hg : SimG g mg is) (ht : SimT E tt mt) (hi1 : SimI E ti1 mi1) (hg1 : SimG g1 mg1 js) (ht1 : SimT E tt1 mt1) (hx : SimE E te me) (hs : ∀ i ∈ is, i ∈ vs) (hs1 : ∀ i ∈ js, i ∈ vs1) :
    SimN E (tLc2 ti g tt ti1 g1 tt1 te vs vs1) (mLc2N mi mg mt mi1 mg1 mt1 me vs vs1) := fun W H0 H σ ρ Q q e R h k kx =>
  hi W H0 H σ ρ _ _ e R h (fun W1 J xs H1 g1' hJ h1 Da hD => by
    have nD := g1'.ok.no hD
    refine ⟨fun i m H2 => m = xs.length - i ∧ i ≤ xs.length ∧ ∃ W2 us acc, Grow W1 H1 Da W2 H2 us acc ∧ mLc2O mg mt mi1 mg1 mt1 me vs vs1 (plain ρ) e (xs.drop i) acc q, ⟨xs.length, by simp, Nat.zero_le _, W1, [], [], ⟨.own g1'.ok hD, upd_same, .nil, nD.1, nD.2⟩, h1⟩, ?_⟩
    rintro i m H2 ⟨rfl, hi, W2, us, acc, G2, h2⟩
    by_cases hlt : i < xs.length
    · rw [List.drop_eq_getElem_cons hlt] at h2
      obtain ⟨j1, j2⟩ := (hJ i W2 H2 G2.go.le G2.go.ok).1 xs[i] (List.getElem?_eq_getElem hlt)
      refine .inr ⟨j1, fun H3 => ∃ W3 us acc, Grow W1 H1 Da W3 H3 us acc ∧ mLc2O mg mt mi1 mg1 mt1 me vs vs1 (plain ρ) e (xs.drop (i + 1)) acc q, fun H3 ⟨W3, us3, acc3, z⟩ => ⟨xs.length - (i + 1), by omega, rfl, hlt, W3, us3, acc3, z⟩, fun v H3 y => ?_⟩
      obtain ⟨W3, g3, hv⟩ := j2 v H3 y
      have G3 := G2.step g1'.ok g3
      have R3 : Rep W3 H0 H3 σ (plain ρ) := (R.go (g1'.trans R.ok G3.go)).plain
      refine hg W3 H0 H3 v xs[i] _ _ _ _ (R3.wipe vs) hv h2 fun σ4 ρ4 R4 w4 n4 h4 => ⟨by rw [w4 vs hs, wipe_two (fun _ h => h)], ?_⟩
      have N4 := n4 ((plain_no ρ).wipe vs)
      refine ht W3 H0 H3 σ4 ρ4 _ _ e R4 h4 (fun W5 b H5 g5 h5 => ?_) (kx.go R.ok (g1'.trans R.ok G3.go))
      have G5 := G3.step g1'.ok g5
      cases b with
      | false => exact (⟨W5, us, acc, G5, h5⟩ : ∃ W3 us acc, Grow W1 H1 Da W3 H5 us acc ∧ mLc2O mg mt mi1 mg1 mt1 me vs vs1 (plain ρ) e (xs.drop (i + 1)) acc q)
      | true =>
        refine (hi1 W5 H0 H5 σ4 ρ4 _ _ e (R4.go g5) h5 (fun W6 J1 ys H6 g6 hJ1 h6 => ?_) (kx.go R.ok (g1'.trans R.ok G5.go)) : ti1 σ4 H5 _)
        have G6 := G5.step g1'.ok g6
        have R6 := (R4.go g5).go g6
        refine ⟨fun j m H7 => m = ys.length - j ∧ j ≤ ys.length ∧ ∃ W7 us acc, Le W6 W7 ∧ Grow W1 H1 Da W7 H7 us acc ∧ mLcL mg1 mt1 me vs1 ρ4 e (ys.drop j) acc (fun acc' => mLc2O mg mt mi1 mg1 mt1 me vs vs1 (plain ρ) e (xs.drop (i + 1)) acc' q), ⟨ys.length, by simp, Nat.zero_le _, W6, us, acc, .refl W6, G6, h6⟩, ?_⟩
        rintro j m H7 ⟨rfl, hj, W7, us7, acc7, l7, G7, h7⟩
        by_cases hlt2 : j < ys.length
        · rw [List.drop_eq_getElem_cons hlt2] at h7
          obtain ⟨j3, j4⟩ := (hJ1 j W7 H7 l7 G7.go.ok).1 ys[j] (List.getElem?_eq_getElem hlt2)
          refine .inr ⟨j3, fun H8 => ∃ W8 us acc, Le W6 W8 ∧ Grow W1 H1 Da W8 H8 us acc ∧ mLcL mg1 mt1 me vs1 ρ4 e (ys.drop (j + 1)) acc (fun acc' => mLc2O mg mt mi1 mg1 mt1 me vs vs1 (plain ρ) e (xs.drop (i + 1)) acc' q), fun H8 ⟨W8, us8, acc8, z⟩ => ⟨ys.length - (j + 1), by omega, rfl, hlt2, W8, us8, acc8, z⟩, fun v8 H8 y8 => ?_⟩
          obtain ⟨W8, g8, hv8⟩ := j4 v8 H8 y8
          have G8 := G7.step g1'.ok g8
          have R8 : Rep W8 H0 H8 σ4 ρ4 := R6.free N4 (l7.trans g8.le) g8.ok
          refine hg1 W8 H0 H8 v8 ys[j] _ _ _ _ (R8.wipe vs1) hv8 h7 fun σ9 ρ9 R9 w9 n9 h9 => ⟨by rw [w9 vs1 hs1, wipe_two (fun _ h => h)], ?_⟩
          refine ht1 W8 H0 H8 σ9 ρ9 _ _ e R9 h9 (fun Wa b Ha ga ha => ?_) (kx.go R.ok (g1'.trans R.ok G8.go))
          have Ga := G8.step g1'.ok ga
          cases b with
          | false => exact (⟨Wa, us7, acc7, (l7.trans g8.le).trans ga.le, Ga, ha⟩ : ∃ W8 us acc, Le W6 W8 ∧ Grow W1 H1 Da W8 Ha us acc ∧ mLcL mg1 mt1 me vs1 ρ4 e (ys.drop (j + 1)) acc (fun acc' => mLc2O mg mt mi1 mg1 mt1 me vs vs1 (plain ρ) e (xs.drop (i + 1)) acc' q))
          | true =>
            refine (hx Wa H0 Ha σ9 ρ9 _ _ e (R9.go ga) ha (fun Wb u yd Hb gb hu hb => ?_) (kx.go R.ok (g1'.trans R.ok Ga.go)) : te σ9 Ha _)
            have Gb := Ga.step g1'.ok gb
            exact ⟨us7, Gb.at_, by rw [Gb.t.length]; exact hb.1, Wb, us7 ++ [u], acc7 ++ [yd], ((l7.trans g8.le).trans ga.le).trans gb.le, Gb.add hD hu, hb.2⟩
        · have e1 : j = ys.length := by omega
          subst e1
          rw [List.drop_length] at h7
          exact .inl ⟨(hJ1 ys.length W7 H7 l7 G7.go.ok).2 (Nat.le_refl _), W7, us7, acc7, G7, h7⟩
    · have e1 : i = xs.length := by omega
      subst e1
      rw [List.drop_length] at h2
      exact .inl ⟨(hJ xs.length W2 H2 G2.go.le G2.go.ok).2 (Nat.le_refl _), k W2 H2 Da us acc (g1'.trans R.ok G2.go) (g1'.gone R.ok hD) G2.at_ G2.f G2.n G2.t h2⟩) kx
theorem si_lc2 {vs vs1 : List Nat} (hi : SimI E ti mi) (hg : SimG g mg is) (ht : SimT E tt mt) (hi1 : SimI E ti1 mi1) (hg1 : SimG g1 mg1 js) (ht1 : SimT E tt1 mt1) (hx : SimE E te me) (hs : ∀ i ∈ is, i ∈ vs) (hs1 : ∀ i ∈ js, i ∈ vs1) :
    SimE E (tLc2 ti g tt ti1 g1 tt1 te vs vs1) (mLc2 mi mg mt mi1 mg1 mt1 me vs vs1) := si_new (sn_lc2 hi hg ht hi1 hg1 ht1 hx hs hs1)
end
end Dt
set_option Elab.async false
set_option linter.all false
set_option maxRecDepth 100000
set_option maxHeartbeats 4000000
/-! More forms over data; the bridges to the promises by addresses. -/
namespace Dt
open PySem PySem.Spec PyProof.Rows L2 Com Gn StV Sd
section
variable {E : XK} {K : PySem.W.Frag} {te ta tb ti : TE} {me ma mb mi : ME} {aa : TA} {na : MA} {n : Nat}
/-- the world without one object -/
def Wd.less (W : Wd) (a : Addr) : Wd := ⟨fun b => if b = a then none else W.F b, W.G⟩
theorem si_peek {i : Nat} (h : SimE E te me) : SimE E te (fun ρ q e => ∃ ds, ρ[i]? = some (some (.own ds)) ∧ me (ρ.set i (some (.d (.lst ds)))) (fun x => flatD x = true ∧ q x) (fun _ _ _ => False)) := fun W H0 H σ ρ Q q e R hm k kx => by
  obtain ⟨ds, h1, hm⟩ := hm
  obtain ⟨a, vs, e1, ha, t, f, n, z⟩ := R.own h1
  have l2 : Le W (W.put a (.lst vs)) := ⟨fun b u e => by
    show upd W.F a _ b = _
    rw [upd_ne (ne_of_none e f)]
    exact e, fun _ h => h⟩
  have k2 : Ok (W.put a (.lst vs)) H := ⟨fun b u e2 => by
    have e2 : upd W.F a (.lst vs) b = some u := e2
    by_cases z : b = a
    · subst z
      rw [upd_same] at e2
      rw [ha]
      exact e2
    · rw [upd_ne z] at e2
      exact R.ok.f b u e2, fun b gb => ⟨by
      have gb : W.G b := gb
      show upd W.F a _ b = none
      rw [upd_ne (fun z : b = a => n (by rw [← z]; exact gb))]
      exact (R.ok.g b gb).1, (R.ok.g b gb).2⟩⟩
  refine h _ H0 H σ _ _ _ _ (R.frz h1 e1 k2 l2 t f) hm (fun W' v d H' g hv hq => ?_) (fun W' H' C dx f' v d g e1 e2 e3 => e3.elim)
  refine k (W'.less a) v d H' ⟨⟨fun b o e2 => ?_, fun b gb => g.le.g b gb⟩, fun b gb => g.gn b gb, fun b o e2 => ?_, fun b o e2 nb => g.p b o e2 nb, ⟨fun b o e2 => ?_, fun b gb => ⟨?_, (g.ok.g b gb).2⟩⟩⟩ (flat_vd hq.1 hv) hq.2
  · show (if b = a then none else W'.F b) = some o
    rw [if_neg (fun z => by rw [z, f] at e2; cases e2)]
    exact g.le.f b o (l2.f b o e2)
  · have e2 : (if b = a then none else W'.F b) = some o := e2
    by_cases z : b = a
    · rw [if_pos z] at e2
      cases e2
    · rw [if_neg z] at e2
      rcases g.fn b o e2 with h | h
      · have h : upd W.F a _ b = some o := h
        rw [upd_ne z] at h
        exact .inl h
      · exact .inr h
  · have e2 : (if b = a then none else W'.F b) = some o := e2
    by_cases z : b = a
    · rw [if_pos z] at e2
      cases e2
    · rw [if_neg z] at e2
      exact g.ok.f b o e2
  · show (if b = a then none else W'.F b) = none
    rw [(g.ok.g b gb).1]
    split <;> rfl
/-- [*x, y] -/
abbrev mStar2 (a b : ME) : ME := fun ρ q e => a ρ (fun x => ∃ xs, (x = .tup xs ∨ x = .lst xs) ∧ b ρ (fun y => xs.length + 1 ≤ sizeLine ∧ q (.lst (xs ++ [y]))) e) e
theorem si_star2 (ha : SimE E ta ma) (hb : SimE E tb mb) : SimE E (tLst (StX.tStar K ta (tCons tb tNil))) (mStar2 ma mb) := fun W H0 H σ ρ Q q e R h k kx =>
  ha W H0 H σ ρ _ _ e R h (fun W1 x dx H1 g1 hx h1 => by
    obtain ⟨xs, e1, h1⟩ := h1
    have : ∃ p vs, x = .ref p ∧ (SqT K H1 p vs ∨ SqL K H1 p vs) ∧ VdA W1 vs xs := by
      rcases e1 with rfl | rfl
      · obtain ⟨a, vs, e2, f, hh, t⟩ := tup_of g1.ok hx rfl
        exact ⟨a, vs, e2, .inl (SqT.of hh), t⟩
      · obtain ⟨a, vs, e2, f, hh, t⟩ := lst_of g1.ok hx rfl
        exact ⟨a, vs, e2, .inr (SqL.of hh), t⟩
    obtain ⟨p, vs, e2, hs, t⟩ := this
    refine ⟨p, vs, e2, hs, hb W1 H0 H1 σ ρ _ _ e (R.go g1) h1 (fun W2 y dy H2 g2 hy h2 => ⟨?_, fun p hp => ?_⟩) (kx.go R.ok g1)⟩
    · rw [List.length_append, t.length]
      exact h2.1
    · exact k _ _ _ _ ((g1.trans R.ok g2).trans R.ok (.put g2.ok hp)) (.lst (upd_same (H := W2.F)) (((t.mono g2.le).append (.one hy)).mono (Go.put g2.ok hp).le)) h2.2) kx
/-! ### enumerate -/
def iEnumU (K : PySem.W.Frag) (ta : TA) : TI := fun σ H R => ta σ H fun vs H1 => ∃ a xs, vs = [.ref a] ∧ ((SqL K H1 a xs ∧ R (Ite K a) H1) ∨ (SqT K H1 a xs ∧ R (Ext.Iet K a) H1))
theorem pi_enumU {X : Cx} (K : PySem.W.Frag) {e : Expr} {ta : TA} {p pos tpos : Pos} {elts : List Expr} {kk : Nat} (hg : Gl X "enumerate") (hm : X.mg "enumerate" = none) (ha : PA X [e] ta) (hs : starEach [e] X.env = [(false, eval e X.env)] := by rfl) (hK : X.K = K := by rfl) :
    PI X (.Tuple elts kk tpos) (.Call (.Name "enumerate" p) [e] [] pos) (iEnumU K ta) := by
  subst hK
  refine ⟨fun pins s σ H R I h => ?_⟩
  refine Call_ (ld_blt I hg hm boot_enumerate (PyProof.Rows.callWith_type1 (thn (ha.run pos pins s σ H _ I h) fun us s1 ⟨vs, H1, I1, r1, q1⟩ => ?_) hs rfl))
  obtain ⟨a, xs, ex, hq⟩ := q1
  subst ex
  cases r1 with
  | cons r rr =>
    cases rr
    cases r
    have fin : ∀ b, b ∈ [s1.heap.objs.size + 1, s1.heap.objs.size] → s1.heap.objs.size ≤ b := fun b hb => by
      have e' : b = s1.heap.objs.size + 1 ∨ b = s1.heap.objs.size := by simpa using hb
      rcases e' with z | z
      · rw [z]; exact Nat.le_add_right _ _
      · rw [z]; exact Nat.le_refl _
    rcases hq with ⟨hq, q⟩ | ⟨hq, q⟩
    · obtain ⟨its, rv, p', hz⟩ := I1.list hq
      refine call_enumerate_list p'.isList fun h' he hit hsz hk => wpAny_pyIter_enum he ?_
      have I2 : Inv X pins σ H1 { s1 with heap := h' } := I1.kept (t' := s1.toks) hk
      exact ⟨s1.heap.objs.size + 1, [s1.heap.objs.size + 1, s1.heap.objs.size], _, _, H1, rfl, I2, turn_enum a (s1.heap.objs.size + 1) s1.heap.objs.size, ⟨⟨.none, he⟩, hit, Nat.succ_ne_self _⟩, fun b hb => I1.fpOk (fin b hb) (I1.hok.fresh (fin b hb)), q⟩
    · obtain ⟨its, rv, p', hz⟩ := I1.tuple hq
      refine Ext.call_enumerate_tuple (show s1.heap.IsTuple a its.toArray from p') fun h' he hit hsz hk => wpAny_pyIter_enum he ?_
      have I2 : Inv X pins σ H1 { s1 with heap := h' } := I1.kept (t' := s1.toks) hk
      exact ⟨s1.heap.objs.size + 1, [s1.heap.objs.size + 1, s1.heap.objs.size], _, _, H1, rfl, I2, Ext.turn_enumT a (s1.heap.objs.size + 1) s1.heap.objs.size, ⟨⟨.none, he⟩, hit, Nat.succ_ne_self _⟩, fun b hb => I1.fpOk (fin b hb) (I1.hok.fresh (fin b hb)), q⟩
def enumD : Nat → List D → List D
  | _, [] => []
  | i, d :: ds => .tup [.int (i : Int), d] :: enumD (i + 1) ds
theorem enumD_get : ∀ {ds : List D} {i j : Nat}, (enumD i ds)[j]? = (ds[j]?).map fun d => .tup [.int ((i + j : Nat) : Int), d]
  | [], i, j => by simp [enumD]
  | d :: ds, i, 0 => by simp [enumD]
  | d :: ds, i, j + 1 => by
    rw [enumD, List.getElem?_cons_succ, List.getElem?_cons_succ, enumD_get, show i + 1 + j = i + (j + 1) by omega]
theorem enumD_len : ∀ {ds : List D} {i : Nat}, (enumD i ds).length = ds.length
  | [], _ => rfl
  | d :: ds, i => by rw [enumD, List.length_cons, List.length_cons, enumD_len]
abbrev mEnum (a : MA) : MI := fun ρ q e => a ρ (fun ds => ∃ xs, (ds = [.tup xs] ∨ ds = [.lst xs]) ∧ q (enumD 0 xs)) e
theorem si_enum (ha : SimA E n aa na) : SimI E (iEnumU K aa) (mEnum na) := fun W H0 H σ ρ R q e Rp h k kx =>
  ha W H0 H σ ρ _ _ e Rp h (fun W1 vs ds H1 g1 hv _ h1 => by
    obtain ⟨xs, e1, h1⟩ := h1
    have step : ∀ {W1 H1 : _} {x : V} {d : D} (i : Nat) (T : Addr), Ok W1 H1 → Vd W1 x d → H1 T = none → ∃ W2, Go W1 H1 W2 (upd H1 T (.tup [.int (i : Nat), x])) ∧ Vd W2 (.ref T) (.tup [.int (i : Int), d]) := fun {W1 H1 x d} i T k1 hx hT =>
      ⟨_, .put k1 hT, .tup (upd_same (H := W1.F)) (.cons (.int _) (.one (hx.mono (Go.put k1 hT).le)))⟩
    rcases e1 with rfl | rfl
    · obtain ⟨v, rfl, hv1⟩ := one_of hv
      obtain ⟨a, us, rfl, f, hh, t⟩ := tup_of g1.ok hv1 rfl
      refine ⟨a, us, rfl, .inr ⟨SqT.of hh, k W1 _ _ H1 g1 (fun i W2 H2 l k2 => ?_) h1⟩⟩
      have h2 : SqT K H2 a us := SqT.of (k2.f _ _ (l.f _ _ f))
      refine ⟨fun d hd => ?_, fun hl => ⟨us, h2, by rw [t.length]; rw [enumD_len] at hl; exact hl⟩⟩
      rw [enumD_get] at hd
      cases e : xs[i]? with
      | none => rw [e] at hd; cases hd
      | some y =>
        rw [e] at hd
        cases hd
        obtain ⟨x, hx, r⟩ := t.get' e
        refine ⟨⟨us, x, h2, hx⟩, fun v H3 y => ?_⟩
        obtain ⟨T, x', rfl, hT, rfl, y⟩ := y
        have := y us h2
        rw [hx] at this
        cases this
        rw [Nat.zero_add]
        exact step i T k2 (r.mono l) hT
    · obtain ⟨v, rfl, hv1⟩ := one_of hv
      obtain ⟨a, us, rfl, f, hh, t⟩ := lst_of g1.ok hv1 rfl
      refine ⟨a, us, rfl, .inl ⟨SqL.of hh, k W1 _ _ H1 g1 (fun i W2 H2 l k2 => ?_) h1⟩⟩
      have h2 : SqL K H2 a us := SqL.of (k2.f _ _ (l.f _ _ f))
      refine ⟨fun d hd => ?_, fun hl => ⟨us, h2, by rw [t.length]; rw [enumD_len] at hl; exact hl⟩⟩
      rw [enumD_get] at hd
      cases e : xs[i]? with
      | none => rw [e] at hd; cases hd
      | some y =>
        rw [e] at hd
        cases hd
        obtain ⟨x, hx, r⟩ := t.get' e
        refine ⟨⟨us, x, h2, hx⟩, fun v H3 y => ?_⟩
        obtain ⟨T, x', rfl, hT, rfl, y⟩ := y
        have := y us h2
        rw [hx] at this
        cases this
        rw [Nat.zero_add]
        exact step i T k2 (r.mono l) hT) kx
/-! ### numbers -/
def fAbs (xs : List D) (q : KD) : Prop := ∃ i, xs = [.int i] ∧ q (.int (if i < 0 then -i else i))
theorem sc_abs : SimC (fun xs H Q => ∃ i, xs = [.int i] ∧ Q (.int (if i < 0 then -i else i)) H) fAbs := fun W H xs ds Q q k hx h hk => by
  obtain ⟨i, rfl, h⟩ := h
  exact ⟨i, hx.of_ints (ns := [i]), hk W _ _ H (.refl k) (.int _) h⟩
def fInt (xs : List D) (q : KD) : Prop := (∃ i, xs = [.int i] ∧ q (.int i)) ∨ ∃ b : Bool, xs = [.bl b] ∧ q (.int (if b then 1 else 0))
theorem sc_int : SimC (fun xs H Q => (∃ i, xs = [.int i] ∧ Q (.int i) H) ∨ ∃ k, xs = [.bl k] ∧ Q (.int (if k then 1 else 0)) H) fInt := fun W H xs ds Q q k hx h hk => by
  rcases h with ⟨i, rfl, h⟩ | ⟨b, rfl, h⟩
  · exact .inl ⟨i, hx.of_ints (ns := [i]), hk W _ _ H (.refl k) (.int _) h⟩
  · obtain ⟨v, rfl, hv⟩ := one_of hx
    cases hv
    exact .inr ⟨b, rfl, hk W _ _ H (.refl k) (.int _) h⟩
end
/-! ### pairs, loads, standings, exchanges as data -/
def pairD (p : PP) : D := .tup [.int p.1, .int p.2]
def ldD (L : List PP) : D := .tup (L.map pairD)
def stD (S : List (List PP)) : D := .tup (S.map ldD)
def intsD (ns : List Int) : D := .tup (ns.map .int)
def exD (C : Addr) (ds es : List Int) (m : Int) : D := .obj C ["ins", "outs", "middles"] [intsD ds, intsD es, .int m]
section
variable {W : Wd} {H : Hp} {v : V}
theorem vd_pair (k : Ok W H) {p : PP} (h : Vd W v (pairD p)) : PairV H v p := by
  obtain ⟨a, vs, rfl, _, hh, t⟩ := tup_of k h rfl
  exact ⟨a, rfl, by rw [hh, t.of_ints (ns := [p.1, p.2])]; rfl⟩
theorem vd_pairs (k : Ok W H) : ∀ {vs : List V} {L : List PP}, VdA W vs (L.map pairD) → PairsV H vs L
  | _, [], h => by cases h; exact .nil
  | _, p :: L, h => by
    cases h with
    | cons h t => exact .cons (vd_pair k h) (vd_pairs k t)
theorem vd_load (k : Ok W H) {L : List PP} (h : Vd W v (ldD L)) : LoadV H v L := by
  obtain ⟨a, vs, rfl, _, hh, t⟩ := tup_of k h rfl
  exact ⟨a, vs, rfl, hh, vd_pairs k t⟩
theorem vd_loads (k : Ok W H) : ∀ {vs : List V} {S : List (List PP)}, VdA W vs (S.map ldD) → LoadsV H vs S
  | _, [], h => by cases h; exact .nil
  | _, p :: L, h => by
    cases h with
    | cons h t => exact .cons (vd_load k h) (vd_loads k t)
theorem vd_sta (k : Ok W H) {S : List (List PP)} (h : Vd W v (stD S)) : StaV H v S := by
  obtain ⟨a, vs, rfl, _, hh, t⟩ := tup_of k h rfl
  exact ⟨a, vs, rfl, hh, vd_loads k t⟩
theorem vd_ints (k : Ok W H) {ns : List Int} (h : Vd W v (intsD ns)) : ∃ a, v = .ref a ∧ Tup H a ns := by
  obtain ⟨a, vs, rfl, _, hh, t⟩ := tup_of k h rfl
  exact ⟨a, rfl, by show H a = _; rw [hh, t.of_ints]⟩
theorem vd_ex (k : Ok W H) {C : Addr} {ds es : List Int} {m : Int} (h : Vd W v (exD C ds es m)) (gi : Good ds) (go : Good es) (m1 : 1 ≤ m) (m2 : m ≤ 7) : ∃ p i o, v = .ref p ∧ ExAt C H p i o ds es m := by
  obtain ⟨p, dx, vs, rfl, hh, l, t⟩ := obj_of k h rfl
  cases t with
  | cons h1 t =>
    cases t with
    | cons h2 t =>
      cases t with
      | cons h3 t =>
        cases t
        obtain ⟨i, rfl, hi⟩ := vd_ints k h1
        obtain ⟨o, rfl, ho⟩ := vd_ints k h2
        cases h3
        exact ⟨p, i, o, rfl, ⟨⟨dx, hh⟩, hi, gi, ho, go, m1, m2⟩⟩
/-- all tuples that stand are of the world -/
def Wd.all (W : Wd) (H : Hp) : Wd := ⟨fun b => match W.F b with
  | some o => some o
  | none => match H b with
    | some (.tup xs) => some (.tup xs)
    | _ => none, W.G⟩
theorem all_tup {b : Addr} {xs : List V} (k : ∀ b o, W.F b = some o → H b = some o) (h : H b = some (.tup xs)) : (W.all H).F b = some (.tup xs) := by
  show (match W.F b with | some o => some o | none => match H b with | some (.tup xs) => some (.tup xs) | _ => none) = _
  cases e : W.F b with
  | some o =>
    have := k b o e
    rw [h] at this
    exact this.symm
  | none =>
    rw [h]
theorem all_inv {b : Addr} {o : HO} (h : (W.all H).F b = some o) : W.F b = some o ∨ ∃ xs, o = .tup xs ∧ H b = some (.tup xs) := by
  have h : (match W.F b with | some o => some o | none => match H b with | some (.tup xs) => some (.tup xs) | _ => none) = some o := h
  cases e : W.F b with
  | some u =>
    rw [e] at h
    exact .inl h
  | none =>
    rw [e] at h
    refine .inr ?_
    cases e2 : H b with
    | none => rw [e2] at h; cases h
    | some u =>
      rw [e2] at h
      cases u with
      | tup xs => cases h; exact ⟨xs, rfl, rfl⟩
      | _ => cases h
/-- what a call leaves that changes flows alone -/
theorem go_all {H' : Hp} (k : Ok W H) (p : ∀ b o, H b = some o → ¬ W.G b → H' b = some o) (fl : ∀ a, W.G a → FlowAt H' a) : Go W H (W.all H') H' := by
  have kf : ∀ b o, W.F b = some o → H' b = some o := fun b o e => p b o (k.f b o e) (k.fg e)
  refine ⟨⟨fun b o e => ?_, fun _ h => h⟩, fun _ h => .inl h, fun b o e => ?_, p, ⟨fun b o e => ?_, fun a g => ⟨?_, fl a g⟩⟩⟩
  · show (match W.F b with | some o => some o | none => match H' b with | some (.tup xs) => some (.tup xs) | _ => none) = some o
    rw [e]
  · rcases all_inv e with h | ⟨xs, rfl, h⟩
    · exact .inl h
    · refine .inr ?_
      cases q : H b with
      | none => exact .inl rfl
      | some u =>
        by_cases g : W.G b
        · obtain ⟨n, c, r, e2⟩ := fl b g
          rw [h] at e2
          cases e2
        · have := p b u q g
          rw [h] at this
          cases this
          exact .inr ⟨xs, rfl⟩
  · rcases all_inv e with h | ⟨xs, rfl, h⟩
    · exact kf b o h
    · exact h
  · obtain ⟨n, c, r, e2⟩ := fl a g
    show (match W.F a with | some o => some o | none => match H' a with | some (.tup xs) => some (.tup xs) | _ => none) = none
    rw [(k.g a g).1, e2]
theorem go_same {H' : Hp} (k : Ok W H) (s : Same H H') : Go W H (W.all H') H' := go_all k (fun b o e _ => s b o e) fun a g => let ⟨n, c, r, e⟩ := (k.g a g).2; ⟨n, c, r, s _ _ e⟩
theorem go_old {H' : Hp} {a : Addr} (k : Ok W H) (g : W.G a) (s : Old a H H') (f : FlowAt H' a) : Go W H (W.all H') H' := go_all k (fun b o e n => s b o e fun z => n (z ▸ g)) fun b gb => by
  by_cases z : b = a
  · rw [z]
    exact f
  · obtain ⟨n, c, r, e⟩ := (k.g b gb).2
    exact ⟨n, c, r, s _ _ e z⟩
/-- data of tuples and numbers alone -/
theorem all_pair (k : ∀ b o, W.F b = some o → H b = some o) {p : PP} (h : PairV H v p) : Vd (W.all H) v (pairD p) := by
  obtain ⟨a, rfl, e⟩ := h
  exact .tup (all_tup k e) (.cons (.int _) (.one (.int _)))
theorem all_pairs (k : ∀ b o, W.F b = some o → H b = some o) : ∀ {vs : List V} {L : List PP}, PairsV H vs L → VdA (W.all H) vs (L.map pairD)
  | _, _, .nil => .nil
  | _, _, .cons h t => .cons (all_pair k h) (all_pairs k t)
theorem all_load (k : ∀ b o, W.F b = some o → H b = some o) {L : List PP} (h : LoadV H v L) : Vd (W.all H) v (ldD L) := by
  obtain ⟨a, us, rfl, e, t⟩ := h
  exact .tup (all_tup k e) (all_pairs k t)
theorem all_loads (k : ∀ b o, W.F b = some o → H b = some o) : ∀ {vs : List V} {S : List (List PP)}, LoadsV H vs S → VdA (W.all H) vs (S.map ldD)
  | _, _, .nil => .nil
  | _, _, .cons h t => .cons (all_load k h) (all_loads k t)
theorem all_sta (k : ∀ b o, W.F b = some o → H b = some o) {S : List (List PP)} (h : StaV H v S) : Vd (W.all H) v (stD S) := by
  obtain ⟨a, us, rfl, e, t⟩ := h
  exact .tup (all_tup k e) (all_loads k t)
theorem all_ints (k : ∀ b o, W.F b = some o → H b = some o) {a : Addr} {ns : List Int} (h : Tup H a ns) : Vd (W.all H) (.ref a) (intsD ns) := .tup (all_tup k h) .ints
end
/-! ### the draws -/
def spFlowD (K : PySem.W.Frag) : SpD := fun ds q _ => ∃ (ns : List Int) (k : Nat), ds = [.scr K ns, .int (k : Int)] ∧ ns.length ≤ 63 ∧ k ≤ 1000 ∧ ∀ a, q (.flow a)
def spPickD : SpD := fun ds q _ => ∃ a size, ds = [.flow a, .int size] ∧ 1 ≤ size ∧ size < 2 ^ 200 ∧ ∀ d, 0 ≤ d → d < size → q (.int d)
theorem pick_d {vs : List V} {H : Hp} {Q : VK} {E : XK} (h : spOf spPickD vs H Q E) : spPick vs H Q E := by
  obtain ⟨W, ds, q, e, k, t, ⟨a, size, rfl, s1, s2, h⟩, kq, _⟩ := h
  obtain ⟨v, u, rfl, hv, hu⟩ := two_of t
  cases hv with
  | flow g =>
    cases hu
    refine ⟨a, size, rfl, (k.g a g).2, s1, s2, fun d H' d0 d1 f b => ?_⟩
    exact kq _ _ _ H' (go_old k g (But.old b) f) (.int d) (h d d0 d1)
theorem flow_d {K : PySem.W.Frag} {vs : List V} {H : Hp} {Q : VK} {E : XK} (h : spOf (spFlowD K) vs H Q E) : spFlow K vs H Q E := by
  obtain ⟨W, ds, q, e, k, t, ⟨ns, n, rfl, s1, s2, h⟩, kq, _⟩ := h
  obtain ⟨v, u, rfl, hv, hu⟩ := two_of t
  cases hv with
  | scr g =>
    cases hu
    refine ⟨_, ns, n, rfl, g H k.f, s1, s2, fun p H' hp f b => ?_⟩
    have s := But.same b hp
    refine kq ⟨W.F, fun x => W.G x ∨ x = p⟩ _ _ H' ⟨⟨fun _ _ e => e, fun _ g => .inl g⟩, fun x g => g.elim .inl fun z => .inr (z ▸ hp), fun _ _ e => .inl e, fun b o e _ => s b o e, ⟨fun b o e => s b o (k.f b o e), fun x gx => ?_⟩⟩ (.flow (.inr rfl)) (h p)
    rcases gx with gx | rfl
    · obtain ⟨f0, m, c, r, e1⟩ := k.g x gx
      exact ⟨f0, m, c, r, s _ _ e1⟩
    · exact ⟨(k.no hp).1, f⟩
/-! ### a new exchange -/
abbrev mNewEx (C : Addr) (a : MA) : ME := fun ρ q e => a ρ (fun xs => ∃ ds es m, xs = [intsD ds, intsD es, .int m] ∧ Good ds ∧ Good es ∧ 1 ≤ m ∧ m ≤ 7 ∧ q (exD C ds es m)) e
theorem si_newEx {E : XK} {C : Addr} {n : Nat} {aa : TA} {na : MA} (ha : SimA E n aa na) : SimE E (tNew C (spInit C) E aa) (mNewEx C na) := fun W H0 H σ ρ Q q e R h k kx =>
  ha W H0 H σ ρ _ _ e R h (fun W1 vs xs H1 g1 hv _ h1 => by
    obtain ⟨ds, es, m, rfl, gi, go, m1, m2, h1⟩ := h1
    cases hv with
    | cons hi t =>
      obtain ⟨u1, u2, rfl, ho, hm⟩ := two_of t
      cases hm
      have hi' := hi
      have ho' := ho
      obtain ⟨i, vi, rfl, fi, hhi, ti⟩ := tup_of g1.ok hi rfl
      obtain ⟨o, vo, rfl, fo, hho, to⟩ := tup_of g1.ok ho rfl
      refine new_ex (by show H1 i = _; rw [hhi, ti.of_ints]) gi (by show H1 o = _; rw [hho, to.of_ints]) go m1 m2 fun x H' hx ex s => ?_
      obtain ⟨dx, ex⟩ := ex
      have g := Go.putS g1.ok s ex (.inl hx)
      exact k _ _ _ H' (g1.trans R.ok g) (.obj (ks := ["ins", "outs", "middles"]) (vs := [.ref i, .ref o, .int m]) (upd_same (H := W1.F)) rfl ((VdA.cons hi' (.cons ho' (.one (.int m)))).mono g.le)) h1) kx
end Dt
set_option Elab.async false
set_option linter.all false
set_option maxRecDepth 100000
set_option maxHeartbeats 4000000
/-! Kinds of data; data of pairs, loads and standings. -/
namespace Dt
open PySem PySem.Spec PyProof.Rows L2 Com Gn StV Sd
open Dt (pairD)
def isiD (n : String) : D → Bool
  | .int _ => n == "int"
  | .bl _ => n == "int" || n == "bool"
  | .str _ => n == "str"
  | .tup _ => n == "tuple"
  | .lst _ => n == "list"
  | .flow _ => n == "list"
  | .dict0 => n == "dict"
  | .dct _ _ _ _ => n == "dict"
  | _ => false
theorem isi_of {K : PySem.W.Frag} {d : D} {n : String} (c : clsOk K d) (hn : n ∈ (["int", "bool", "tuple", "list", "str", "dict"] : List String)) : PySem.W.kitOne K (tyD d) (.type n) = some (isiD n d) := by
  have h : n = "int" ∨ n = "bool" ∨ n = "tuple" ∨ n = "list" ∨ n = "str" ∨ n = "dict" := by simpa using hn
  cases d with
  | obj C ks ds => exact c.kN n hn
  | scr K ns => exact c.elim
  | dct w ks ds => exact c.elim
  | vry v d => exact c.elim
  | _ => rcases h with rfl | rfl | rfl | rfl | rfl | rfl <;> first | exact kit_ty (r := true) (by decide +kernel) | exact kit_ty (r := false) (by decide +kernel)
theorem isi_go {K : PySem.W.Frag} {d : D} {n : String} {q : KD} (c : clsOk K d) (h : q (.bl (isiD n d))) (hn : n ∈ (["int", "bool", "tuple", "list", "str", "dict"] : List String) := by decide) : fIsi K (.type n) d q := ⟨c, _, isi_of c hn, h⟩
-- objects whose classes are told, at any depth
mutual
def clsA (K : PySem.W.Frag) : D → Prop
  | .obj C _ _ => ClsT K C
  | .tup ds => clsL K ds
  | .lst ds => clsL K ds
  | .scr _ _ => False
  | .dct _ _ _ _ => False
  | .vry _ _ => False
  | _ => True
def clsL (K : PySem.W.Frag) : List D → Prop
  | [] => True
  | d :: ds => clsA K d ∧ clsL K ds
end
theorem clsA.ok {K : PySem.W.Frag} {d : D} (h : clsA K d) : clsOk K d := by
  cases d <;> first | exact trivial | (rw [clsA] at h; exact h)
theorem clsL.mem {K : PySem.W.Frag} : ∀ {ds : List D}, clsL K ds → ∀ d ∈ ds, clsA K d
  | d :: ds, h, x, hx => by
    rw [clsL] at h
    rcases List.mem_cons.mp hx with rfl | hx
    · exact h.1
    · exact clsL.mem h.2 x hx
theorem clsL.of {K : PySem.W.Frag} : ∀ {ds : List D}, (∀ d ∈ ds, clsA K d) → clsL K ds
  | [], _ => by rw [clsL]; trivial
  | d :: ds, h => by rw [clsL]; exact ⟨h d (List.mem_cons_self ..), clsL.of fun x hx => h x (List.mem_cons_of_mem _ hx)⟩
theorem clsA.tup {K : PySem.W.Frag} {ds : List D} : clsA K (.tup ds) ↔ ∀ d ∈ ds, clsA K d := by
  rw [clsA]
  exact ⟨clsL.mem, clsL.of⟩
theorem clsA.lst {K : PySem.W.Frag} {ds : List D} : clsA K (.lst ds) ↔ ∀ d ∈ ds, clsA K d := by
  rw [clsA]
  exact ⟨clsL.mem, clsL.of⟩
theorem cls_int {K : PySem.W.Frag} {i : Int} : clsA K (.int i) := by simp [clsA]
theorem cls_pair {K : PySem.W.Frag} {p : PP} : clsA K (pairD p) := clsA.tup.mpr fun d h => by
  rcases List.mem_cons.mp h with rfl | h
  · exact cls_int
  · rw [List.mem_singleton.mp h]
    exact cls_int
theorem cls_ld {K : PySem.W.Frag} {L : List PP} : clsA K (ldD L) := clsA.tup.mpr fun d h => by
  obtain ⟨p, _, rfl⟩ := List.mem_map.mp h
  exact cls_pair
theorem cls_st {K : PySem.W.Frag} {S : List (List PP)} : clsA K (stD S) := clsA.tup.mpr fun d h => by
  obtain ⟨p, _, rfl⟩ := List.mem_map.mp h
  exact cls_ld
/-! ### the kinds of the document -/
def plainD : D → Bool
  | .int _ => true
  | _ => false
theorem plain_isi (d : D) : (isiD "int" d && !isiD "bool" d) = plainD d := by cases d <;> rfl
def withinD (lo hi : Int) : D → Bool
  | .int i => decide (lo ≤ i) && decide (i ≤ hi)
  | _ => false
/-- a pair of an exchange of n and m switches -/
def pairOf (n m : Nat) : D → Option PP
  | .tup [.int i, .int o] => if 0 ≤ i ∧ i < n ∧ 0 ≤ o ∧ o < m then some (i, o) else none
  | _ => none
def isPairD (n m : Nat) (d : D) : Bool := (pairOf n m d).isSome
theorem pairOf_some {n m : Nat} {d : D} {p : PP} (h : pairOf n m d = some p) : d = pairD p ∧ InP n m p := by
  unfold pairOf at h
  split at h
  · rename_i i o
    split at h
    · cases h
      exact ⟨rfl, by assumption⟩
    · cases h
  · cases h
theorem pairOf_pair {n m : Nat} {p : PP} (h : InP n m p) : pairOf n m (pairD p) = some p := by
  show (if 0 ≤ p.1 ∧ p.1 < n ∧ 0 ≤ p.2 ∧ p.2 < m then some (p.1, p.2) else none) = some p
  rw [if_pos (show 0 ≤ p.1 ∧ p.1 < n ∧ 0 ≤ p.2 ∧ p.2 < m from h)]
def pairsOf (n m : Nat) : List D → Option (List PP)
  | [] => some []
  | d :: ds => match pairOf n m d with
    | some p => match pairsOf n m ds with
      | some ps => some (p :: ps)
      | none => none
    | none => none
theorem pairsOf_some {n m : Nat} : ∀ {ds : List D} {L : List PP}, pairsOf n m ds = some L → ds = L.map pairD ∧ ∀ p ∈ L, InP n m p
  | [], L, h => by
    rw [pairsOf] at h
    cases h
    exact ⟨rfl, fun _ h => nomatch h⟩
  | d :: ds, L, h => by
    rw [pairsOf] at h
    cases e : pairOf n m d with
    | none => rw [e] at h; cases h
    | some p =>
      cases e2 : pairsOf n m ds with
      | none => rw [e, e2] at h; cases h
      | some ps =>
        rw [e, e2] at h
        cases h
        obtain ⟨rfl, h1⟩ := pairOf_some e
        obtain ⟨rfl, h2⟩ := pairsOf_some e2
        refine ⟨rfl, fun q hq => ?_⟩
        rcases List.mem_cons.mp hq with rfl | hq
        · exact h1
        · exact h2 q hq
theorem pairsOf_map {n m : Nat} : ∀ {L : List PP}, (∀ p ∈ L, InP n m p) → pairsOf n m (L.map pairD) = some L
  | [], _ => rfl
  | p :: L, h => by rw [List.map_cons, pairsOf, pairOf_pair (h p (List.mem_cons_self ..)), pairsOf_map fun q hq => h q (List.mem_cons_of_mem _ hq)]
theorem pairsOf_all {n m : Nat} : ∀ ds : List D, (ds.map (isPairD n m)).all id = (pairsOf n m ds).isSome
  | [] => rfl
  | d :: ds => by
    rw [List.map_cons, List.all_cons, pairsOf_all ds, pairsOf]
    unfold isPairD
    cases e : pairOf n m d with
    | none => rfl
    | some p => cases e2 : pairsOf n m ds <;> rfl
def loadOf (n m : Nat) : D → Option (List PP)
  | .tup ds => match pairsOf n m ds with
    | some L => if decide (L.length ≤ n) && ascB L then some L else none
    | none => none
  | _ => none
def isLoadD (n m : Nat) (d : D) : Bool := (loadOf n m d).isSome
theorem loadOf_some {n m : Nat} {d : D} {L : List PP} (h : loadOf n m d = some L) : d = ldD L ∧ LoadOk n m L := by
  unfold loadOf at h
  split at h
  · rename_i ds
    cases e : pairsOf n m ds with
    | none => rw [e] at h; cases h
    | some M =>
      rw [e] at h
      obtain ⟨rfl, h1⟩ := pairsOf_some e
      by_cases c : (decide (M.length ≤ n) && ascB M) = true
      · rw [show (match some M with | some L => if decide (L.length ≤ n) && ascB L then some L else none | none => none) = if decide (M.length ≤ n) && ascB M then some M else none from rfl, if_pos c] at h
        cases h
        rw [Bool.and_eq_true] at c
        obtain ⟨c1, c2⟩ := c
        unfold ascB at c2
        rw [Bool.and_eq_true] at c2
        exact ⟨rfl, h1, of_decide_eq_true c2.1, of_decide_eq_true c2.2⟩
      · rw [show (match some M with | some L => if decide (L.length ≤ n) && ascB L then some L else none | none => none) = if decide (M.length ≤ n) && ascB M then some M else none from rfl, if_neg c] at h
        cases h
  · cases h
theorem loadOf_ld {n m : Nat} {L : List PP} (h : LoadOk n m L) : loadOf n m (ldD L) = some L := by
  show (match pairsOf n m (L.map pairD) with | some L => if decide (L.length ≤ n) && ascB L then some L else none | none => none) = some L
  rw [pairsOf_map h.rng]
  have e : (decide (L.length ≤ n) && ascB L) = true := by
    unfold ascB
    rw [decide_eq_true h.len, decide_eq_true h.asc, decide_eq_true h.nd]
    rfl
  rw [show (match some L with | some L => if decide (L.length ≤ n) && ascB L then some L else none | none => none) = if decide (L.length ≤ n) && ascB L then some L else none from rfl, if_pos e]
def loadsOf (n m : Nat) : List D → Option (List (List PP))
  | [] => some []
  | d :: ds => match loadOf n m d with
    | some p => match loadsOf n m ds with
      | some ps => some (p :: ps)
      | none => none
    | none => none
theorem loadsOf_some {n m : Nat} : ∀ {ds : List D} {S : List (List PP)}, loadsOf n m ds = some S → ds = S.map ldD ∧ ∀ p ∈ S, LoadOk n m p
  | [], L, h => by
    rw [loadsOf] at h
    cases h
    exact ⟨rfl, fun _ h => nomatch h⟩
  | d :: ds, L, h => by
    rw [loadsOf] at h
    cases e : loadOf n m d with
    | none => rw [e] at h; cases h
    | some p =>
      cases e2 : loadsOf n m ds with
      | none => rw [e, e2] at h; cases h
      | some ps =>
        rw [e, e2] at h
        cases h
        obtain ⟨rfl, h1⟩ := loadOf_some e
        obtain ⟨rfl, h2⟩ := loadsOf_some e2
        refine ⟨rfl, fun q hq => ?_⟩
        rcases List.mem_cons.mp hq with rfl | hq
        · exact h1
        · exact h2 q hq
theorem loadsOf_map {n m : Nat} : ∀ {S : List (List PP)}, (∀ p ∈ S, LoadOk n m p) → loadsOf n m (S.map ldD) = some S
  | [], _ => rfl
  | p :: L, h => by rw [List.map_cons, loadsOf, loadOf_ld (h p (List.mem_cons_self ..)), loadsOf_map fun q hq => h q (List.mem_cons_of_mem _ hq)]
theorem loadsOf_all {n m : Nat} : ∀ ds : List D, (ds.map (isLoadD n m)).all id = (loadsOf n m ds).isSome
  | [] => rfl
  | d :: ds => by
    rw [List.map_cons, List.all_cons, loadsOf_all ds, loadsOf]
    unfold isLoadD
    cases e : loadOf n m d with
    | none => rfl
    | some p => cases e2 : loadsOf n m ds <;> rfl
def staOf (ds es : List Int) (m : Int) : D → Option (List (List PP))
  | .tup xs => if ((xs.length : Nat) : Int) = m then match loadsOf ds.length es.length xs with
    | some S => if doorB ds es S then some S else none
    | none => none
    else none
  | _ => none
def isStaD (ds es : List Int) (m : Int) (d : D) : Bool := (staOf ds es m d).isSome
/-! ### sorted(set(xs)), len(set(xs)), xs a list of ints -/
abbrev mSetI (f : List Int → KD → Prop) (a : ME) : ME := fun ρ q e => a ρ (fun x => ∃ ns : List Int, x = .lst (ns.map .int) ∧ ns.length ≤ 60 ∧ f ns q) e
def fSrtS (ns : List Int) (q : KD) : Prop := ∀ ks : List Int, ks.Pairwise (· < ·) → (∀ k, k ∈ ks ↔ k ∈ ns) → q (.lst (ks.map .int))
def fLenS (ns : List Int) (q : KD) : Prop := ∀ ks : List Int, ks.Nodup → (∀ k, k ∈ ks ↔ k ∈ ns) → q (.int (ks.length : Nat))
section
variable {E : XK} {K : PySem.W.Frag} {w : World} {te : TE} {me : ME}
theorem si_setI {r : List V → Hp → VK → Prop} {f : List Int → KD → Prop} (ha : SimE E te me)
    (h : ∀ W H p n (ns ks : List Int) Q q, Ok W H → H p = some (SetO w p (fun k => decide (k ∈ ns)) n) → ks.Nodup → (∀ k, k ∈ ks ↔ k ∈ ns) → ks.length = n → n ≤ 60 → f ns q → Kv W H Q q → r [.ref p] H Q) : SimE E (tCB r (tCons (tCB (Ext.rSetI K w) (tCons te tNil)) tNil)) (mSetI f me) := fun W H0 H σ ρ Q q e R hm k kx =>
  ha W H0 H σ ρ _ _ e R hm (fun W1 v d H1 g1 hv h1 => by
    obtain ⟨ns, rfl, hl, h1⟩ := h1
    obtain ⟨a, vs, rfl, f, hh, t⟩ := lst_of g1.ok hv rfl
    refine ⟨a, ns, rfl, SqL.of (by rw [hh, t.of_ints]), by omega, fun p n ks nd hk hn hln hp => ?_⟩
    have g := Go.own (o := SetO w p (fun k => decide (k ∈ ns)) n) g1.ok hp
    exact h W1 _ p n ns ks Q q g.ok upd_same nd hk hn (by omega) h1 (k.go R.ok (g1.trans R.ok g))) kx
theorem si_lenSet (ha : SimE E te me) : SimE E (tCB (Ext.rLenSet w) (tCons (tCB (Ext.rSetI K w) (tCons te tNil)) tNil)) (mSetI fLenS me) :=
  si_setI ha fun W H p n ns ks Q q k hp nd hk hn h1 h2 hq => ⟨p, _, n, rfl, hp, by omega, hq W _ _ H (.refl k) (.int _) (by have := h2 ks nd hk; rwa [hn] at this)⟩
theorem si_srtSet (ha : SimE E te me) : SimE E (tCB (rSortedSet w) (tCons (tCB (Ext.rSetI K w) (tCons te tNil)) tNil)) (mSetI fSrtS me) :=
  si_setI ha fun W H p n ns ks Q q k hp nd hk hn h1 h2 hq => ⟨p, _, n, rfl, hp, by omega, fun js r a1 a2 a3 hr => by
    have := h2 js a1 (fun x => by rw [a2 x, decide_eq_true_eq])
    exact hq _ _ _ _ (.put k hr) (.lst (upd_same (H := W.F)) VdA.ints) this⟩
end
/-! ### steps over data -/
section
variable {K : PySem.W.Frag} {q : KD}
theorem eqv_int (a b : Int) : PyData.eqv (.int a) (.int b) = decide (a = b) := by
  rw [PyData.eqv]
  by_cases h : a = b <;> simp [h]
theorem szl {n : Nat} (h : n < 100000) : n < sizeLine := Nat.lt_of_lt_of_le h (by decide)
theorem szle {n : Nat} (h : n ≤ 100000) : n ≤ sizeLine := Nat.le_trans h (by decide)
theorem go_eqI {a b : Int} (h : q (.bl (decide (a = b)))) : fEq false (.int a) (.int b) q := ⟨_, _, rfl, rfl, rfl, rfl, by
  show q (.bl (PyData.eqv (.int a) (.int b)))
  rw [eqv_int]; exact h⟩
theorem go_neI {a b : Int} (h : q (.bl (!decide (a = b)))) : fEq true (.int a) (.int b) q := ⟨_, _, rfl, rfl, rfl, rfl, by
  show q (.bl (!PyData.eqv (.int a) (.int b)))
  rw [eqv_int]; exact h⟩
theorem go_lenT {ds : List D} (h : q (.int (ds.length : Nat))) : fLen K [.tup ds] q := .inl ⟨ds, .inl rfl, h⟩
theorem go_lenL {ds : List D} (h : q (.int (ds.length : Nat))) : fLen K [.lst ds] q := .inl ⟨ds, .inr rfl, h⟩
theorem atI_of {α : Type} {xs : List α} {i : Nat} {x : α} (h : xs[i]? = some x) : atI xs (i : Int) = some x := by
  have hl := (List.getElem?_eq_some_iff.mp h).1
  unfold atI
  rw [show ixN xs.length (i : Int) = some i by unfold ixN; rw [if_pos (by omega), if_pos (by omega)]; simp]
  exact h
theorem go_ixT {ds : List D} {i : Nat} {d : D} (e : ds[i]? = some d) (h : q d) : fIx (.tup ds) (.int (i : Int)) q := ⟨ds, _, d, .inl rfl, rfl, atI_of e, h⟩
theorem go_ixL {ds : List D} {i : Nat} {d : D} (e : ds[i]? = some d) (h : q d) : fIx (.lst ds) (.int (i : Int)) q := ⟨ds, _, d, .inr rfl, rfl, atI_of e, h⟩
theorem ifTT {P Q : Prop} (h : P) : if (true = true) then P else Q := by rw [if_pos rfl]; exact h
theorem ifFF {P Q : Prop} (h : Q) : if (false = true) then P else Q := by rw [if_neg (by decide)]; exact h
end
/-! ### a comprehension and a loop, by an invariant -/
theorem lcL_inv {g : MG} {t : MT} {x : ME} {vs : List Nat} {ρ : Ev} {e : XD} (Iv : Nat → List D → Prop) {q : List D → Prop} : ∀ (xs : List D) (i : Nat) (acc : List D), Iv i acc →
    (∀ (j : Nat) (d : D) (acc : List D), xs[j]? = some d → Iv (i + j) acc → g d (wipeD ρ vs) fun ρ2 => t ρ2 (fun b => if b = true then x ρ2 (fun y => acc.length < sizeLine ∧ Iv (i + j + 1) (acc ++ [y])) e else Iv (i + j + 1) acc) e) →
    (∀ acc, Iv (i + xs.length) acc → q acc) →
    (∀ (Q Q' : Ev → Prop) d ρ, (∀ r, Q r → Q' r) → g d ρ Q → g d ρ Q') → (∀ (Q Q' : Bool → Prop) ρ, (∀ r, Q r → Q' r) → t ρ Q e → t ρ Q' e) → (∀ (Q Q' : D → Prop) ρ, (∀ r, Q r → Q' r) → x ρ Q e → x ρ Q' e) → mLcL g t x vs ρ e xs acc q
  | [], i, acc, h0, hs, hd, _, _, _ => hd acc h0
  | d :: ds, i, acc, h0, hs, hd, mg, mt, mx => by
    have h1 := hs 0 d acc rfl h0
    refine mg _ _ _ _ (fun ρ2 h2 => mt _ _ _ (fun b h3 => ?_) h2) h1
    cases b with
    | true =>
      rw [if_pos rfl] at h3 ⊢
      refine mx _ _ _ (fun y h4 => ⟨h4.1, ?_⟩) h3
      exact lcL_inv Iv ds (i + 1) _ h4.2 (fun j d' acc' e1 e2 => by rw [show i + 1 + j = i + (j + 1) by omega] at e2 ⊢; exact hs (j + 1) d' acc' (by simpa using e1) e2) (fun acc' e1 => hd acc' (by rw [List.length_cons, show i + (ds.length + 1) = i + 1 + ds.length by omega]; exact e1)) mg mt mx
    | false =>
      rw [if_neg (by decide)] at h3 ⊢
      exact lcL_inv Iv ds (i + 1) _ h3 (fun j d' acc' e1 e2 => by rw [show i + 1 + j = i + (j + 1) by omega] at e2 ⊢; exact hs (j + 1) d' acc' (by simpa using e1) e2) (fun acc' e1 => hd acc' (by rw [List.length_cons, show i + (ds.length + 1) = i + 1 + ds.length by omega]; exact e1)) mg mt mx
/-- each item gives its own: [f(x) for x in xs] -/
theorem lcL_map {g : MG} {x : ME} {vs : List Nat} {ρ : Ev} {e : XD} {q : List D → Prop} (f : D → D) : ∀ (xs acc : List D), acc.length + xs.length ≤ 100000 →
    (∀ d ∈ xs, ∀ Q : D → Prop, Q (f d) → g d (wipeD ρ vs) fun ρ2 => x ρ2 Q e) → q (acc ++ xs.map f) → mLcL g mYes x vs ρ e xs acc q
  | [], acc, _, _, h => by
    rw [List.map_nil, List.append_nil] at h
    exact h
  | d :: ds, acc, hl, hs, h => by
    rw [List.length_cons] at hl
    refine hs d (List.mem_cons_self ..) _ ⟨szl (by omega), ?_⟩
    refine lcL_map f ds _ (by rw [List.length_append, List.length_singleton]; omega) (fun d' hd => hs d' (List.mem_cons_of_mem _ hd)) ?_
    rw [List.append_assoc]
    exact h
/-- [f(x) for x in xs if p(x)] -/
theorem lcL_filter {g : MG} {t : MT} {x : ME} {vs : List Nat} {ρ : Ev} {e : XD} {q : List D → Prop} (p : D → Bool) (f : D → D) : ∀ (xs acc : List D), acc.length + xs.length ≤ 100000 →
    (∀ d ∈ xs, ∀ Q : Bool → Ev → Prop, (∀ ρ2, (p d = true → ∀ Q' : D → Prop, Q' (f d) → x ρ2 Q' e) → Q (p d) ρ2) → g d (wipeD ρ vs) fun ρ2 => t ρ2 (fun b => Q b ρ2) e) → q (acc ++ (xs.filter p).map f) → mLcL g t x vs ρ e xs acc q
  | [], acc, _, _, h => by
    rw [List.filter_nil, List.map_nil, List.append_nil] at h
    exact h
  | d :: ds, acc, hl, hs, h => by
    rw [List.length_cons] at hl
    refine hs d (List.mem_cons_self ..) (fun b ρ2 => if b = true then x ρ2 (fun y => acc.length < sizeLine ∧ mLcL g t x vs ρ e ds (acc ++ [y]) q) e else mLcL g t x vs ρ e ds acc q) fun ρ2 hx => ?_
    cases c : p d with
    | true =>
      rw [if_pos rfl]
      refine hx c _ ⟨szl (by omega), ?_⟩
      refine lcL_filter p f ds _ (by rw [List.length_append, List.length_singleton]; omega) (fun d' hd => hs d' (List.mem_cons_of_mem _ hd)) ?_
      rw [List.filter_cons_of_pos c, List.map_cons] at h
      rw [List.append_assoc]
      exact h
    | false =>
      rw [if_neg (by decide)]
      refine lcL_filter p f ds _ (by omega) (fun d' hd => hs d' (List.mem_cons_of_mem _ hd)) ?_
      rw [List.filter_cons_of_neg (by rw [c]; decide)] at h
      exact h
/-- a loop by an invariant over the turn and the slots -/
theorem loop_inv {g : MG} {b : MS} {d : EndsD} {e : XD} (Iv : Nat → Ev → Prop) : ∀ (xs : List D) (i : Nat) (ρ : Ev), Iv i ρ →
    (∀ (j : Nat) (x : D) (ρ : Ev) (N : Ev → Prop), xs[j]? = some x → Iv (i + j) ρ → (∀ ρ', Iv (i + j + 1) ρ' → N ρ') → g x ρ fun ρ' => b { nx := N, rt := d.rt, bk := d.nx, ct := N } ρ' e) →
    (∀ ρ, Iv (i + xs.length) ρ → d.nx ρ) → msLoop g b xs d ρ e
  | [], i, ρ, h0, hs, hd => hd ρ h0
  | x :: xs, i, ρ, h0, hs, hd => hs 0 x ρ _ rfl h0 fun ρ' h1 => loop_inv Iv xs (i + 1) ρ' h1 (fun j x' ρ N e1 e2 e3 => by
      rw [show i + 1 + j = i + (j + 1) by omega] at e2 e3
      exact hs (j + 1) x' ρ N (by simpa using e1) e2 e3) fun ρ h => hd ρ (by rw [List.length_cons, show i + (xs.length + 1) = i + 1 + xs.length by omega]; exact h)
theorem toPyA_ints : ∀ ns : List Int, toPyA (ns.map .int) = some (ns.map .int)
  | [] => rfl
  | n :: ns => by rw [List.map_cons, toPyA, toPy, toPyA_ints ns]; rfl
theorem toPy_lI (ns : List Int) : toPy (.lst (ns.map .int)) = some (lI ns) := by rw [toPy, toPyA_ints]; rfl
theorem go_eqLI {a b : List Int} {q : KD} (h : q (.bl (decide (a = b)))) : fEq false (.lst (a.map .int)) (.lst (b.map .int)) q := ⟨_, _, toPy_lI a, toPy_lI b, shaped_lI a, shaped_lI b, by
  show q (.bl (PyData.eqv (lI a) (lI b)))
  rw [eqv_lI]; exact h⟩
theorem isLoadD_tup {n m : Nat} {xs : List D} : isLoadD n m (.tup xs) = (match pairsOf n m xs with | some L => decide (L.length ≤ n) && ascB L | none => false) := by
  show (match pairsOf n m xs with | some L => if (decide (L.length ≤ n) && ascB L) = true then some L else none | none => none).isSome = _
  cases pairsOf n m xs with
  | none => rfl
  | some L =>
    show (if (decide (L.length ≤ n) && ascB L) = true then some L else none).isSome = (decide (L.length ≤ n) && ascB L)
    cases (decide (L.length ≤ n) && ascB L) <;> rfl
theorem isStaD_tup {ds es : List Int} {m : Int} {xs : List D} : isStaD ds es m (.tup xs) = (decide (((xs.length : Nat) : Int) = m) && (match loadsOf ds.length es.length xs with | some S => doorB ds es S | none => false)) := by
  show (if ((xs.length : Nat) : Int) = m then match loadsOf ds.length es.length xs with | some S => if doorB ds es S = true then some S else none | none => none else none).isSome = _
  by_cases c : ((xs.length : Nat) : Int) = m
  · rw [if_pos c, decide_eq_true c, Bool.true_and]
    cases loadsOf ds.length es.length xs with
    | none => rfl
    | some S =>
      show (if doorB ds es S = true then some S else none).isSome = doorB ds es S
      cases doorB ds es S <;> rfl
  · rw [if_neg c, decide_eq_false c, Bool.false_and]
    rfl
/-- a, b = (a new list), (a new list), both to be changed -/
abbrev msOwn2 (i j : Nat) (a b : MA) : MS := fun d ρ e => a ρ (fun ds => b ρ (fun es => d.nx ((ρ.set i (some (.own ds))).set j (some (.own es)))) e) e
theorem ss_own2 {E : XK} {t1 t2 : TE} {m1 m2 : MA} {i j : Nat} (h1 : SimN E t1 m1) (h2 : SimN E t2 m2) : SimS E (tPar i j (tCons t1 (tCons t2 tNil))) (msOwn2 i j m1 m2) := fun W0 H0 W H σ ρ D d e k0 g R hm c kx =>
  h1 W H0 H σ ρ _ _ e R hm (fun W1 H1 p1 vs1 ds g1 hp1 e1 f1 n1 t1 hm1 => h2 W1 H0 H1 σ ρ _ _ e (R.go g1) hm1 (fun W2 H2 p2 vs2 es g2 hp2 e2 f2 n2 t2 hm2 =>
    ⟨.ref p1, .ref p2, rfl, c.nx W2 H2 _ _ (g1.trans R.ok g2).le (g.trans k0 (g1.trans R.ok g2)) ((R.newOwn g1 hp1 (g.gone k0 hp1) e1 f1 n1 t1).newOwn g2 hp2 (g.gone k0 (g1.gone R.ok hp2)) e2 f2 n2 t2) hm2⟩) (kx.go k0 (g.trans k0 g1))) (kx.go k0 g)
/-- [f(x, y) for x in xs for y in F(x)]: each x gives its own row -/
theorem lc2_flat {g : MG} {i1 : MI} {g1 : MG} {t1 : MT} {x : ME} {vs vs1 : List Nat} {ρ : Ev} {e : XD} {q : List D → Prop} (F : D → List D) : ∀ (xs acc : List D), acc.length + (xs.flatMap F).length ≤ 100000 →
    (∀ d ∈ xs, ∀ (acc : List D) (Q : List D → Prop), acc.length + (F d).length ≤ 100000 → Q (acc ++ F d) → g d (wipeD ρ vs) fun ρ2 => i1 ρ2 (fun ys => mLcL g1 t1 x vs1 ρ2 e ys acc Q) e) → q (acc ++ xs.flatMap F) → mLc2O g mYes i1 g1 t1 x vs vs1 ρ e xs acc q
  | [], acc, _, _, h => by
    rw [List.flatMap_nil, List.append_nil] at h
    exact h
  | d :: ds, acc, hl, hs, h => by
    rw [List.flatMap_cons, List.length_append] at hl
    refine hs d (List.mem_cons_self ..) acc _ (by omega) ?_
    refine lc2_flat F ds _ (by rw [List.length_append]; omega) (fun d' hd => hs d' (List.mem_cons_of_mem _ hd)) ?_
    rw [List.flatMap_cons] at h
    rw [List.append_assoc]
    exact h
/-- [f(x, y) for x in xs if p(x) for y in F(x)] -/
theorem lc2_flatF {g : MG} {t : MT} {i1 : MI} {g1 : MG} {t1 : MT} {x : ME} {vs vs1 : List Nat} {ρ : Ev} {e : XD} {q : List D → Prop} (F : D → List D) : ∀ (xs acc : List D), acc.length + (xs.flatMap F).length ≤ 100000 →
    (∀ d ∈ xs, ∀ (acc : List D) (Q : List D → Prop), acc.length + (F d).length ≤ 100000 → Q (acc ++ F d) → g d (wipeD ρ vs) fun ρ2 => t ρ2 (fun b => if b = true then i1 ρ2 (fun ys => mLcL g1 t1 x vs1 ρ2 e ys acc Q) e else Q acc) e) → q (acc ++ xs.flatMap F) → mLc2O g t i1 g1 t1 x vs vs1 ρ e xs acc q
  | [], acc, _, _, h => by
    rw [List.flatMap_nil, List.append_nil] at h
    exact h
  | d :: ds, acc, hl, hs, h => by
    rw [List.flatMap_cons, List.length_append] at hl
    refine hs d (List.mem_cons_self ..) acc _ (by omega) ?_
    refine lc2_flatF F ds _ (by rw [List.length_append]; omega) (fun d' hd => hs d' (List.mem_cons_of_mem _ hd)) ?_
    rw [List.flatMap_cons] at h
    rw [List.append_assoc]
    exact h
theorem go_p0 {p : PP} {q : KD} (h : q (.int p.1)) : fIx (pairD p) (.int 0) q := ⟨_, _, _, .inl rfl, rfl, rfl, h⟩
theorem go_p1 {p : PP} {q : KD} (h : q (.int p.2)) : fIx (pairD p) (.int 1) q := ⟨_, _, _, .inl rfl, rfl, rfl, h⟩
theorem isPair_ok {n m : Nat} {p : PP} (h : InP n m p) : isPairD n m (pairD p) = true := by unfold isPairD; rw [pairOf_pair h]; rfl
theorem isSta_ok {ds es : List Int} {m : Int} {S : List (List PP)} (h : StdOk ds es m S) : isStaD ds es m (stD S) = true := by
  show isStaD ds es m (.tup (S.map ldD)) = true
  rw [isStaD_tup, loadsOf_map h.ld, List.length_map, decide_eq_true h.len]
  show (true && doorB ds es S) = true
  unfold doorB
  rw [decide_eq_true h.ci, decide_eq_true h.co]
  rfl
/-- ints told apart by a list of ints read at a place -/
theorem go_ixI {ns : List Int} {i : Int} {q : KD} (h0 : 0 ≤ i) (h1 : i < ns.length) (h : q (.int (ns.getD i.toNat 0))) : fIx (.lst (ns.map .int)) (.int i) q := by
  obtain ⟨n, rfl⟩ := Int.eq_ofNat_of_zero_le h0
  have e : ns[n]? = some (ns.getD n 0) := by
    rw [List.getD_eq_getElem?_getD, List.getElem?_eq_getElem (by omega)]
    rfl
  exact go_ixL (by rw [List.getElem?_map, e]; rfl) h
theorem go_ixIT {ns : List Int} {i : Int} {q : KD} (h0 : 0 ≤ i) (h1 : i < ns.length) (h : q (.int (ns.getD i.toNat 0))) : fIx (intsD ns) (.int i) q := by
  obtain ⟨n, rfl⟩ := Int.eq_ofNat_of_zero_le h0
  have e : ns[n]? = some (ns.getD n 0) := by
    rw [List.getD_eq_getElem?_getD, List.getElem?_eq_getElem (by omega)]
    rfl
  exact go_ixT (by rw [List.getElem?_map, e]; rfl) h
/-! pairs as the library's data -/
theorem toPy_pair (p : PP) : toPy (pairD p) = some (Com.pD p) := rfl
theorem toPyA_pairs : ∀ L : List PP, toPyA (L.map pairD) = some (L.map Com.pD)
  | [] => rfl
  | p :: L => by rw [List.map_cons, toPyA, toPy_pair, toPyA_pairs L]; rfl
theorem shaped_pD (p : PP) : SeqAt.shaped (Com.pD p) = true := shaped_tI _
theorem any_pD (L : List PP) (p : PP) : (L.map Com.pD).any (fun z => PyData.eqv z (Com.pD p)) = decide (p ∈ L) := by
  rw [List.any_map]
  induction L with
  | nil => rfl
  | cons a L ih =>
    rw [List.any_cons, ih]
    show (PyData.eqv (Com.pD a) (Com.pD p) || decide (p ∈ L)) = decide (p ∈ a :: L)
    rw [Com.eqv_pD]
    by_cases h : a = p
    · simp [h]
    · have h2 : ¬ p = a := fun z => h z.symm
      simp [h, h2]
theorem go_inPL {L : List PP} {p : PP} {q : KD} (h : q (.bl (decide (p ∈ L)))) : fIn false (pairD p) (.lst (L.map pairD)) q := ⟨_, _, _, toPy_pair p, .inr rfl, toPyA_pairs L, shaped_pD p, shaped_lP L, by
  show q (.bl _)
  rw [any_pD]; exact h⟩
theorem go_eqEmpL {ds : List D} {ps : List PyData} {q : KD} (e : toPyA ds = some ps) (s : SeqAt.shaped (.list ps) = true) (h : q (.bl (decide (ds = [])))) : fEq false (.lst ds) (.lst []) q := ⟨.list ps, .list [], by rw [toPy, e], rfl, s, rfl, by
  show q (.bl (PyData.eqv (.list ps) (.list [])))
  have : PyData.eqv (.list ps) (.list []) = decide (ds = []) := by
    cases ds with
    | nil =>
      rw [toPyA] at e
      cases e
      rfl
    | cons d ds =>
      rw [toPyA] at e
      cases e1 : toPy d with
      | none => rw [e1] at e; cases e
      | some p =>
        cases e2 : toPyA ds with
        | none => rw [e1, e2] at e; cases e
        | some ps' =>
          rw [e1, e2] at e
          cases e
          rw [PyData.eqv, PyData.eqvAll]
          simp
  rw [this]
  exact h⟩
theorem go_eqEmpI {ns : List Int} {q : KD} (h : q (.bl (decide (ns = [])))) : fEq false (.lst (ns.map .int)) (.lst []) q := go_eqEmpL (toPyA_ints ns) (shaped_lI ns) (by
  rw [show decide (ns.map D.int = []) = decide (ns = []) from decide_eq_decide.mpr List.map_eq_nil_iff]; exact h)
/-! ### a list * int; min of two; slices from the start -/
theorem op_repeat {X : Cx} : OpR X (binaryOp .Mult) rRep := op_rep
def fRepL (x y : D) (q : KD) : Prop := match x, y with
  | .lst ds, .int k => -(2 ^ 63) ≤ k ∧ k < 2 ^ 63 ∧ ds.length * k.toNat ≤ sizeLine ∧ q (.lst (List.replicate k.toNat ds).flatten)
  | _, _ => False
theorem sr_repL : SimR rRep fRepL := fun W H x y dx dy Q q k hx hy h hk => by
  cases hx with
  | lst a t =>
    cases hy with
    | int i =>
      obtain ⟨h1, h2, h3, h⟩ := h
      exact ⟨_, i, _, rfl, rfl, k.f _ _ a, h1, h2, by rw [t.length]; exact h3, fun p hp => hk _ _ _ _ (.put k hp) (.lst (upd_same (H := W.F)) ((t.rep _).mono (Go.put k hp).le)) h⟩
    | _ => exact h.elim
  | _ => exact h.elim
theorem cut_take {xs : List D} {a : Int} (h : 0 ≤ a) : cutD xs none (some a) = xs.take a.toNat := by
  unfold cutD
  rw [HT.sIx_none, List.drop_zero, Nat.sub_zero]
  show xs.take (if a < 0 then (a + (xs.length : Int)).toNat else min a.toNat xs.length) = _
  rw [if_neg (by omega)]
  by_cases c : a.toNat ≤ xs.length
  · rw [Nat.min_eq_left c]
  · rw [Nat.min_eq_right (by omega), List.take_length, List.take_of_length_le (by omega)]
theorem rep_pairs (n : Nat) (p : PP) : (List.replicate n [pairD p]).flatten = (List.replicate n p).map pairD := by
  induction n with
  | zero => rfl
  | succ n ih => rw [List.replicate_succ, List.replicate_succ, List.flatten_cons, ih]; rfl
theorem at_ev {N : Ev → Prop} {ρ ρ' : Ev} (h : ρ = ρ') (g : N ρ') : N ρ := by rw [h]; exact g
theorem go_takeL {xs ys : List D} {a : Int} {q : KD} (e : cutD xs none (some a) = ys) (h : q (.lst ys)) : fSl (.lst xs) none (some a) q := by
  show q (.lst (cutD xs none (some a)))
  rw [e]; exact h
end Dt
set_option Elab.async false
set_option linter.all false
set_option maxRecDepth 100000
set_option maxHeartbeats 4000000
/-! Errors over data. -/
namespace Dt
open PySem PySem.Spec PyProof.Rows L2 Com Gn
theorem passC {P : Program} {w : World} {K : PySem.W.Frag} {mg : Str → Option Value} {base : Heap} {N : List Str} {qual : Str} {scope : Scope} {f : Addr} {cd : Value} {A : Around} {outer : List Env} {s : Shared} {H : Hp} {E : XK}
    (hs : (cxOf (L2.CX P w) P w K mg base N qual scope f cd A outer s H E).stack = (cxOf (L2.CX P w) P w K mg base N qual scope f cd A outer s H E).env :: (cxOf (L2.CX P w) P w K mg base N qual scope f cd A outer s H E).outer := by rfl)
    (hf : (cxOf (L2.CX P w) P w K mg base N qual scope f cd A outer s H E).env.frame = some (cxOf (L2.CX P w) P w K mg base N qual scope f cd A outer s H E).env.locals := by rfl) : Passes (L2.CX P w) (cxOf (L2.CX P w) P w K mg base N qual scope f cd A outer s H E) E :=
  passes_call (X := cxOf (L2.CX P w) P w K mg base N qual scope f cd A outer s H E) (takes_of hs hf rfl rfl) fun _ _ _ _ h => h
/-- a def that raises, called where nothing may leave -/
theorem passN {X : Cx} (h : Takes X (fun _ _ _ _ => False)) : Passes (L2.CX X.prog X.w) X (fun _ _ _ => False) := fun pins σ H s e s' I c => passes_call h (fun _ _ _ _ z => z) pins σ H s e s' I c
section
variable {P : Program} {w : World} {K : PySem.W.Frag} {mg : Str → Option Value} {base : Heap} {x qual : Str} {C : Addr} {st : Stmt} {ps N : List Str} {k : Nat} {sp : SpD}
theorem DefAtX.ok (D : DefAt K mg x st ps) (S : FnScope N ps (defScope st)) (len : ∀ ds q e, sp ds q e → ds.length = ps.length)
    (hbody : ∀ (f : Addr) (cdv : Value) (A : Around) (outer : List Env) (s : Shared) (H : Hp) (E : XK), Room k (A.deeper (envOfC x (defScope st) s.heap.objs.size f cdv)) →
      ∃ t m, PSs (cxOf (L2.CX P w) P w K mg base N x (defScope st) f cdv A outer s H E) (defBody st) t ∧ SimS E t m ∧ ∀ ds q e, sp ds q e → m (endD q) (startD N ds) e) : DefOk P w K mg base (L2.CX P w) (k + 1) x (spOf sp) := by
  refine D.okX S (fun vs H Q E h => ?_) (fun f cdv A outer s H vs Q E hr h => ?_)
  · obtain ⟨W, ds, q, e, k0, t, h, _⟩ := h
    rw [t.length, len ds q e h]
  obtain ⟨W, ds, q, e, k0, t, h, kq, kx⟩ := h
  obtain ⟨t', m, p, sm, hm⟩ := hbody f cdv A outer s H E hr
  exact ⟨t', p, sm W H W H _ _ _ (endD q) e k0 (.refl k0) (rep_start k0 t) (hm ds q e h) (ct_end (E := E) (e := e) kq _ rfl rfl) kx⟩
theorem MethAtX.ok (D : MethAt K C x qual st ps) (S : FnScope N ps (defScope st)) (len : ∀ ds q e, sp ds q e → ds.length = ps.length)
    (hbody : ∀ (f : Addr) (cdv : Value) (A : Around) (outer : List Env) (s : Shared) (H : Hp) (E : XK), Room k (A.deeper (envOfC qual (defScope st) s.heap.objs.size f cdv)) →
      ∃ t m, PSs (cxOf (L2.CX P w) P w K mg base N qual (defScope st) f cdv A outer s H E) (defBody st) t ∧ SimS E t m ∧ ∀ ds q e, sp ds q e → m (endD q) (startD N ds) e) : MethOk P w K mg base (L2.CX P w) (k + 1) C x (spOf sp) := by
  refine D.fnX S (fun vs H Q E h => ?_) (fun f cdv A outer s H vs Q E hr h => ?_)
  · obtain ⟨W, ds, q, e, k0, t, h, _⟩ := h
    rw [t.length, len ds q e h]
  obtain ⟨W, ds, q, e, k0, t, h, kq, kx⟩ := h
  obtain ⟨t', m, p, sm, hm⟩ := hbody f cdv A outer s H E hr
  exact ⟨t', p, sm W H W H _ _ _ (endD q) e k0 (.refl k0) (rep_start k0 t) (hm ds q e h) (ct_end (E := E) (e := e) kq _ rfl rfl) kx⟩
end
/-- raise X(e) -/
def tMkF (F : Str) (C : Addr) (ta : TA) : L2.St → Hp → XK → Prop := fun σ H Q => ta σ H fun vs H1 => ∃ v, vs = [v] ∧ ∀ d, H1 d = none → Q (.ref C) (some d) (upd H1 d (.xd [(F, v)]))
abbrev msRaise (C : Addr) (F : Str) (a : MA) : MS := fun _ ρ e => a ρ (fun ds => ∃ x, ds = [x] ∧ e C F x) e
theorem ss_raise {E : XK} {F : Str} {C : Addr} {n : Nat} {ta : TA} {ma : MA} (ha : SimA E n ta ma) : SimS E (fun _ σ H => tMkF F C ta σ H fun cls d H' => E cls d H') (msRaise C F ma) := fun W0 H0 W H σ ρ D d e k0 g R h c kx =>
  ha W H0 H σ ρ _ _ e R h (fun W1 vs ds H1 g1 hv _ h1 => by
    obtain ⟨x, rfl, h1⟩ := h1
    obtain ⟨v, rfl, hv1⟩ := one_of hv
    refine ⟨v, rfl, fun dd hd => ?_⟩
    have g2 := Go.own (o := .xd [(F, v)]) g1.ok hd
    exact kx W1 _ C dd F v x ((g.trans k0 g1).trans k0 g2) upd_same hv1 h1) (kx.go k0 g)
/-! ### try: one statement; except X as e: x = (tag, e.f) | x = e.f -/
def SimEW (te : WX → TE) (m : ME) : Prop := ∀ (V : WX) W H0 H σ ρ Q q e, Rep W H0 H σ ρ → m ρ q e → Kv W H Q q → Kx W H (fun cls d H' => V cls d σ H') e → te V σ H Q
def SimB (tb : WX → TS) (m : MS) : Prop := ∀ (V : WX) W0 H0 W H σ ρ D d e, Ok W0 H0 → Go W0 H0 W H → Rep W H0 H σ ρ → m d ρ e → Ct W0 H0 W D d → Kx W H (fun cls d H' => V cls d σ H') e → tb V D σ H
section
variable {te : WX → TE} {me : ME} {aa : TA} {na : MA} {n : Nat} {sp : SpD} {K : PySem.W.Frag}
theorem sew_def (ha : ∀ E, SimA E n aa na) : SimEW (fun V => tDefS (spOf sp) (WE V) aa) (mDef sp na) := fun V W H0 H σ ρ Q q e R h k kx =>
  ha _ W H0 H σ ρ _ _ e R h (fun W1 xs ds H1 g1 hx _ h1 => ⟨W1, ds, q, e, g1.ok, hx, h1, k.go R.ok g1, kx.go R.ok g1⟩) kx
theorem sew_mth {C : Addr} {m : Str} {ta : TE} {ma : ME} (ho : ∀ E, SimE E ta ma) (ha : ∀ E, SimA E n aa na) : SimEW (fun V => tMthS C m (spOf sp) (WE V) ta aa) (mMth C m sp ma na) := fun V W H0 H σ ρ Q q e R h k kx =>
  ho _ W H0 H σ ρ _ _ e R h (fun W1 v d H1 g1 hx h1 => by
    obtain ⟨ks, ds, e1, e2, h1⟩ := h1
    obtain ⟨a, dx, vs, e3, e4, l, t⟩ := obj_of g1.ok hx e1
    exact ⟨a, dx, _, e3, e4, look_no e2, ha _ W1 H0 H1 σ ρ _ _ e (R.go g1) h1 (fun W2 xs es H2 g2 hy _ h2 => ⟨W2, d :: es, q, e, g2.ok, .cons (hx.mono g2.le) hy, h2, k.go R.ok (g1.trans R.ok g2), kx.go R.ok (g1.trans R.ok g2)⟩) (kx.go R.ok g1)⟩) kx
abbrev mTold (t : Str) (m : ME) : ME := fun ρ q e => m ρ (fun x => q (.tup [.str t, x])) e
theorem sew_told {t : Str} (h : SimEW te me) : SimEW (fun V => tTup (tCons (tC (.str t)) (tCons (te V) tNil))) (mTold t me) := fun V W H0 H σ ρ Q q e R hm k kx =>
  h V W H0 H σ ρ _ _ e R hm (fun W1 v x H1 g1 hv h1 => ⟨(by show 2 ≤ sizeLine; decide), fun p hp => k _ _ _ _ (g1.trans R.ok (.put g1.ok hp)) (.tup (upd_same (H := W1.F)) (.cons (.str t) (.one (hv.mono (Go.put g1.ok hp).le)))) h1⟩) kx
theorem sb_asg {i : Nat} (h : SimEW te me) : SimB (fun V => tAsg (te V) (gName i)) (msAsg me (mgN i)) := fun V W0 H0 W H σ ρ D d e k0 g R hm c kx =>
  h V W H0 H σ ρ _ _ e R hm (fun W1 v x H1 g1 hv h1 => c.nx W1 H1 _ _ g1.le (g.trans k0 g1) ((R.go g1).set hv) h1) kx
theorem sb_exp (h : SimEW te me) : SimB (fun V => tDrop (te V)) (msExp me) := fun V W0 H0 W H σ ρ D d e k0 g R hm c kx =>
  h V W H0 H σ ρ _ _ e R hm (fun W1 v x H1 g1 hv h1 => c.nx W1 H1 σ ρ g1.le (g.trans k0 g1) (R.go g1) h1) kx
/-- a clause: its class, the field read, the tag -/
structure ClD where
  C : Addr
  f : Str
  tag : Option Str
def ClD.val (c : ClD) (v : D) : D := match c.tag with
  | some t => .tup [.str t, v]
  | none => v
def ClD.cl (i x : Nat) (c : ClD) : Cl := match c.tag with
  | some t => ⟨.ref c.C, i, fun a cls d => tAsg (tTup (tCons (tC (.str t)) (tCons (tXf a cls d c.C c.f (tVar i)) tNil))) (gName x)⟩
  | none => ⟨.ref c.C, i, fun a cls d => tAsg (tXf a cls d c.C c.f (tVar i)) (gName x)⟩
/-- an error of one of these classes is caught by its own alone -/
def ExmT (K : PySem.W.Frag) (Cs : List Addr) : Prop := ∀ (i j : Nat) C C', Cs[i]? = some C → Cs[j]? = some C' → PySem.W.exmOne K (.ref C) (.ref C') = some (decide (i = j))
abbrev msTry (i x : Nat) (l : List ClD) (m : MS) : MS := fun d ρ _ => m d ρ (fun C f v => ∃ (j : Nat) (c : ClD), l[j]? = some c ∧ c.C = C ∧ c.f = f ∧ d.nx (((ρ.set i none).set x (some (.d (c.val v)))).set i none))
theorem Rep.forget {W : Wd} {H0 H : Hp} {σ : L2.St} {ρ : Ev} {i : Nat} {o : Option V} (R : Rep W H0 H σ ρ) : Rep W H0 H (σ.set i o) (ρ.set i none) where
  ok := R.ok
  len := by rw [List.length_set, List.length_set, R.len]
  at_ := fun j e q => by
    rcases getset q with ⟨_, e1, _⟩ | ⟨n, q⟩
    · cases e1
    · obtain ⟨u, e1, s⟩ := R.at_ j e q
      exact ⟨u, by rw [List.getElem?_set_ne (fun z => n z.symm)]; exact e1, s⟩
  sep := fun j k xs ys u q1 q2 q3 q4 => by
    rcases getset q1 with ⟨_, e1, _⟩ | ⟨n1, q1⟩
    · cases e1
    rcases getset q2 with ⟨_, e1, _⟩ | ⟨n2, q2⟩
    · cases e1
    rw [List.getElem?_set_ne (fun z => n1 z.symm)] at q3
    rw [List.getElem?_set_ne (fun z => n2 z.symm)] at q4
    exact R.sep j k xs ys u q1 q2 q3 q4
theorem wma_go {i x : Nat} {D : Ends} {σ : L2.St} {H : Hp} {dd : Addr} {v : V} {C : Addr} : ∀ (l : List ClD) (b j : Nat) (c : ClD), l[j]? = some c → c.C = C → H dd = some (.xd [(c.f, v)]) → i < σ.length →
    (∀ k c', l[k]? = some c' → PySem.W.exmOne K (.ref C) (.ref c'.C) = some (decide (j = k))) →
    (∀ a, H a = none → ∀ u H1, (∃ p, H p = none ∧ c.tag.isSome ∧ u = .ref p ∧ H1 = upd H p (.tup [.str (c.tag.getD ""), v])) ∨ (c.tag = none ∧ u = v ∧ H1 = H) → D.nx (((σ.set i (some (.ref a))).set x (some u)).set i none) H1) →
    wMA K (fun _ _ _ _ => False) D (l.map (ClD.cl i x)) (.ref C) (some dd) σ H
  | [], b, j, c, h, _, _, _, _, _ => by simp at h
  | c0 :: l, b, 0, c, h, hC, hd, hi, hx, hk => by
    rw [List.getElem?_cons_zero] at h
    cases h
    subst hC
    have h0 := hx 0 c0 rfl
    obtain ⟨C, f, tag⟩ := c0
    cases tag with
    | some t =>
      refine ⟨true, h0, fun _ a ha => ⟨.ref a, List.getElem?_set_self hi, rfl, rfl, dd, _, v, rfl, hd, lk_eq, (by show 2 ≤ sizeLine; decide), fun p hp => ?_⟩, fun z => nomatch z⟩
      exact hk a ha _ _ (.inl ⟨p, hp, rfl, rfl, rfl⟩)
    | none => exact ⟨true, h0, fun _ a ha => ⟨.ref a, List.getElem?_set_self hi, rfl, rfl, dd, _, v, rfl, hd, lk_eq, hk a ha _ _ (.inr ⟨rfl, rfl, rfl⟩)⟩, fun z => nomatch z⟩
  | c0 :: l, b, j + 1, c, h, hC, hd, hi, hx, hk => by
    rw [List.getElem?_cons_succ] at h
    have h0 := hx 0 c0 rfl
    rw [decide_eq_false (by omega)] at h0
    have r := wma_go (i := i) (x := x) l b j c h hC hd hi (fun k c' e => by
      have := hx (k + 1) c' (by simpa using e)
      rw [this]
      exact congrArg some (decide_eq_decide.mpr (by omega))) hk
    obtain ⟨C0, f0, tag0⟩ := c0
    cases tag0 with
    | some t => exact ⟨false, h0, (fun z => nomatch z), fun _ => r⟩
    | none => exact ⟨false, h0, (fun z => nomatch z), fun _ => r⟩
theorem ss_try {E : XK} {tb : WX → TS} {mb : MS} {i x : Nat} (l : List ClD) (hb : SimB tb mb) (hx : ExmT K (l.map (·.C))) : SimS E (fun D σ H => tb (wMA K (fun _ _ _ _ => False) D (l.map (ClD.cl i x))) D σ H) (fun d ρ e => i < ρ.length ∧ msTry i x l mb d ρ e) := fun W0 H0 W H σ ρ D d e k0 g R hm c kx => by
  obtain ⟨hi, hm⟩ := hm
  refine hb _ W0 H0 W H σ ρ D d _ k0 g R hm c fun W' H' C dx f v y g1 e1 hv he => ?_
  obtain ⟨j, cl, e2, rfl, rfl, h2⟩ := he
  refine wma_go l 0 j cl e2 rfl e1 (by rw [R.len]; exact hi) (fun k c' e3 => hx j k _ _ (by rw [List.getElem?_map, e2]; rfl) (by rw [List.getElem?_map, e3]; rfl)) fun a ha u H1 hu => ?_
  have R1 := (R.go g1).forget (i := i) (o := some (.ref a))
  rcases hu with ⟨p, hp, ht, rfl, rfl⟩ | ⟨ht, rfl, rfl⟩
  · obtain ⟨C, f, tag⟩ := cl
    cases tag with
    | none => cases ht
    | some t =>
      have g2 := Go.put (o := .tup [.str t, v]) g1.ok hp
      refine c.nx _ _ _ _ (g1.trans R.ok g2).le (g.trans k0 (g1.trans R.ok g2)) (((R1.go g2).set (d := .tup [.str t, y]) (.tup (upd_same (H := W'.F)) (.cons (.str t) (.one (hv.mono g2.le))))).wipe1) h2
  · obtain ⟨C, f, tag⟩ := cl
    cases tag with
    | some t => cases ht
    | none => exact c.nx _ _ _ _ g1.le (g.trans k0 g1) ((R1.set hv).wipe1) h2
end
end Dt
set_option Elab.async false
set_option linter.all false
set_option maxRecDepth 100000
set_option maxHeartbeats 4000000
/-! More over data: sorted(list of pairs); comprehensions by steps; text of the law. -/
namespace Dt
open PySem PySem.Spec PyProof.Rows L2 Com Gn StV Sd
open Dt (pairD)
/-- a list of pairs sorted -/
def fSrtP (xs : List D) (q : KD) : Prop := ∃ L : List PP, xs = [.lst (L.map pairD)] ∧ q (.lst ((srt L).map pairD))
theorem sc_srtP {K : PySem.W.Frag} : SimC (rSrtP K) fSrtP := fun W H xs ds Q q k hx h hk => by
  obtain ⟨L, rfl, h⟩ := h
  obtain ⟨v, rfl, hv⟩ := one_of hx
  obtain ⟨a, vs, rfl, f, hh, t⟩ := lst_of k hv rfl
  refine ⟨a, vs, L, rfl, SqL.of hh, vd_pairs k t, fun us p hus hp => ?_⟩
  have k0 := go_same k (Same.refl H)
  have g1 : Go W H ((W.all H).put p (.lst us)) (upd H p (.lst us)) := k0.trans k (.put k0.ok hp)
  exact hk _ _ _ _ g1 (.lst (upd_same (H := (W.all H).F)) ((all_pairs k.f hus).mono (Go.put k0.ok hp).le)) h
/-- a comprehension by steps, the rest unknown -/
theorem lcL_step {g : MG} {t : MT} {x : ME} {vs : List Nat} {ρ : Ev} {e : XD} (Iv : Nat → List D → Prop) {q : List D → Prop} : ∀ (xs : List D) (i : Nat) (acc : List D), Iv i acc →
    (∀ (j : Nat) (d : D) (acc : List D) (N : List D → Prop), xs[j]? = some d → Iv (i + j) acc → (∀ acc', Iv (i + j + 1) acc' → N acc') → g d (wipeD ρ vs) fun ρ2 => t ρ2 (fun b => if b = true then x ρ2 (fun y => acc.length < sizeLine ∧ N (acc ++ [y])) e else N acc) e) →
    (∀ acc, Iv (i + xs.length) acc → q acc) → mLcL g t x vs ρ e xs acc q
  | [], i, acc, h0, hs, hd => hd acc h0
  | d :: ds, i, acc, h0, hs, hd => hs 0 d acc (fun a => mLcL g t x vs ρ e ds a q) rfl h0 fun acc' h1 => lcL_step Iv ds (i + 1) acc' h1 (fun j d' acc2 N e1 e2 e3 => by
      rw [show i + 1 + j = i + (j + 1) by omega] at e2 e3
      exact hs (j + 1) d' acc2 N (by simpa using e1) e2 e3) fun acc2 e1 => hd acc2 (by rw [List.length_cons, show i + (ds.length + 1) = i + 1 + ds.length by omega]; exact e1)
theorem cut_drop {xs : List D} {a : Int} (h : 0 ≤ a) (h2 : a ≤ xs.length) : cutD xs (some a) none = xs.drop a.toNat := by
  obtain ⟨n, rfl⟩ := Int.eq_ofNat_of_zero_le h
  unfold cutD
  have e1 : HT.sIx xs.length 0 (some ((n : Nat) : Int)) = n := by
    show (if ((n : Nat) : Int) < 0 then (((n : Nat) : Int) + (xs.length : Int)).toNat else min ((n : Nat) : Int).toNat xs.length) = n
    rw [if_neg (by omega)]
    omega
  have e2 : HT.sIx xs.length xs.length none = xs.length := rfl
  rw [e1, e2, Int.toNat_natCast]
  exact List.take_of_length_le (by rw [List.length_drop]; omega)
end Dt
set_option Elab.async false
set_option linter.all false
set_option maxRecDepth 100000
set_option maxHeartbeats 4000000
/-! t[i::9], list(reversed(t)), {} and Share(i) over data; the promise of _law_loads. -/
namespace Dt
open PySem PySem.Spec PyProof.Rows L2 Com Gn StV Sd
open Dt (pairD)
section
variable {E : XK} {K : PySem.W.Frag} {te tl : TE} {me ml : ME} {aa : TA} {na : MA} {n : Nat}
abbrev mNine (a b : ME) : ME := fun ρ q e => a ρ (fun x => b ρ (fun y => ∃ xs i d, x = .tup xs ∧ y = .int ((i : Nat) : Int) ∧ xs.length ≤ 9 ∧ xs[i]? = some d ∧ q (.tup [d])) e) e
theorem si_nine (ha : SimE E te me) (hb : SimE E tl ml) : SimE E (tNine K te tl) (mNine me ml) := fun W H0 H σ ρ Q q e R h k kx =>
  ha W H0 H σ ρ _ _ e R h (fun W1 x dx H1 g1 hx h1 =>
    hb W1 H0 H1 σ ρ _ _ e (R.go g1) h1 (fun W2 y dy H2 g2 hy h2 => by
      obtain ⟨xs, i, d, rfl, rfl, hl, hd, h2⟩ := h2
      obtain ⟨a, vs, rfl, f, hh, t⟩ := tup_of g1.ok hx rfl
      cases hy
      obtain ⟨v, hv, rv⟩ := t.get' hd
      have g12 := g1.trans R.ok g2
      refine ⟨a, vs, i, v, rfl, rfl, SqT.of (g2.ok.f _ _ (g2.le.f _ _ f)), by rw [t.length]; exact hl, hv, fun p hp => ?_⟩
      exact k _ _ _ _ (g12.trans R.ok (.put g2.ok hp)) (.tup (upd_same (H := W2.F)) (.one ((rv.mono g2.le).mono (Go.put g2.ok hp).le))) h2) (kx.go R.ok g1)) kx
abbrev mListRev (a : ME) : ME := fun ρ q e => a ρ (fun x => ∃ xs, x = .tup xs ∧ xs.length ≤ 100000 ∧ q (.lst xs.reverse)) e
theorem VdA.reverse {W : Wd} : ∀ {vs : List V} {ds : List D}, VdA W vs ds → VdA W vs.reverse ds.reverse
  | _, _, .nil => .nil
  | _, _, .cons h t => by
    rw [List.reverse_cons, List.reverse_cons]
    exact (VdA.reverse t).append (.one h)
theorem si_listRev (ha : SimE E te me) : SimE E (tListRev K te) (mListRev me) := fun W H0 H σ ρ Q q e R h k kx =>
  ha W H0 H σ ρ _ _ e R h (fun W1 x dx H1 g1 hx h1 => by
    obtain ⟨xs, rfl, hl, h1⟩ := h1
    obtain ⟨a, vs, rfl, f, hh, t⟩ := tup_of g1.ok hx rfl
    refine ⟨a, vs, rfl, SqT.of hh, by rw [t.length]; exact hl, fun p hp => ?_⟩
    exact k _ _ _ _ (g1.trans R.ok (.put g1.ok hp)) (.lst (upd_same (H := W1.F)) (t.reverse.mono (Go.put g1.ok hp).le)) h1) kx
abbrev mD0 : ME := fun _ q _ => q .dict0
theorem Go.put0 {W : Wd} {H : Hp} {p : Addr} (k : Ok W H) (hp : H p = none) : Go W H (W.put p (.dK [])) (upd H p (.dK [])) := .put k hp
theorem si_dict0 : SimE E tDNewK mD0 := fun W H0 H σ ρ Q q e R h k kx p hp => k _ _ _ _ (.put R.ok hp) (.dict0 (upd_same (H := W.F))) h
def spSh1 (C2 : Addr) : Sp := fun vs H Q _ => ∃ (p dx : Addr) (i : Int), vs = [.ref p, .int i] ∧ H p = some (.ins C2 dx []) ∧ ∀ H' dx' n d, H' p = some (.ins C2 dx' [("top", .int n), ("bottom", .int d)]) → Old p H H' → Q .non H'
abbrev mNewSh (C : Addr) (a : MA) : ME := fun ρ q e => a ρ (fun xs => ∃ i, xs = [.int i] ∧ ∀ n d, q (.obj C ["top", "bottom"] [.int n, .int d])) e
theorem si_newSh {C : Addr} (ha : SimA E n aa na) : SimE E (tNew C (spSh1 C) E aa) (mNewSh C na) := fun W H0 H σ ρ Q q e R h k kx =>
  ha W H0 H σ ρ _ _ e R h (fun W1 vs xs H1 g1 hv _ h1 => by
    obtain ⟨i, rfl, h1⟩ := h1
    obtain rfl := hv.of_ints (ns := [i])
    intro x dx hx hdx hne
    refine ⟨x, dx, i, rfl, upd_same, fun H' dx' n d ex old => ?_⟩
    have s : Same H1 H' := Same.made hx hdx old
    have g := Go.putS g1.ok s ex (.inl hx)
    exact ⟨rfl, k _ _ _ H' (g1.trans R.ok g) (.obj (ks := ["top", "bottom"]) (vs := [.int n, .int d]) (upd_same (H := W1.F)) rfl (.cons (.int n) (.one (.int d)))) (h1 n d)⟩) kx
end
def sdLoads : SpD := fun xs q _ => ∃ a ds es m many, xs = [.flow a, intsD ds, intsD es, .int m, .int many] ∧ Good ds ∧ Good es ∧ 1 ≤ m ∧ m ≤ 7 ∧ 0 ≤ many ∧ many ≤ 1000 ∧ ∀ S, StdOk ds es m S → q (stD S)
theorem loads_d {vs : List V} {H : Hp} {Q : VK} {E : XK} (h : spOf sdLoads vs H Q E) : spLoads vs H Q E := by
  obtain ⟨W, dd, q, e, k, t, ⟨a, ds, es, m, many, rfl, gi, go, m1, m2, n1, n2, h⟩, kq, _⟩ := h
  cases t with
  | cons h1 t =>
    cases t with
    | cons h2 t =>
      cases t with
      | cons h3 t =>
        obtain ⟨u1, u2, rfl, h4, h5⟩ := two_of t
        cases h4
        cases h5
        obtain ⟨i, rfl, hi⟩ := vd_ints k h2
        obtain ⟨o, rfl, ho⟩ := vd_ints k h3
        cases h1 with
        | flow g =>
          refine ⟨a, i, o, ds, es, m, many, rfl, (k.g a g).2, hi, gi, ho, go, m1, m2, n1, n2, fun v S H' hS hOk f old => ?_⟩
          have g1 := go_old k g old f
          exact kq _ _ _ H' g1 (all_sta (fun b o e => g1.ok.f b o (g1.le.f b o e)) hS) (h S hOk)
end Dt
set_option Elab.async false
set_option linter.all false
set_option maxRecDepth 100000
set_option maxHeartbeats 4000000
/-! Texts over data. -/
namespace Dt
open PySem PySem.Spec PyProof.Rows L2 Com Gn StV Sd
open Dt (pairD)
section
variable {X : Cx} {E : XK} {K : PySem.W.Frag} {te to tl th : TE} {me mo : ME} {n : Nat}
/-- x.f(), x a text -/
theorem si_m0 {r : V → List V → Hp → VK → Prop} {f : Str → KD → Prop} (ha : SimE E to mo) (hr : ∀ W H (a : Str) Q q, Ok W H → f a q → Kv W H Q q → r (.str a) [] H Q) :
    SimE E (tM0 r to) (fun ρ q e => mo ρ (fun x => ∃ a, x = .str a ∧ f a q) e) := fun W H0 H σ ρ Q q e R h k kx =>
  ha W H0 H σ ρ _ _ e R h (fun W1 v d H1 g1 hv h1 => by
    obtain ⟨a, rfl, h1⟩ := h1
    cases hv
    exact ⟨⟨a, rfl⟩, hr W1 H1 a Q q g1.ok h1 (k.go R.ok g1)⟩) kx
def fDig (a : Str) (q : KD) : Prop := q (.bl (Txt.isdigit a))
def fAsc (a : Str) (q : KD) : Prop := q (.bl (Txt.isascii a))
def rDigS : V → List V → Hp → VK → Prop := fun x xs H Q => ∃ a, x = .str a ∧ xs = [] ∧ True ∧ Q (.bl (Txt.isdigit a)) H
def rAscS : V → List V → Hp → VK → Prop := fun x xs H Q => ∃ a, x = .str a ∧ xs = [] ∧ True ∧ Q (.bl (Txt.isascii a)) H
theorem pe_dig {o : Expr} {apos pos : Pos} (ho : PE X o to) (hbase : attributeBase o "isdigit" X.env (eval o X.env) = eval o X.env := by rfl) (hline : (apos.endLine == pos.line) = true := by rfl) : PE X (.Call (.Attribute o "isdigit" apos) [] [] pos) (tM0 rDigS to) :=
  pe_m0 F.slot_str_isdigit F.type_str_isdigit mt_isdigit ho hbase hline
theorem pe_asc {o : Expr} {apos pos : Pos} (ho : PE X o to) (hbase : attributeBase o "isascii" X.env (eval o X.env) = eval o X.env := by rfl) (hline : (apos.endLine == pos.line) = true := by rfl) : PE X (.Call (.Attribute o "isascii" apos) [] [] pos) (tM0 rAscS to) :=
  pe_m0 F.slot_str_isascii F.type_str_isascii mt_isascii ho hbase hline
theorem si_dig (ha : SimE E to mo) : SimE E (tM0 rDigS to) (fun ρ q e => mo ρ (fun x => ∃ a, x = .str a ∧ fDig a q) e) := si_m0 ha fun W H a Q q k h hk => ⟨a, rfl, rfl, trivial, hk W _ _ H (.refl k) (.bl _) h⟩
theorem si_asc (ha : SimE E to mo) : SimE E (tM0 rAscS to) (fun ρ q e => mo ρ (fun x => ∃ a, x = .str a ∧ fAsc a q) e) := si_m0 ha fun W H a Q q k h hk => ⟨a, rfl, rfl, trivial, hk W _ _ H (.refl k) (.bl _) h⟩
/-- x.f(y), x a text -/
theorem si_m1 {r : V → List V → Hp → VK → Prop} {f : Str → D → KD → Prop} (ha : SimE E to mo) (hb : SimE E te me) (hr : ∀ W H (a : Str) (v : V) (d : D) Q q, Ok W H → Vd W v d → f a d q → Kv W H Q q → r (.str a) [v] H Q) :
    SimE E (tM1 r to te) (fun ρ q e => mo ρ (fun x => ∃ a, x = .str a ∧ me ρ (fun y => f a y q) e) e) := fun W H0 H σ ρ Q q e R h k kx =>
  ha W H0 H σ ρ _ _ e R h (fun W1 v d H1 g1 hv h1 => by
    obtain ⟨a, rfl, h1⟩ := h1
    cases hv
    exact ⟨⟨a, rfl⟩, hb W1 H0 H1 σ ρ _ _ e (R.go g1) h1 (fun W2 u y H2 g2 hu h2 => hr W2 H2 a u y Q q g2.ok hu h2 (k.go R.ok (g1.trans R.ok g2))) (kx.go R.ok g1)⟩) kx
def rSplS : V → List V → Hp → VK → Prop := fun x xs H Q => ∃ a b, x = .str a ∧ xs = [.str b] ∧ (b.length == 0) = false ∧ a.length + 2 ≤ sizeLine ∧ rNewStrs (Txt.split a b) H Q
def fSpl (a : Str) (y : D) (q : KD) : Prop := ∃ b, y = .str b ∧ (b.length == 0) = false ∧ a.length + 2 ≤ sizeLine ∧ q (.lst ((Txt.split a b).map .str))
theorem VdA.strs {W : Wd} : ∀ {xs : List Str}, VdA W (xs.map V.str) (xs.map D.str)
  | [] => .nil
  | x :: xs => .cons (.str x) VdA.strs
theorem VdA.of_txts {W : Wd} : ∀ {xs : List Str} {vs : List V}, VdA W vs (xs.map D.str) → vs = xs.map V.str
  | [], _, h => by cases h; rfl
  | x :: xs, _, h => by
    cases h with
    | cons h t =>
      cases h
      rw [VdA.of_txts t]
      rfl
theorem pe_spl {o e : Expr} {apos pos : Pos} (ho : PE X o to) (he : PE X e te) (hs : starEach [e] X.env = [(false, eval e X.env)] := by rfl) (hbase : attributeBase o "split" X.env (eval o X.env) = eval o X.env := by rfl) (hline : (apos.endLine == pos.line) = true := by rfl) :
    PE X (.Call (.Attribute o "split" apos) [e] [] pos) (tM1 rSplS to te) := pe_m1 F.slot_str_split F.type_str_split mt_split ho he hs hbase hline
theorem si_spl (ha : SimE E to mo) (hb : SimE E te me) : SimE E (tM1 rSplS to te) (fun ρ q e => mo ρ (fun x => ∃ a, x = .str a ∧ me ρ (fun y => fSpl a y q) e) e) := si_m1 ha hb fun W H a v d Q q k hv h hk => by
  obtain ⟨b, rfl, h1, h2, h⟩ := h
  cases hv
  exact ⟨a, b, rfl, rfl, h1, h2, fun p hp => hk _ _ _ _ (.put k hp) (.lst (upd_same (H := W.F)) VdA.strs) h⟩
def rJoinS (K : PySem.W.Frag) : V → List V → Hp → VK → Prop := fun x xs H Q => ∃ a p, ∃ ys : List Str, x = .str a ∧ xs = [.ref p] ∧ (SqL K H p (ys.map V.str) ∨ SqT K H p (ys.map V.str)) ∧ (ys.map (·.length)).sum + ys.length * a.length ≤ 16777216 ∧ Q (.str (Txt.join a ys)) H
def fJoin (a : Str) (y : D) (q : KD) : Prop := ∃ ys : List Str, y = .lst (ys.map .str) ∧ (ys.map (·.length)).sum + ys.length * a.length ≤ 16777216 ∧ q (.str (Txt.join a ys))
theorem pe_jn (K : PySem.W.Frag) {o e : Expr} {apos pos : Pos} (ho : PE X o to) (he : PE X e te) (hK : X.K = K := by rfl) (hs : starEach [e] X.env = [(false, eval e X.env)] := by rfl) (hbase : attributeBase o "join" X.env (eval o X.env) = eval o X.env := by rfl) (hline : (apos.endLine == pos.line) = true := by rfl) :
    PE X (.Call (.Attribute o "join" apos) [e] [] pos) (tM1 (rJoinS K) to te) := by
  subst hK
  exact pe_m1 F.slot_str_join F.type_str_join mt_join ho he hs hbase hline
theorem si_jn (ha : SimE E to mo) (hb : SimE E te me) : SimE E (tM1 (rJoinS K) to te) (fun ρ q e => mo ρ (fun x => ∃ a, x = .str a ∧ me ρ (fun y => fJoin a y q) e) e) := si_m1 ha hb fun W H a v d Q q k hv h hk => by
  obtain ⟨ys, rfl, h1, h⟩ := h
  obtain ⟨p, vs, rfl, f, hh, t⟩ := lst_of k hv rfl
  rw [VdA.of_txts t] at hh
  exact ⟨a, p, ys, rfl, rfl, .inl (SqL.of hh), h1, hk W _ _ H (.refl k) (.str _) h⟩
/-! calls -/
def rLenS : List V → Hp → VK → Prop := fun xs H Q => ∃ z, xs = [.str z] ∧ z.length ≤ sizeLine ∧ Q (.int z.length) H
theorem cl_lenS : CallR X (.builtin "len") rLenS := call_len_str
def fLenTx (xs : List D) (q : KD) : Prop := ∃ z, xs = [.str z] ∧ z.length ≤ sizeLine ∧ q (.int (z.length : Nat))
theorem sc_lenS : SimC rLenS fLenTx := fun W H xs ds Q q k hx h hk => by
  obtain ⟨z, rfl, hz, h⟩ := h
  obtain ⟨v, rfl, hv⟩ := one_of hx
  cases hv
  exact ⟨z, rfl, hz, hk W _ _ H (.refl k) (.int _) h⟩
def rStrI : List V → Hp → VK → Prop := fun xs H Q => ∃ i, xs = [.int i] ∧ i.natAbs.log2 < 1920 ∧ Q (.str (toString i)) H
theorem cl_strI : CallR X (.type "str") rStrI := call_str_int
def fStrI (xs : List D) (q : KD) : Prop := ∃ i, xs = [.int i] ∧ i.natAbs.log2 < 1920 ∧ q (.str (toString i))
theorem sc_strI : SimC rStrI fStrI := fun W H xs ds Q q k hx h hk => by
  obtain ⟨i, rfl, hi, h⟩ := h
  obtain rfl := hx.of_ints (ns := [i])
  exact ⟨i, rfl, hi, hk W _ _ H (.refl k) (.str _) h⟩
def rIntS : List V → Hp → VK → Prop := fun xs H Q => ∃ a n, xs = [.str a] ∧ PySem.intText? a = some n ∧ a.length ≤ 640 ∧ Q (.int n) H
theorem cl_intS : CallR X (.type "int") rIntS := call_int_str
def fIntS (xs : List D) (q : KD) : Prop := ∃ a n, xs = [.str a] ∧ PySem.intText? a = some n ∧ a.length ≤ 640 ∧ q (.int n)
theorem sc_intS : SimC rIntS fIntS := fun W H xs ds Q q k hx h hk => by
  obtain ⟨a, n, rfl, h1, h2, h⟩ := h
  obtain ⟨v, rfl, hv⟩ := one_of hx
  cases hv
  exact ⟨a, n, rfl, h1, h2, hk W _ _ H (.refl k) (.int _) h⟩
/-! items and parts of a text -/
def fIxS (x y : D) (q : KD) : Prop := ∃ z i c, x = .str z ∧ y = .int i ∧ z.length ≤ sizeLine ∧ atI z.cps.toList i = some c ∧ q (.str ⟨#[c]⟩)
theorem sr_ixS : SimR rIxS fIxS := fun W H x y dx dy Q q k hx hy h hk => by
  obtain ⟨z, i, c, rfl, rfl, h1, h2, h⟩ := h
  cases hx
  cases hy
  exact ⟨z, i, c, rfl, rfl, h1, h2, hk W _ _ H (.refl k) (.str _) h⟩
def fSlS (x : D) (lo hi : Option Int) (q : KD) : Prop := ∃ z, x = .str z ∧ z.length ≤ sizeLine ∧ q (.str (cutS z lo hi))
theorem sl_S : SimSl rSlS fSlS := fun W H x dx lo hi Q q k hx h hk => by
  obtain ⟨z, rfl, h1, h⟩ := h
  cases hx
  exact ⟨z, rfl, h1, hk W _ _ H (.refl k) (.str _) h⟩
/-! f'{a}|{b}|{c}' -/
def fFmt (x : D) (q : Str → Prop) : Prop := match x with
  | .str y => y.length ≤ sizeLine ∧ q y
  | .int i => i.natAbs.log2 < 1920 ∧ q (toString i)
  | _ => False
abbrev mFmt (a : ME) : ME := fun ρ q e => a ρ (fun x => fFmt x fun y => q (.str y)) e
theorem si_fmt (ha : SimE E te me) : SimE E (tFmt te) (mFmt me) := fun W H0 H σ ρ Q q e R h k kx =>
  ha W H0 H σ ρ _ _ e R h (fun W1 v d H1 g1 hv h1 => by
    cases hv with
    | str y => exact .inl ⟨y, rfl, h1.1, k W1 _ _ H1 g1 (.str _) h1.2⟩
    | int i => exact .inr ⟨i, rfl, h1.1, k W1 _ _ H1 g1 (.str _) h1.2⟩
    | _ => exact h1.elim) kx
def mJs : List ME → Str → Ev → (Str → Prop) → XD → Prop
  | [], acc, _, q, _ => q acc
  | m :: ms, acc, ρ, q, e => m ρ (fun x => ∃ y : Str, x = .str y ∧ (acc ++ y).length ≤ sizeLine ∧ mJs ms (acc ++ y) ρ q e) e
inductive SimJ (E : XK) : List TE → List ME → Prop where
  | nil : SimJ E [] []
  | cons {t : TE} {m : ME} {ts : List TE} {ms : List ME} (h : SimE E t m) (r : SimJ E ts ms) : SimJ E (t :: ts) (m :: ms)
theorem sj_run {ts : List TE} {ms : List ME} (h : SimJ E ts ms) : ∀ (acc : Str) (W : Wd) (H0 H : Hp) (σ : L2.St) (ρ : Ev) (Q : Str → Hp → Prop) (q : Str → Prop) (e : XD), Rep W H0 H σ ρ → mJs ms acc ρ q e → (∀ W' H' y, Go W H W' H' → q y → Q y H') → Kx W H E e → tJs ts acc σ H Q := by
  induction h with
  | nil => exact fun acc W H0 H σ ρ Q q e R hm k kx => k W H acc (.refl R.ok) hm
  | @cons t m ts ms h r ih =>
    intro acc W H0 H σ ρ Q q e R hm k kx
    refine h W H0 H σ ρ _ _ e R hm (fun W1 v d H1 g1 hv h1 => ?_) kx
    obtain ⟨y, rfl, hl, h1⟩ := h1
    cases hv
    exact ⟨y, rfl, hl, ih (acc ++ y) W1 H0 H1 σ ρ Q q e (R.go g1) h1 (fun W' H' z g hz => k W' H' z (g1.trans R.ok g) hz) (kx.go R.ok g1)⟩
theorem si_fstr {ts : List TE} {ms : List ME} (h : SimJ E ts ms) : SimE E (fun σ H Q => tJs ts Str.empty σ H fun out H1 => Q (.str out) H1) (fun ρ q e => mJs ms Str.empty ρ (fun y => q (.str y)) e) := fun W H0 H σ ρ Q q e R hm k kx =>
  sj_run h Str.empty W H0 H σ ρ _ _ e R hm (fun W' H' y g hy => k W' _ _ H' g (.str _) hy) kx
end
end Dt
set_option Elab.async false
set_option linter.all false
set_option maxRecDepth 100000
set_option maxHeartbeats 4000000
/-! Values of one's own as trees; states. -/
namespace Et
open PySem PySem.Spec PyProof.Rows L2 Com Dt Nd
/-- a value: data that stand, or something of one's own that may change -/
inductive U where
  | d (x : D)
  | lst (us : List U)
  | obj (C : Addr) (ks : List Str) (us : List U)
  | dct (w : World) (nk : Bool) (ks : List NestedKey) (us : List U)
abbrev Ev := List (Option U)
mutual
inductive RU (W : Wd) (H : Hp) : V → U → List Addr → Prop
  | d {v : V} {x : D} : Vd W v x → RU W H v (.d x) []
  | lst {a : Addr} {vs : List V} {us : List U} {fp : List Addr} : H a = some (.lst vs) → RUs W H vs us fp → W.F a = none → ¬ W.G a → RU W H (.ref a) (.lst us) (a :: fp)
  | obj {a C dx : Addr} {ks : List Str} {vs : List V} {us : List U} {fp : List Addr} : H a = some (.ins C dx (ks.zip vs)) → ks.length = vs.length → RUs W H vs us fp → W.F a = none → ¬ W.G a → RU W H (.ref a) (.obj C ks us) (a :: fp)
  | dctN {a : Addr} {w : World} {xs : List NX} {ks : List NestedKey} {us : List U} {fp : List Addr} : H a = some (DN w a xs) → xs.map (·.1) = ks → VdA W (xs.map fun x => .ref x.2.1) (dOfA ks) → RUs W H (xs.map (·.2.2)) us fp → W.F a = none → ¬ W.G a → RU W H (.ref a) (.dct w true ks us) (a :: fp)
  | dctK {a : Addr} {w : World} {xs : List (Key × V)} {ks : List NestedKey} {us : List U} {fp : List Addr} : H a = some (.dK xs) → xs.map (fun x => nkK x.1) = ks → RUs W H (xs.map (·.2)) us fp → W.F a = none → ¬ W.G a → RU W H (.ref a) (.dct w false ks us) (a :: fp)
inductive RUs (W : Wd) (H : Hp) : List V → List U → List Addr → Prop
  | nil : RUs W H [] [] []
  | cons {v : V} {vs : List V} {u : U} {us : List U} {fp fq : List Addr} : RU W H v u fp → RUs W H vs us fq → RUs W H (v :: vs) (u :: us) (fp ++ fq)
end
/-- at a stands something that may change -/
def Nod (W : Wd) (H : Hp) (a : Addr) : Prop := (∃ o, H a = some o ∧ ∀ xs, o ≠ .tup xs) ∧ W.F a = none ∧ ¬ W.G a
mutual
theorem RU.nod {W : Wd} {H : Hp} : ∀ {v : V} {u : U} {fp : List Addr}, RU W H v u fp → ∀ a ∈ fp, Nod W H a
  | _, _, _, .d _, a, h => nomatch h
  | _, _, _, .lst h t f g, a, m => by
    rcases List.mem_cons.mp m with rfl | m
    · exact ⟨⟨_, h, fun _ z => nomatch z⟩, f, g⟩
    · exact RUs.nod t a m
  | _, _, _, .obj h _ t f g, a, m => by
    rcases List.mem_cons.mp m with rfl | m
    · exact ⟨⟨_, h, fun _ z => nomatch z⟩, f, g⟩
    · exact RUs.nod t a m
  | _, _, _, .dctN h _ _ t f g, a, m => by
    rcases List.mem_cons.mp m with rfl | m
    · exact ⟨⟨_, h, fun _ z => nomatch z⟩, f, g⟩
    · exact RUs.nod t a m
  | _, _, _, .dctK h _ t f g, a, m => by
    rcases List.mem_cons.mp m with rfl | m
    · exact ⟨⟨_, h, fun _ z => nomatch z⟩, f, g⟩
    · exact RUs.nod t a m
theorem RUs.nod {W : Wd} {H : Hp} : ∀ {vs : List V} {us : List U} {fp : List Addr}, RUs W H vs us fp → ∀ a ∈ fp, Nod W H a
  | _, _, _, .nil, a, h => nomatch h
  | _, _, _, .cons h t, a, m => (List.mem_append.mp m).elim (RU.nod h a) (RUs.nod t a)
end
/-- what a tree leans on stays -/
def Keep (W : Wd) (H : Hp) (W' : Wd) (H' : Hp) (fp : List Addr) : Prop := Le W W' ∧ ∀ a ∈ fp, (∀ o, H a = some o → H' a = some o) ∧ W'.F a = none ∧ ¬ W'.G a
theorem Keep.l {W W' : Wd} {H H' : Hp} {fp fq : List Addr} (k : Keep W H W' H' (fp ++ fq)) : Keep W H W' H' fp := ⟨k.1, fun a h => k.2 a (List.mem_append_left _ h)⟩
theorem Keep.r {W W' : Wd} {H H' : Hp} {fp fq : List Addr} (k : Keep W H W' H' (fp ++ fq)) : Keep W H W' H' fq := ⟨k.1, fun a h => k.2 a (List.mem_append_right _ h)⟩
theorem Keep.t {W W' : Wd} {H H' : Hp} {a : Addr} {fp : List Addr} (k : Keep W H W' H' (a :: fp)) : Keep W H W' H' fp := ⟨k.1, fun b h => k.2 b (List.mem_cons_of_mem _ h)⟩
mutual
theorem RU.stay {W W' : Wd} {H H' : Hp} : ∀ {v : V} {u : U} {fp : List Addr}, RU W H v u fp → Keep W H W' H' fp → RU W' H' v u fp
  | _, _, _, .d h, k => .d (h.mono k.1)
  | _, _, _, .lst h t f g, k => have z := k.2 _ (List.mem_cons_self ..); .lst (z.1 _ h) (RUs.stay t k.t) z.2.1 z.2.2
  | _, _, _, .obj h e t f g, k => have z := k.2 _ (List.mem_cons_self ..); .obj (z.1 _ h) e (RUs.stay t k.t) z.2.1 z.2.2
  | _, _, _, .dctN h e d t f g, k => have z := k.2 _ (List.mem_cons_self ..); .dctN (z.1 _ h) e (d.mono k.1) (RUs.stay t k.t) z.2.1 z.2.2
  | _, _, _, .dctK h e t f g, k => have z := k.2 _ (List.mem_cons_self ..); .dctK (z.1 _ h) e (RUs.stay t k.t) z.2.1 z.2.2
theorem RUs.stay {W W' : Wd} {H H' : Hp} : ∀ {vs : List V} {us : List U} {fp : List Addr}, RUs W H vs us fp → Keep W H W' H' fp → RUs W' H' vs us fp
  | _, _, _, .nil, _ => .nil
  | _, _, _, .cons h t, k => .cons (RU.stay h k.l) (RUs.stay t k.r)
end
/-! ### lists of them -/
section
variable {W : Wd} {H : Hp}
theorem RUs.len : ∀ {vs : List V} {us : List U} {fp : List Addr}, RUs W H vs us fp → vs.length = us.length
  | _, _, _, .nil => rfl
  | _, _, _, .cons _ t => by rw [List.length_cons, List.length_cons, RUs.len t]
theorem RUs.app : ∀ {vs vs' : List V} {us us' : List U} {fp fq : List Addr}, RUs W H vs us fp → RUs W H vs' us' fq → RUs W H (vs ++ vs') (us ++ us') (fp ++ fq)
  | _, _, _, _, _, _, .nil, h => h
  | _, _, _, _, _, _, .cons h t, g => by
    rw [List.append_assoc]
    exact .cons h (RUs.app t g)
theorem RUs.one {v : V} {u : U} {fp : List Addr} (h : RU W H v u fp) : RUs W H [v] [u] fp := by
  have := RUs.cons h (RUs.nil (W := W) (H := H))
  rwa [List.append_nil] at this
theorem RUs.ofVdA : ∀ {vs : List V} {ds : List D}, VdA W vs ds → RUs W H vs (ds.map .d) []
  | _, _, .nil => .nil
  | _, _, .cons h t => .cons (fp := []) (.d h) (RUs.ofVdA t)
/-- one of them, and what replaces it -/
theorem RUs.at : ∀ {vs : List V} {us : List U} {fp : List Addr} {n : Nat} {u : U}, RUs W H vs us fp → us[n]? = some u → ∃ v f1 f2 f3, vs[n]? = some v ∧ RU W H v u f2 ∧ fp = f1 ++ f2 ++ f3 ∧
    ∀ {W' : Wd} {H' : Hp} {v' : V} {u' : U} {g : List Addr}, Keep W H W' H' (f1 ++ f3) → RU W' H' v' u' g → RUs W' H' (vs.set n v') (us.set n u') (f1 ++ g ++ f3)
  | _, _, _, 0, _, .cons (fq := fq) h t, e => by
    rw [List.getElem?_cons_zero] at e
    cases e
    exact ⟨_, [], _, fq, rfl, h, rfl, fun k r => .cons r (t.stay k)⟩
  | _, _, _, n + 1, _, .cons (fp := f0) h t, e => by
    rw [List.getElem?_cons_succ] at e
    obtain ⟨v, f1, f2, f3, a, b, c, r⟩ := RUs.at t e
    refine ⟨v, f0 ++ f1, f2, f3, by rw [List.getElem?_cons_succ]; exact a, b, by rw [c]; simp only [List.append_assoc], fun k q => ?_⟩
    rw [List.append_assoc] at k
    have := r k.r q
    rw [List.set_cons_succ, List.set_cons_succ, show ∀ g : List Addr, f0 ++ f1 ++ g ++ f3 = f0 ++ (f1 ++ g ++ f3) from fun g => by simp only [List.append_assoc]]
    exact .cons (h.stay k.l) this
theorem RUs.d_of {vs : List V} : ∀ {ds : List D} {fp : List Addr}, RUs W H vs (ds.map .d) fp → VdA W vs ds ∧ fp = [] := fun {ds} => by
  induction ds generalizing vs with
  | nil => intro fp h; cases h; exact ⟨.nil, rfl⟩
  | cons d ds ih =>
    intro fp h
    cases h with
    | cons h t =>
      cases h with
      | d h =>
        obtain ⟨a, rfl⟩ := ih t
        exact ⟨.cons h a, rfl⟩
end
/-! ### from a state to another: what stood stays, but for B -/
structure GoB (B : Addr → Prop) (W : Wd) (H : Hp) (W' : Wd) (H' : Hp) : Prop where
  le : Le W W'
  gn : ∀ a, W'.G a → W.G a ∨ H a = none
  fn : ∀ a o, W'.F a = some o → W.F a = some o ∨ H a = none ∨ (∃ xs, H a = some (.tup xs)) ∨ B a
  p : ∀ b o, H b = some o → ¬ W.G b → ¬ B b → H' b = some o
  st : ∀ b, H' b = none → H b = none
  ok : Ok W' H'
section
variable {B B1 : Addr → Prop} {W W1 W2 : Wd} {H H1 H2 : Hp}
theorem GoB.refl (k : Ok W H) : GoB B W H W H := ⟨.refl W, fun _ h => .inl h, fun _ _ h => .inl h, fun _ _ h _ _ => h, fun _ h => h, k⟩
theorem GoB.trans (g : GoB B W H W1 H1) (g2 : GoB B1 W1 H1 W2 H2) (hb : ∀ a, B1 a → B a ∨ H a = none) : GoB B W H W2 H2 where
  le := g.le.trans g2.le
  gn := fun a h => (g2.gn a h).elim (g.gn a) fun e => .inr (g.st a e)
  fn := fun a o h => by
    rcases g2.fn a o h with h | h | ⟨xs, h⟩ | h
    · exact g.fn a o h
    · exact .inr (.inl (g.st a h))
    · cases e : H a with
      | none => exact .inr (.inl rfl)
      | some u =>
        by_cases hg : W.G a
        · obtain ⟨_, n, c, r, e1⟩ := g.ok.g a (g.le.g a hg)
          rw [h] at e1
          cases e1
        · by_cases hB : B a
          · exact .inr (.inr (.inr hB))
          · have := g.p a u e hg hB
            rw [h] at this
            cases this
            exact .inr (.inr (.inl ⟨xs, rfl⟩))
    · rcases hb a h with h | h
      · exact .inr (.inr (.inr h))
      · exact .inr (.inl h)
  p := fun b o e n nb => by
    have n1 : ¬ W1.G b := fun h => by
      rcases g.gn b h with h | h
      · exact n h
      · rw [e] at h; cases h
    have n2 : ¬ B1 b := fun h => by
      rcases hb b h with h | h
      · exact nb h
      · rw [e] at h; cases h
    exact g2.p b o (g.p b o e n nb) n1 n2
  st := fun b h => g.st b (g2.st b h)
  ok := g2.ok
theorem GoB.of (k : Ok W H) (g : Go W H W1 H1) : GoB B W H W1 H1 := ⟨g.le, g.gn, fun a o h => (g.fn a o h).imp id fun z => z.imp id .inl, fun b o e n _ => g.p b o e n, fun b h => g.gone k h, g.ok⟩
theorem GoB.mono (g : GoB B W H W1 H1) (hb : ∀ a, B a → B1 a) : GoB B1 W H W1 H1 := ⟨g.le, g.gn, fun a o h => (g.fn a o h).imp id fun z => z.imp id fun z => z.imp id (hb a), fun b o e n nb => g.p b o e n fun h => nb (hb b h), g.st, g.ok⟩
/-- a tree apart from what changes stays -/
theorem GoB.keep (g : GoB B W H W1 H1) {fp : List Addr} (n : ∀ a ∈ fp, Nod W H a) (hb : ∀ a ∈ fp, ¬ B a) : Keep W H W1 H1 fp := ⟨g.le, fun a m => by
  obtain ⟨⟨o, e, ht⟩, f, ng⟩ := n a m
  refine ⟨fun u q => g.p a u q ng (hb a m), ?_, fun h => ?_⟩
  · cases q : W1.F a with
    | none => rfl
    | some u =>
      rcases g.fn a u q with h | h | ⟨xs, h⟩ | h
      · rw [f] at h; cases h
      · rw [e] at h; cases h
      · rw [e] at h; cases h; exact absurd rfl (ht xs)
      · exact absurd h (hb a m)
  · rcases g.gn a h with h | h
    · exact ng h
    · rw [e] at h; cases h⟩
end
/-! ### states -/
structure Rep (W : Wd) (Z : Addr → Prop) (H : Hp) (σ : L2.St) (ρ : Ev) : Prop where
  ok : Ok W H
  len : σ.length = ρ.length
  ex : ∃ fp : Nat → List Addr, (∀ i u, ρ[i]? = some (some u) → ∃ v, σ[i]? = some (some v) ∧ RU W H v u (fp i)) ∧ (∀ i, (fp i).Nodup ∧ (∀ a ∈ fp i, Z a) ∧ ∀ a ∈ fp i, Nod W H a) ∧ ∀ i j a, i ≠ j → a ∈ fp i → a ∈ fp j → False
structure In0 where
  W : Wd
  H : Hp
  B : Addr → Prop
  s0 : L2.St
  ws : List Nat
def In0.Z (i : In0) : Addr → Prop := fun a => i.B a ∨ i.H a = none
structure At (i : In0) (W : Wd) (H : Hp) (σ : L2.St) (ρ : Ev) : Prop where
  k0 : Ok i.W i.H
  go : GoB i.B i.W i.H W H
  rep : Rep W i.Z H σ ρ
  un : ∀ k : Nat, k ∉ i.ws → σ[k]? = i.s0[k]?
section
variable {i : In0} {W W1 : Wd} {H H1 : Hp} {σ : L2.St} {ρ : Ev} {Z : Addr → Prop} {v : V} {d : D} {u : U} {j : Nat}
theorem Rep.go (R : Rep W Z H σ ρ) {B : Addr → Prop} (g : GoB B W H W1 H1) (hb : ∀ a, B a → H a = none) : Rep W1 Z H1 σ ρ := by
  obtain ⟨fp, h1, h2, h3⟩ := R.ex
  have kp : ∀ i, Keep W H W1 H1 (fp i) := fun i => g.keep (h2 i).2.2 fun a m b => by
    obtain ⟨⟨o, e, _⟩, _⟩ := (h2 i).2.2 a m
    rw [hb a b] at e
    cases e
  refine ⟨g.ok, R.len, fp, fun i u e => ?_, fun i => ⟨(h2 i).1, (h2 i).2.1, fun a m => ?_⟩, h3⟩
  · obtain ⟨v, e1, r⟩ := h1 i u e
    exact ⟨v, e1, r.stay (kp i)⟩
  · obtain ⟨⟨o, e, ht⟩, _, _⟩ := (h2 i).2.2 a m
    have z := (kp i).2 a m
    exact ⟨⟨o, z.1 o e, ht⟩, z.2.1, z.2.2⟩
theorem Rep.pure (R : Rep W Z H σ ρ) (g : Go W H W1 H1) : Rep W1 Z H1 σ ρ := R.go (B := fun _ => False) (.of R.ok g) fun _ h => h.elim
theorem At.pure (A : At i W H σ ρ) (g : Go W H W1 H1) : At i W1 H1 σ ρ := ⟨A.k0, A.go.trans (B1 := fun _ => False) (.of A.rep.ok g) fun _ h => h.elim, A.rep.pure g, A.un⟩
theorem Rep.var (R : Rep W Z H σ ρ) (h : ρ[j]? = some (some (.d d))) : ∃ v, σ[j]? = some (some v) ∧ Vd W v d := by
  obtain ⟨fp, h1, _⟩ := R.ex
  obtain ⟨v, e, r⟩ := h1 j _ h
  generalize hf : fp j = f at r
  cases r with
  | d r => exact ⟨v, e, r⟩
theorem Rep.set (R : Rep W Z H σ ρ) (h : Vd W v d) : Rep W Z H (σ.set j (some v)) (ρ.set j (some (.d d))) := by
  obtain ⟨fp, h1, h2, h3⟩ := R.ex
  refine ⟨R.ok, by rw [List.length_set, List.length_set, R.len], fun k => if k = j then [] else fp k, fun k u e => ?_, fun k => ?_, fun k l a n m1 m2 => ?_⟩
  · rcases getset e with ⟨rfl, e1, l⟩ | ⟨n, e⟩
    · cases e1
      exact ⟨v, List.getElem?_set_self (by rw [R.len]; exact l), by dsimp only; rw [if_pos rfl]; exact .d h⟩
    · obtain ⟨w, e1, r⟩ := h1 k u e
      exact ⟨w, by rw [List.getElem?_set_ne (fun z => n z.symm)]; exact e1, by dsimp only; rw [if_neg n]; exact r⟩
  · dsimp only
    by_cases c : k = j
    · rw [if_pos c]; exact ⟨.nil, (fun _ h => nomatch h), fun _ h => nomatch h⟩
    · rw [if_neg c]; exact h2 k
  · dsimp only at m1 m2
    by_cases c : k = j
    · rw [if_pos c] at m1; cases m1
    · by_cases c2 : l = j
      · rw [if_pos c2] at m2; cases m2
      · rw [if_neg c] at m1; rw [if_neg c2] at m2; exact h3 k l a n m1 m2
/-- less is known -/
theorem Rep.less (R : Rep W Z H σ ρ) {ρ' : Ev} (hl : ρ'.length = ρ.length) (h : ∀ (k : Nat) (u : U), ρ'[k]? = some (some u) → ρ[k]? = some (some u)) : Rep W Z H σ ρ' := by
  obtain ⟨fp, h1, h2, h3⟩ := R.ex
  exact ⟨R.ok, R.len.trans hl.symm, fp, fun k u e => h1 k u (h k u e), h2, h3⟩
theorem Rep.wipe1 (R : Rep W Z H σ ρ) : Rep W Z H (σ.set j none) (ρ.set j none) := by
  obtain ⟨fp, h1, h2, h3⟩ := R.ex
  refine ⟨R.ok, by rw [List.length_set, List.length_set, R.len], fp, fun k u e => ?_, h2, h3⟩
  rcases getset e with ⟨_, e1, _⟩ | ⟨n, e⟩
  · cases e1
  · obtain ⟨w, e1, r⟩ := h1 k u e
    exact ⟨w, by rw [List.getElem?_set_ne (fun z => n z.symm)]; exact e1, r⟩
def wipeU (ρ : Ev) : List Nat → Ev
  | [] => ρ
  | v :: vs => (wipeU ρ vs).set v none
theorem Rep.wipe (R : Rep W Z H σ ρ) : ∀ vs : List Nat, Rep W Z H (L2.wipe σ vs) (wipeU ρ vs)
  | [] => R
  | v :: vs => by
    unfold L2.wipe wipeU
    exact (Rep.wipe R vs).wipe1
theorem un_set {i : In0} {σ : L2.St} {j : Nat} {o : Option V} (h : ∀ k : Nat, k ∉ i.ws → σ[k]? = i.s0[k]?) (hj : j ∈ i.ws) : ∀ k : Nat, k ∉ i.ws → (σ.set j o)[k]? = i.s0[k]? := fun k hk => by
  rw [List.getElem?_set_ne (fun z : j = k => hk (by rw [← z]; exact hj))]
  exact h k hk
theorem At.set (A : At i W H σ ρ) (hj : j ∈ i.ws) (h : Vd W v d) : At i W H (σ.set j (some v)) (ρ.set j (some (.d d))) := ⟨A.k0, A.go, A.rep.set h, un_set A.un hj⟩
/-- something new of one's own -/
structure New (i : In0) (W : Wd) (H : Hp) (σ : L2.St) (ρ : Ev) (v : V) (u : U) : Prop where
  k0 : Ok i.W i.H
  go : GoB i.B i.W i.H W H
  rep : Rep W i.Z H (σ ++ [some v]) (ρ ++ [some u])
  un : ∀ k : Nat, k ∉ i.ws → σ[k]? = i.s0[k]?
theorem Rep.fst {vs : List (Option V)} {us : Ev} (R : Rep W Z H (σ ++ vs) (ρ ++ us)) (hl : σ.length = ρ.length) : Rep W Z H σ ρ := by
  obtain ⟨fp, h1, h2, h3⟩ := R.ex
  refine ⟨R.ok, hl, fp, fun k u e => ?_, h2, h3⟩
  have kl := (List.getElem?_eq_some_iff.mp e).1
  obtain ⟨w, e1, r⟩ := h1 k u (by rw [List.getElem?_append_left kl]; exact e)
  rw [List.getElem?_append_left (by rw [hl]; exact kl)] at e1
  exact ⟨w, e1, r⟩
theorem New.hl (N : New i W H σ ρ v u) : σ.length = ρ.length := by
  have := N.rep.len
  simpa using this
theorem New.at (N : New i W H σ ρ v u) : At i W H σ ρ := ⟨N.k0, N.go, N.rep.fst N.hl, N.un⟩
theorem New.tree (N : New i W H σ ρ v u) : ∃ fp : Nat → List Addr, ∃ f0, RU W H v u f0 ∧ f0.Nodup ∧ (∀ a ∈ f0, i.Z a) ∧ (∀ i u, ρ[i]? = some (some u) → ∃ v, σ[i]? = some (some v) ∧ RU W H v u (fp i)) ∧ (∀ j, (fp j).Nodup ∧ (∀ a ∈ fp j, i.Z a) ∧ ∀ a ∈ fp j, Nod W H a) ∧ (∀ i j a, i ≠ j → a ∈ fp i → a ∈ fp j → False) ∧ ∀ j a, a ∈ f0 → a ∈ fp j → False := by
  obtain ⟨fp, h1, h2, h3⟩ := N.rep.ex
  have hl := N.hl
  obtain ⟨w, e1, r⟩ := h1 ρ.length u (by rw [List.getElem?_append_right (Nat.le_refl _), Nat.sub_self]; rfl)
  rw [← hl, List.getElem?_append_right (Nat.le_refl _), Nat.sub_self] at e1
  cases e1
  refine ⟨fun k => if k = ρ.length then [] else fp k, fp ρ.length, r, (h2 _).1, (h2 _).2.1, fun k u e => ?_, fun k => ?_, fun k l a n m1 m2 => ?_, fun k a m0 m1 => ?_⟩
  · have kl := (List.getElem?_eq_some_iff.mp e).1
    obtain ⟨w, e1, r⟩ := h1 k u (by rw [List.getElem?_append_left kl]; exact e)
    rw [List.getElem?_append_left (by rw [hl]; exact kl)] at e1
    exact ⟨w, e1, by dsimp only; rw [if_neg (by omega)]; exact r⟩
  · dsimp only
    by_cases c : k = ρ.length
    · rw [if_pos c]; exact ⟨.nil, (fun _ h => nomatch h), fun _ h => nomatch h⟩
    · rw [if_neg c]; exact h2 k
  · dsimp only at m1 m2
    by_cases c : k = ρ.length
    · rw [if_pos c] at m1; cases m1
    · by_cases c2 : l = ρ.length
      · rw [if_pos c2] at m2; cases m2
      · rw [if_neg c] at m1; rw [if_neg c2] at m2; exact h3 k l a n m1 m2
  · dsimp only at m1
    by_cases c : k = ρ.length
    · rw [if_pos c] at m1; cases m1
    · rw [if_neg c] at m1; exact h3 _ k a (fun z => c z.symm) m0 m1
/-- it is kept in a slot -/
theorem New.set (N : New i W H σ ρ v u) (hj : j ∈ i.ws) : At i W H (σ.set j (some v)) (ρ.set j (some u)) := by
  obtain ⟨fp, f0, r, nd, hz, h1, h2, h3, h4⟩ := N.tree
  have A := N.at
  refine ⟨A.k0, A.go, ⟨A.rep.ok, by rw [List.length_set, List.length_set, A.rep.len], ?_⟩, un_set A.un hj⟩
  refine ⟨fun k => if k = j then f0 else fp k, fun k u e => ?_, fun k => ?_, fun k l a n m1 m2 => ?_⟩
  · rcases getset e with ⟨rfl, e1, l⟩ | ⟨n, e⟩
    · cases e1
      exact ⟨v, List.getElem?_set_self (by rw [A.rep.len]; exact l), by dsimp only; rw [if_pos rfl]; exact r⟩
    · obtain ⟨w, e1, r⟩ := h1 k u e
      exact ⟨w, by rw [List.getElem?_set_ne (fun z => n z.symm)]; exact e1, by dsimp only; rw [if_neg n]; exact r⟩
  · dsimp only
    by_cases c : k = j
    · rw [if_pos c]; exact ⟨nd, hz, r.nod⟩
    · rw [if_neg c]; exact h2 k
  · dsimp only at m1 m2
    by_cases c : k = j
    · by_cases c2 : l = j
      · exact n (c.trans c2.symm)
      · rw [if_pos c] at m1; rw [if_neg c2] at m2; exact h4 l a m1 m2
    · by_cases c2 : l = j
      · rw [if_neg c] at m1; rw [if_pos c2] at m2; exact h4 k a m2 m1
      · rw [if_neg c] at m1; rw [if_neg c2] at m2; exact h3 k l a n m1 m2
end
/-! ### paths -/
def U.kids : U → List U
  | .d _ => []
  | .lst us => us
  | .obj _ _ us => us
  | .dct _ _ _ us => us
def U.withKids : U → List U → U
  | .d x, _ => .d x
  | .lst _, us => .lst us
  | .obj C ks _, us => .obj C ks us
  | .dct w n ks _, us => .dct w n ks us
def U.at : U → List Nat → Option U
  | u, [] => some u
  | u, n :: p => match u.kids[n]? with
    | some t => t.at p
    | none => none
def U.put : U → List Nat → U → U
  | _, [], t => t
  | u, n :: p, t => match u.kids[n]? with
    | some s => u.withKids (u.kids.set n (s.put p t))
    | none => u
theorem set_self {α : Type} {l : List α} {n : Nat} {x : α} (h : l[n]? = some x) : l.set n x = l := by
  apply List.ext_getElem?
  intro i
  by_cases c : n = i
  · subst c; rw [List.getElem?_set_self (List.getElem?_eq_some_iff.mp h).1, h]
  · rw [List.getElem?_set_ne c]
/-- a value of a node's, and what replaces it -/
theorem RU.kid {W : Wd} {H : Hp} {v : V} {u : U} {fp : List Addr} {n : Nat} {t : U} {vs : List V} {fq : List Addr} {a : Addr} (r : RUs W H vs u.kids fq)
    (back : ∀ {W' : Wd} {H' : Hp} {us' : List U} {fr : List Addr}, Le W W' → (∀ o, H a = some o → H' a = some o) → W'.F a = none → ¬ W'.G a → RUs W' H' vs us' fr → RU W' H' v (u.withKids us') (a :: fr))
    (e : u.kids[n]? = some t) : ∃ v1 f1 f2 f3, vs[n]? = some v1 ∧ RU W H v1 t f2 ∧ a :: fq = f1 ++ f2 ++ f3 ∧ ∀ {W' : Wd} {H' : Hp} {t' : U} {g : List Addr}, Keep W H W' H' (f1 ++ f3) → RU W' H' v1 t' g → RU W' H' v (u.withKids (u.kids.set n t')) (f1 ++ g ++ f3) := by
  obtain ⟨v0, g1, g2, g3, e1, r1, rfl, b1⟩ := r.at e
  refine ⟨v0, a :: g1, g2, g3, e1, r1, by simp only [List.cons_append, List.append_assoc], fun {W' H' t' g} k r' => ?_⟩
  have ka := k.2 a (by simp)
  have k1 : Keep W H W' H' (g1 ++ g3) := ⟨k.1, fun b m => k.2 b (by simp at m ⊢; rcases m with m | m <;> simp [m])⟩
  have r3 := b1 k1 r'
  rw [set_self e1] at r3
  exact back k.1 ka.1 ka.2.1 ka.2.2 r3
/-- what stands at a path of a slot -/
def Foc (i : In0) (W : Wd) (H : Hp) (σ : L2.St) (ρ : Ev) (s : Nat) (p : List Nat) (t : U) (v : V) : Prop :=
  ∃ (fp : Nat → List Addr) (u : U) (v0 : V) (f1 f2 f3 : List Addr), ρ[s]? = some (some u) ∧ σ[s]? = some (some v0) ∧ u.at p = some t ∧ fp s = f1 ++ f2 ++ f3 ∧ RU W H v t f2 ∧
    (∀ i u, ρ[i]? = some (some u) → ∃ v, σ[i]? = some (some v) ∧ RU W H v u (fp i)) ∧ (∀ j, (fp j).Nodup ∧ (∀ a ∈ fp j, i.Z a) ∧ ∀ a ∈ fp j, Nod W H a) ∧ (∀ i j a, i ≠ j → a ∈ fp i → a ∈ fp j → False) ∧
    ∀ {W' : Wd} {H' : Hp} {t' : U} {g : List Addr}, Keep W H W' H' (f1 ++ f3) → RU W' H' v t' g → RU W' H' v0 (u.put p t') (f1 ++ g ++ f3)
section
variable {i : In0} {W W1 : Wd} {H H1 : Hp} {σ : L2.St} {ρ : Ev} {s n : Nat} {p : List Nat} {t t1 : U} {v : V}
theorem At.foc {u : U} (A : At i W H σ ρ) (h : ρ[s]? = some (some u)) : ∃ v, σ[s]? = some (some v) ∧ Foc i W H σ ρ s [] u v := by
  obtain ⟨fp, h1, h2, h3⟩ := A.rep.ex
  obtain ⟨v, e, r⟩ := h1 s u h
  exact ⟨v, e, fp, u, v, [], fp s, [], h, e, rfl, by simp, r, h1, h2, h3, fun _ r => by rw [List.nil_append, List.append_nil]; exact r⟩
theorem at_snoc : ∀ {p : List Nat} {u t t1 : U} {n : Nat}, u.at p = some t → t.kids[n]? = some t1 → u.at (p ++ [n]) = some t1
  | [], u, t, t1, n, h, e => by
    cases h
    show (match u.kids[n]? with | some t => t.at [] | none => none) = _
    rw [e]
    rfl
  | m :: p, u, t, t1, n, h, e => by
    show (match u.kids[m]? with | some t => t.at (p ++ [n]) | none => none) = _
    unfold U.at at h
    cases q : u.kids[m]? with
    | none => rw [q] at h; cases h
    | some s =>
      rw [q] at h
      exact at_snoc (p := p) h e
theorem put_snoc : ∀ {p : List Nat} {u t t1 t' : U} {n : Nat}, u.at p = some t → t.kids[n]? = some t1 → u.put (p ++ [n]) t' = u.put p (t.withKids (t.kids.set n t'))
  | [], u, t, t1, t', n, h, e => by
    cases h
    show (match u.kids[n]? with | some s => u.withKids (u.kids.set n (s.put [] t')) | none => u) = _
    rw [e]
    rfl
  | m :: p, u, t, t1, t', n, h, e => by
    show (match u.kids[m]? with | some s => u.withKids (u.kids.set m (s.put (p ++ [n]) t')) | none => u) = (match u.kids[m]? with | some s => u.withKids (u.kids.set m (s.put p _)) | none => u)
    unfold U.at at h
    cases q : u.kids[m]? with
    | none => rw [q] at h
    | some s =>
      rw [q] at h
      dsimp only
      rw [put_snoc (p := p) h e]
/-- one step down -/
theorem Foc.down (f : Foc i W H σ ρ s p t v) (e : t.kids[n]? = some t1) : ∃ a vs v1, v = .ref a ∧ vs[n]? = some v1 ∧ Foc i W H σ ρ s (p ++ [n]) t1 v1 ∧ vs.length = t.kids.length ∧
    ((∃ C dx ks us, t = .obj C ks us ∧ H a = some (.ins C dx (ks.zip vs)) ∧ ks.length = vs.length) ∨ (∃ us, t = .lst us ∧ H a = some (.lst vs)) ∨ (∃ w ks us xs, t = .dct w true ks us ∧ H a = some (DN w a xs) ∧ xs.map (·.1) = ks ∧ VdA W (xs.map fun x => .ref x.2.1) (dOfA ks) ∧ vs = xs.map (·.2.2)) ∨
      ∃ w ks us, ∃ xs : List (Key × V), t = .dct w false ks us ∧ H a = some (.dK xs) ∧ xs.map (fun x => nkK x.1) = ks ∧ vs = xs.map (·.2)) := by
  obtain ⟨fp, u, v0, f1, f2, f3, h1, h2, h3, h4, r, q1, q2, q3, back⟩ := f
  have fin : ∀ {a : Addr} {fq : List Addr} {vs : List V}, f2 = a :: fq → RUs W H vs t.kids fq → (∀ {W' : Wd} {H' : Hp} {us' : List U} {fr : List Addr}, Le W W' → (∀ o, H a = some o → H' a = some o) → W'.F a = none → ¬ W'.G a → RUs W' H' vs us' fr → RU W' H' v (t.withKids us') (a :: fr)) →
      ∃ v1, vs[n]? = some v1 ∧ Foc i W H σ ρ s (p ++ [n]) t1 v1 := fun {a fq vs} ef rs bk => by
    obtain ⟨v1, g1, g2, g3, e1, r1, eg, b1⟩ := RU.kid (fp := fq) rs bk e
    refine ⟨v1, e1, fp, u, v0, f1 ++ g1, g2, g3 ++ f3, h1, h2, at_snoc h3 e, by rw [h4, ef, eg]; simp only [List.append_assoc], r1, q1, q2, q3, fun {W' H' t' g} k r' => ?_⟩
    rw [put_snoc h3 e]
    have k1 : Keep W H W' H' (f1 ++ f3) := ⟨k.1, fun b m => k.2 b (by simp at m ⊢; rcases m with m | m <;> simp [m])⟩
    have k2 : Keep W H W' H' (g1 ++ g3) := ⟨k.1, fun b m => k.2 b (by simp at m ⊢; rcases m with m | m <;> simp [m])⟩
    have := back k1 (b1 k2 r')
    rw [show f1 ++ g1 ++ g ++ (g3 ++ f3) = f1 ++ (g1 ++ g ++ g3) ++ f3 by simp only [List.append_assoc]]
    exact this
  cases r with
  | d h => cases e
  | lst h rs ff gg =>
    obtain ⟨v1, e1, fo⟩ := fin rfl rs fun l k f' g' r' => .lst (k _ h) r' f' g'
    exact ⟨_, _, v1, rfl, e1, fo, rs.len, .inr (.inl ⟨_, rfl, h⟩)⟩
  | obj h el rs ff gg =>
    obtain ⟨v1, e1, fo⟩ := fin rfl rs fun l k f' g' r' => .obj (k _ h) el r' f' g'
    exact ⟨_, _, v1, rfl, e1, fo, rs.len, .inl ⟨_, _, _, _, rfl, h, el⟩⟩
  | dctN h ek d rs ff gg =>
    obtain ⟨v1, e1, fo⟩ := fin rfl rs fun l k f' g' r' => .dctN (k _ h) ek (d.mono l) r' f' g'
    exact ⟨_, _, v1, rfl, e1, fo, rs.len, .inr (.inr (.inl ⟨_, _, _, _, rfl, h, ek, d, rfl⟩))⟩
  | dctK h ek rs ff gg =>
    obtain ⟨v1, e1, fo⟩ := fin rfl rs fun l k f' g' r' => .dctK (k _ h) ek r' f' g'
    exact ⟨_, _, v1, rfl, e1, fo, rs.len, .inr (.inr (.inr ⟨_, _, _, _, rfl, h, ek, rfl⟩))⟩
/-- other things happen -/
theorem Foc.pure (k0 : Ok W H) (f : Foc i W H σ ρ s p t v) (g : Go W H W1 H1) : Foc i W1 H1 σ ρ s p t v := by
  obtain ⟨fp, u, v0, f1, f2, f3, h1, h2, h3, h4, r, q1, q2, q3, back⟩ := f
  have gb : GoB (fun _ => False) W H W1 H1 := .of k0 g
  have kp : ∀ i, Keep W H W1 H1 (fp i) := fun i => gb.keep (q2 i).2.2 fun _ _ h => h
  have ks := kp s
  rw [h4] at ks
  refine ⟨fp, u, v0, f1, f2, f3, h1, h2, h3, h4, r.stay ks.l.r, fun k u e => ?_, fun k => ⟨(q2 k).1, (q2 k).2.1, fun a m => ?_⟩, q3, fun {W' H' t' g'} k r' => back ⟨gb.le.trans k.1, fun a m => ?_⟩ r'⟩
  · obtain ⟨v, e1, r⟩ := q1 k u e
    exact ⟨v, e1, r.stay (kp k)⟩
  · obtain ⟨⟨o, e, ht⟩, _, _⟩ := (q2 k).2.2 a m
    have z := (kp k).2 a m
    exact ⟨⟨o, z.1 o e, ht⟩, z.2.1, z.2.2⟩
  · have z := k.2 a m
    have y := ks.2 a (by simp at m ⊢; rcases m with m | m <;> simp [m])
    exact ⟨fun o e => z.1 o (y.1 o e), z.2⟩
/-- a leaf -/
theorem Foc.leaf {x : D} (f : Foc i W H σ ρ s p (.d x) v) : Vd W v x := by
  obtain ⟨fp, u, v0, f1, f2, f3, h1, h2, h3, h4, r, _⟩ := f
  cases r with
  | d h => exact h
/-- it changes: the node's own object alone, perhaps with new things below -/
theorem Foc.mutR (hlen : σ.length = ρ.length) (f : Foc i W H σ ρ s p t v) : ∃ f2, RU W H v t f2 ∧ (∀ a ∈ f2, i.Z a) ∧ f2.Nodup ∧
    ∀ {X : Addr → Prop} {t' : U} {W' : Wd} {H' : Hp} {g : List Addr}, (∀ a, X a → ¬ i.Z a) → RU W' H' v t' g → g.Nodup → (∀ a ∈ g, a ∈ f2 ∨ H a = none ∨ X a) → (∀ a ∈ g, i.Z a ∨ X a) → GoB (fun a => a ∈ f2) W H W' H' →
    Rep W' (fun a => i.Z a ∨ X a) H' σ (match ρ[s]? with | some (some u) => ρ.set s (some (u.put p t')) | _ => ρ) := by
  obtain ⟨fp, u, v0, f1, f2, f3, h1, h2, h3, h4, r, q1, q2, q3, back⟩ := f
  rw [h1]
  have nd := (q2 s).1
  have hz := (q2 s).2.1
  rw [h4] at nd hz
  have nd2 : f2.Nodup := (List.nodup_append.mp (List.nodup_append.mp nd).1).2.1
  refine ⟨f2, r, fun a m => hz a (by simp [m]), nd2, fun {X t' W' H' g} hX r' ng gs gz go => ?_⟩
  have dis : ∀ a, a ∈ f2 → a ∈ f1 ++ f3 → False := fun a m m' => by
    rw [List.nodup_append] at nd
    rcases List.mem_append.mp m' with m' | m'
    · have := (List.nodup_append.mp nd.1).2.2 a m' a m
      exact this rfl
    · exact nd.2.2 a (by simp [m]) a m' rfl
  have k13 : Keep W H W' H' (f1 ++ f3) := go.keep (fun a m => (q2 s).2.2 a (by rw [h4]; simp at m ⊢; rcases m with m | m <;> simp [m])) fun a m m' => dis a m' m
  have kp : ∀ k, k ≠ s → Keep W H W' H' (fp k) := fun k n => go.keep (q2 k).2.2 fun a m m' => q3 k s a n m (by rw [h4]; simp [m'])
  have rn := back k13 r'
  have gnot : ∀ a, a ∈ g → ∀ k, k ≠ s → a ∈ fp k → False := fun a m k n m' => by
    rcases gs a m with m | m | m
    · exact q3 k s a n m' (by rw [h4]; simp [m])
    · obtain ⟨⟨o, e, _⟩, _⟩ := (q2 k).2.2 a m'
      rw [m] at e; cases e
    · exact hX a m ((q2 k).2.1 a m')
  have gnot2 : ∀ a, a ∈ g → a ∈ f1 ++ f3 → False := fun a m m' => by
    rcases gs a m with m | m | m
    · exact dis a m m'
    · obtain ⟨⟨o, e, _⟩, _⟩ := (q2 s).2.2 a (by rw [h4]; simp at m' ⊢; rcases m' with m' | m' <;> simp [m'])
      rw [m] at e; cases e
    · exact hX a m (hz a (by simp at m' ⊢; rcases m' with m' | m' <;> simp [m']))
  refine ⟨go.ok, by rw [List.length_set]; exact hlen, ?_⟩
  refine ⟨fun k => if k = s then f1 ++ g ++ f3 else fp k, fun k u' e => ?_, fun k => ?_, fun k l a n m1 m2 => ?_⟩
  · rcases getset e with ⟨rfl, e1, l⟩ | ⟨n, e⟩
    · cases e1
      exact ⟨v0, h2, by dsimp only; rw [if_pos rfl]; exact rn⟩
    · obtain ⟨w, e1, r⟩ := q1 k u' e
      exact ⟨w, e1, by dsimp only; rw [if_neg n]; exact r.stay (kp k n)⟩
  · dsimp only
    by_cases c : k = s
    · rw [if_pos c]
      refine ⟨?_, fun a m => ?_, rn.nod⟩
      · rw [List.nodup_append] at nd ⊢
        obtain ⟨n1, n3, n13⟩ := nd
        rw [List.nodup_append] at n1 ⊢
        refine ⟨⟨n1.1, ng, fun a m b m' z => gnot2 b m' (by subst z; simp [m])⟩, n3, fun a m b m' z => ?_⟩
        subst z
        rcases List.mem_append.mp m with m | m
        · exact n13 a (by simp [m]) a m' rfl
        · exact gnot2 a m (by simp [m'])
      · simp at m
        rcases m with m | m | m
        · exact .inl (hz a (by simp [m]))
        · exact gz a m
        · exact .inl (hz a (by simp [m]))
    · rw [if_neg c]
      refine ⟨(q2 k).1, fun a m => .inl ((q2 k).2.1 a m), fun a m => ?_⟩
      obtain ⟨⟨o, e, ht⟩, _, _⟩ := (q2 k).2.2 a m
      have z := (kp k c).2 a m
      exact ⟨⟨o, z.1 o e, ht⟩, z.2.1, z.2.2⟩
  · dsimp only at m1 m2
    by_cases c : k = s
    · rw [if_pos c] at m1
      have c2 : l ≠ s := fun z => n (c.trans z.symm)
      rw [if_neg c2] at m2
      simp at m1
      rcases m1 with m1 | m1 | m1
      · exact q3 l s a c2 m2 (by rw [h4]; simp [m1])
      · exact gnot a m1 l c2 m2
      · exact q3 l s a c2 m2 (by rw [h4]; simp [m1])
    · rw [if_neg c] at m1
      by_cases c2 : l = s
      · rw [if_pos c2] at m2
        simp at m2
        rcases m2 with m2 | m2 | m2
        · exact q3 k s a c m1 (by rw [h4]; simp [m2])
        · exact gnot a m2 k c m1
        · exact q3 k s a c m1 (by rw [h4]; simp [m2])
      · rw [if_neg c2] at m2
        exact q3 k l a n m1 m2
theorem Foc.mut (A : At i W H σ ρ) (f : Foc i W H σ ρ s p t v) : ∃ f2, RU W H v t f2 ∧ (∀ a ∈ f2, i.Z a) ∧ f2.Nodup ∧
    ∀ {t' : U} {W' : Wd} {H' : Hp} {g : List Addr}, RU W' H' v t' g → g.Nodup → (∀ a ∈ g, a ∈ f2 ∨ H a = none) → (∀ a ∈ g, i.Z a) → GoB (fun a => a ∈ f2) W H W' H' →
    At i W' H' σ (match ρ[s]? with | some (some u) => ρ.set s (some (u.put p t')) | _ => ρ) := by
  obtain ⟨f2, r, hz, nd, back⟩ := f.mutR A.rep.len
  refine ⟨f2, r, hz, nd, fun {t' W' H' g} r' ng gs gz go => ⟨A.k0, A.go.trans go fun a m => hz a m, ?_, A.un⟩⟩
  have R := back (X := fun _ => False) (fun _ h => h.elim) r' ng (fun a m => (gs a m).imp id .inl) (fun a m => .inl (gz a m)) go
  obtain ⟨fp, h1, h2, h3⟩ := R.ex
  exact ⟨R.ok, R.len, fp, h1, fun k => ⟨(h2 k).1, fun a m => ((h2 k).2.1 a m).elim id fun z => z.elim, (h2 k).2.2⟩, h3⟩
/-- data beside the slots -/
theorem New.ofD (A : At i W H σ ρ) {v : V} {d : D} (h : Vd W v d) : New i W H σ ρ v (.d d) := by
  obtain ⟨fp, h1, h2, h3⟩ := A.rep.ex
  have hl := A.rep.len
  refine ⟨A.k0, A.go, ⟨A.rep.ok, by simp [hl], fun k => if k < ρ.length then fp k else [], fun k u e => ?_, fun k => ?_, fun k l a n m1 m2 => ?_⟩, A.un⟩
  · by_cases c : k < ρ.length
    · rw [List.getElem?_append_left c] at e
      obtain ⟨w, e1, r⟩ := h1 k u e
      exact ⟨w, by rw [List.getElem?_append_left (by rw [hl]; exact c)]; exact e1, by dsimp only; rw [if_pos c]; exact r⟩
    · rw [List.getElem?_append_right (by omega)] at e
      have k0 : k - ρ.length = 0 := by
        have := (List.getElem?_eq_some_iff.mp e).1
        simp at this
        omega
      rw [k0] at e
      cases e
      exact ⟨v, by rw [List.getElem?_append_right (by omega), hl, k0]; rfl, by dsimp only; rw [if_neg c]; exact .d h⟩
  · dsimp only
    by_cases c : k < ρ.length
    · rw [if_pos c]; exact h2 k
    · rw [if_neg c]; exact ⟨.nil, (fun _ h => nomatch h), fun _ h => nomatch h⟩
  · dsimp only at m1 m2
    by_cases c : k < ρ.length
    · by_cases c2 : l < ρ.length
      · rw [if_pos c] at m1; rw [if_pos c2] at m2; exact h3 k l a n m1 m2
      · rw [if_neg c2] at m2; cases m2
    · rw [if_neg c] at m1; cases m1
/-- a new thing of one's own beside the slots: none of its nodes stood at the start of this step -/
theorem New.of (A : At i W H σ ρ) {W' : Wd} {H' : Hp} {v : V} {u : U} {f0 : List Addr} (g : GoB (fun _ => False) W H W' H') (r : RU W' H' v u f0) (nd : f0.Nodup) (nw : ∀ a ∈ f0, H a = none) : New i W' H' σ ρ v u := by
  have hl := A.rep.len
  have R := A.rep.go g fun _ h => h.elim
  obtain ⟨fp, h1, h2, h3⟩ := A.rep.ex
  have kp : ∀ i, Keep W H W' H' (fp i) := fun i => g.keep (h2 i).2.2 fun _ _ h => h
  have dis : ∀ k a, a ∈ f0 → a ∈ fp k → False := fun k a m m' => by
    obtain ⟨⟨o, e, _⟩, _⟩ := (h2 k).2.2 a m'
    rw [nw a m] at e; cases e
  refine ⟨A.k0, A.go.trans g fun _ h => h.elim, ⟨g.ok, by simp [hl], fun k => if k < ρ.length then fp k else if k = ρ.length then f0 else [], fun k u' e => ?_, fun k => ?_, fun k l a n m1 m2 => ?_⟩, A.un⟩
  · by_cases c : k < ρ.length
    · rw [List.getElem?_append_left c] at e
      obtain ⟨w, e1, r⟩ := h1 k u' e
      exact ⟨w, by rw [List.getElem?_append_left (by rw [hl]; exact c)]; exact e1, by dsimp only; rw [if_pos c]; exact r.stay (kp k)⟩
    · rw [List.getElem?_append_right (by omega)] at e
      have k0 : k - ρ.length = 0 := by
        have := (List.getElem?_eq_some_iff.mp e).1
        simp at this
        omega
      rw [k0] at e
      cases e
      exact ⟨v, by rw [List.getElem?_append_right (by omega), hl, k0]; rfl, by dsimp only; rw [if_neg c, if_pos (by omega)]; exact r⟩
  · dsimp only
    by_cases c : k < ρ.length
    · rw [if_pos c]
      refine ⟨(h2 k).1, (h2 k).2.1, fun a m => ?_⟩
      obtain ⟨⟨o, e, ht⟩, _, _⟩ := (h2 k).2.2 a m
      have z := (kp k).2 a m
      exact ⟨⟨o, z.1 o e, ht⟩, z.2.1, z.2.2⟩
    · rw [if_neg c]
      by_cases c2 : k = ρ.length
      · rw [if_pos c2]
        exact ⟨nd, fun a m => .inr (A.go.st a (nw a m)), r.nod⟩
      · rw [if_neg c2]; exact ⟨.nil, (fun _ h => nomatch h), fun _ h => nomatch h⟩
  · dsimp only at m1 m2
    by_cases c : k < ρ.length
    · rw [if_pos c] at m1
      by_cases c2 : l < ρ.length
      · rw [if_pos c2] at m2; exact h3 k l a n m1 m2
      · rw [if_neg c2] at m2
        by_cases c3 : l = ρ.length
        · rw [if_pos c3] at m2; exact dis k a m2 m1
        · rw [if_neg c3] at m2; cases m2
    · rw [if_neg c] at m1
      by_cases c4 : k = ρ.length
      · rw [if_pos c4] at m1
        by_cases c2 : l < ρ.length
        · rw [if_pos c2] at m2; exact dis l a m1 m2
        · rw [if_neg c2] at m2
          by_cases c3 : l = ρ.length
          · exact n (c4.trans c3.symm)
          · rw [if_neg c3] at m2; cases m2
      · rw [if_neg c4] at m1; cases m1
end
end Et
set_option Elab.async false
set_option linter.all false
set_option maxRecDepth 100000
set_option maxHeartbeats 4000000
/-! Expressions over states: what a reading means, computed. -/
namespace Et
open PySem PySem.Spec PyProof.Rows L2 Com Nd
open Dt (D Wd Vd VdA Le Ok Go Kv Ka Kb Kx KD XD SpD spOf SimR SimU SimC SimSl SimE SimT SimA SimO SimI SimN En)
abbrev KU := U → Prop
abbrev CE := Ev → KU → XD → Prop
abbrev CT := Ev → Prop → Prop → XD → Prop
abbrev CA := Ev → (List D → Prop) → XD → Prop
abbrev CO := Ev → (Option Int → Prop) → XD → Prop
def br (c : Bool) (A B : Prop) : Prop := match c with | true => A | false => B
theorem br_t {A B : Prop} (h : A) : br true A B := h
theorem br_f {A B : Prop} (h : B) : br false A B := h
theorem br_dec {p : Prop} [Decidable p] {A B : Prop} (h1 : p → A) (h2 : ¬ p → B) : br (decide p) A B := by
  by_cases c : p
  · rw [decide_eq_true c]; exact h1 c
  · rw [decide_eq_false c]; exact h2 c
theorem br_c {c : Bool} {A B : Prop} (h1 : c = true → A) (h2 : c = false → B) : br c A B := by
  cases c
  · exact h2 rfl
  · exact h1 rfl
theorem br_not {c : Bool} {A B : Prop} (h : br c B A) : br (!c) A B := by cases c <;> exact h
theorem br_yes {c : Bool} {A B : Prop} (e : c = true) (h : A) : br c A B := by subst e; exact h
theorem br_no {c : Bool} {A B : Prop} (e : c = false) (h : B) : br c A B := by subst e; exact h
theorem br_dyes {p : Prop} [Decidable p] {A B : Prop} (e : p) (h : A) : br (decide p) A B := by rw [decide_eq_true e]; exact h
theorem br_dno {p : Prop} [Decidable p] {A B : Prop} (e : ¬ p) (h : B) : br (decide p) A B := by rw [decide_eq_false e]; exact h
def Ku (W : Wd) (H : Hp) (Q : VK) (q : KU) : Prop := ∀ W' v u fp H', Go W H W' H' → RU W' H' v u fp → q u → Q v H'
theorem Ku.go {W W1 : Wd} {H H1 : Hp} {Q : VK} {q : KU} (k : Ok W H) (h : Ku W H Q q) (g : Go W H W1 H1) : Ku W1 H1 Q q := fun W' v d fp H' g1 => h W' v d fp H' (g.trans k g1)
theorem Ku.d {W : Wd} {H : Hp} {Q : VK} {q : KU} (h : Ku W H Q q) : Kv W H Q (fun d => q (.d d)) := fun W' v d H' g hv hq => h W' v _ _ H' g (.d hv) hq
theorem RU.pure {W W1 : Wd} {H H1 : Hp} {v : V} {u : U} {fp : List Addr} (k : Ok W H) (r : RU W H v u fp) (g : Go W H W1 H1) : RU W1 H1 v u fp := r.stay ((GoB.of (B := fun _ => False) k g).keep r.nod fun _ _ h => h)
def SE (E : XK) (te : TE) (m : CE) : Prop := ∀ W Z H σ ρ Q q e, Rep W Z H σ ρ → m ρ q e → Ku W H Q q → Kx W H E e → te σ H Q
def ST (E : XK) (tt : TT) (m : CT) : Prop := ∀ W Z H σ ρ (Q : Bool → Hp → Prop) A B e, Rep W Z H σ ρ → m ρ A B e → (∀ W' H', Go W H W' H' → A → Q true H') → (∀ W' H', Go W H W' H' → B → Q false H') → Kx W H E e → tt σ H Q
def SA (E : XK) (n : Nat) (ta : TA) (m : CA) : Prop := ∀ W Z H σ ρ Q q e, Rep W Z H σ ρ → m ρ q e → Ka n W H Q q → Kx W H E e → ta σ H Q
def SO (E : XK) (to : TO) (m : CO) : Prop := ∀ W Z H σ ρ Q q e, Rep W Z H σ ρ → m ρ q e → Kb W H Q q → Kx W H E e → to σ H Q
def onD (u : U) (k : D → Prop) : Prop := match u with
  | .d x => k x
  | _ => False
theorem onD_of {W : Wd} {H : Hp} {v : V} {u : U} {fp : List Addr} {k : D → Prop} (r : RU W H v u fp) (h : onD u k) : ∃ d, u = .d d ∧ Vd W v d ∧ k d := by
  cases u with
  | d x => cases r with | d r => exact ⟨x, rfl, r, h⟩
  | _ => exact h.elim
/-! ### what is known of the older layer -/
def oe1 : Option U → Option En
  | some (.d x) => some (.d x)
  | _ => none
def oe (ρ : Ev) : Dt.Ev := ρ.map oe1
theorem Rep.old {W : Wd} {Z : Addr → Prop} {H : Hp} {σ : L2.St} {ρ : Ev} (R : Rep W Z H σ ρ) : Dt.Rep W H H σ (oe ρ) where
  ok := R.ok
  len := by unfold oe; rw [List.length_map, R.len]
  at_ := fun i e h => by
    unfold oe at h
    rw [List.getElem?_map] at h
    cases q : ρ[i]? with
    | none => rw [q] at h; cases h
    | some o =>
      rw [q] at h
      cases o with
      | none => cases h
      | some u =>
        cases u with
        | d x =>
          cases h
          exact R.var q
        | _ => cases h
  sep := fun i j ds es v h => by
    unfold oe at h
    rw [List.getElem?_map] at h
    cases q : ρ[i]? with
    | none => rw [q] at h; cases h
    | some o =>
      rw [q] at h
      cases o with
      | none => cases h
      | some u => cases u <;> cases h
theorem lf {E : XK} {te : TE} {m : Dt.ME} (h : SimE E te m) : SE E te (fun ρ q e => m (oe ρ) (fun d => q (.d d)) e) := fun W Z H σ ρ Q q e R hm k kx => h W H H σ (oe ρ) Q _ e R.old hm k.d kx
abbrev cVar (i : Nat) : CE := fun ρ q _ => match ρ[i]? with
  | some (some u) => q u
  | _ => False
abbrev cC (d : D) : CE := fun _ q _ => q (.d d)
abbrev cOp (f : D → D → KD → Prop) (a b : CE) : CE := fun ρ q e => a ρ (fun x => onD x fun x => b ρ (fun y => onD y fun y => f x y fun z => q (.d z)) e) e
abbrev cUn (f : D → KD → Prop) (a : CE) : CE := fun ρ q e => a ρ (fun x => onD x fun x => f x fun z => q (.d z)) e
abbrev cNil : CA := fun _ q _ => q []
abbrev cCons (a : CE) (r : CA) : CA := fun ρ q e => a ρ (fun x => onD x fun x => r ρ (fun xs => q (x :: xs)) e) e
abbrev cTup (a : CA) : CE := fun ρ q e => a ρ (fun ds => q (.d (.tup ds))) e
abbrev cLst (a : CA) : CE := fun ρ q e => a ρ (fun ds => q (.d (.lst ds))) e
abbrev cCB (f : List D → KD → Prop) (a : CA) : CE := fun ρ q e => a ρ (fun ds => f ds fun z => q (.d z)) e
def onB (d : U) (A B : Prop) : Prop := match d with
  | .d (.bl c) => br c A B
  | _ => False
abbrev cBoo (a : CE) : CT := fun ρ A B e => a ρ (fun x => onB x A B) e
abbrev cAnd (a b : CT) : CT := fun ρ A B e => a ρ (b ρ A B e) B e
abbrev cOr (a b : CT) : CT := fun ρ A B e => a ρ A (b ρ A B e) e
abbrev cNot (a : CT) : CT := fun ρ A B e => a ρ B A e
abbrev cAndV (a b : CE) : CE := fun ρ q e => a ρ (fun x => onB x (b ρ q e) (q (.d (.bl false)))) e
abbrev cOrV (a b : CE) : CE := fun ρ q e => a ρ (fun x => onB x (q (.d (.bl true))) (b ρ q e)) e
abbrev cNotV (a : CE) : CE := fun ρ q e => a ρ (fun x => match x with
  | .d (.bl c) => q (.d (.bl (!c)))
  | _ => False) e
abbrev cIf (t : CT) (a b : CE) : CE := fun ρ q e => t ρ (a ρ q e) (b ρ q e) e
abbrev cDef (sp : SpD) (a : CA) : CE := fun ρ q e => a ρ (fun ds => sp ds (fun z => q (.d z)) e) e
abbrev cDefK (sp : SpD) (a k : CA) : CE := fun ρ q e => a ρ (fun ds => k ρ (fun es => sp (ds ++ es) (fun z => q (.d z)) e) e) e
abbrev cNoP : CO := fun _ q _ => q none
abbrev cPart (a : CE) : CO := fun ρ q e => a ρ (fun x => match x with
  | .d (.int i) => q (some i)
  | _ => False) e
abbrev cSl (f : D → Option Int → Option Int → KD → Prop) (a : CE) (l h : CO) : CE := fun ρ q e => a ρ (fun x => onD x fun x => l ρ (fun lo => h ρ (fun hi => f x lo hi fun z => q (.d z)) e) e) e
/-- a field of an object -/
def lookU (f : Str) : List Str → List U → Option U
  | k :: ks, d :: ds => if (f == k) = true then some d else lookU f ks ds
  | _, _ => none
def fldD (C : Addr) (f : Str) (x : U) (q : KU) : Prop := match x with
  | .d (.obj C' ks ds) => C' = C ∧ (match Dt.lookD f ks ds with
    | some d => q (.d d)
    | none => False)
  | .obj C' ks us => C' = C ∧ (match lookU f ks us with
    | some u => q u
    | none => False)
  | _ => False
abbrev cFld (C : Addr) (f : Str) (a : CE) : CE := fun ρ q e => a ρ (fun x => fldD C f x q) e
abbrev cMth (C : Addr) (m : Str) (sp : SpD) (o : CE) (a : CA) : CE := fun ρ q e => o ρ (fun x => match x with
  | .d (.obj C' ks ds) => C' = C ∧ ks.contains m = false ∧ a ρ (fun es => sp (.obj C' ks ds :: es) (fun z => q (.d z)) e) e
  | _ => False) e
abbrev cChain (f f' : D → D → KD → Prop) (a b c : CE) : CE := fun ρ q e => a ρ (fun x => onD x fun x => b ρ (fun y => onD y fun y => f x y fun z => onB (.d z) (c ρ (fun w => onD w fun w => f' y w fun z => q (.d z)) e) (q (.d (.bl false)))) e) e
theorem onB_of {W : Wd} {H : Hp} {v : V} {u : U} {fp : List Addr} {A B : Prop} (h : RU W H v u fp) (o : onB u A B) : ∃ c, v = .bl c ∧ br c A B := by
  cases u with
  | d x =>
    cases x with
    | bl c => cases h with | d h => cases h; exact ⟨c, rfl, o⟩
    | _ => exact o.elim
  | _ => exact o.elim
theorem look_zipU {W : Wd} {H : Hp} {f : Str} : ∀ {ks : List Str} {vs : List V} {us : List U} {fp : List Addr} {u : U}, ks.length = vs.length → RUs W H vs us fp → lookU f ks us = some u → ∃ v fq, (ks.zip vs).lookup f = some v ∧ RU W H v u fq
  | [], _, _, _, _, _, _, h => by
    unfold lookU at h
    cases h
  | k :: ks, [], _, _, _, l, _, _ => by cases l
  | k :: ks, v :: vs, _, _, d, l, .cons h t, e => by
    unfold lookU at e
    rw [List.zip_cons_cons, List.lookup_cons]
    by_cases z : (f == k) = true
    · rw [if_pos z] at e
      cases e
      rw [z]
      exact ⟨v, _, rfl, h⟩
    · rw [if_neg z] at e
      have z2 : (f == k) = false := by simpa using z
      rw [z2]
      exact look_zipU (by simpa using l) t e
section
variable {E : XK} {ta tb tc te : TE} {ma mb mc me : CE} {tt tu : TT} {mt mu : CT} {aa ab : TA} {na nb : CA} {r r' : R2} {f f' : D → D → KD → Prop} {K : PySem.W.Frag} {n n' : Nat}
theorem e_var {i : Nat} : SE E (tVar i) (cVar i) := fun W Z H σ ρ Q q e R h k _ => by
  have h : (match ρ[i]? with | some (some u) => q u | _ => False) := h
  split at h
  · rename_i u e1
    obtain ⟨fp, h1, _⟩ := R.ex
    obtain ⟨v, e2, hv⟩ := h1 i u e1
    exact ⟨v, e2, k W v u _ H (.refl R.ok) hv h⟩
  · exact h.elim
theorem e_int {i : Int} : SE E (tC (.int i)) (cC (.int i)) := fun W Z H σ ρ Q q e R h k _ => k.d W _ _ H (.refl R.ok) (.int i) h
theorem e_bl {b : Bool} : SE E (tC (.bl b)) (cC (.bl b)) := fun W Z H σ ρ Q q e R h k _ => k.d W _ _ H (.refl R.ok) (.bl b) h
theorem e_non : SE E (tC .non) (cC .non) := fun W Z H σ ρ Q q e R h k _ => k.d W _ _ H (.refl R.ok) .non h
theorem e_str {x : Str} : SE E (tC (.str x)) (cC (.str x)) := fun W Z H σ ρ Q q e R h k _ => k.d W _ _ H (.refl R.ok) (.str x) h
theorem e_op (ha : SE E ta ma) (hb : SE E tb mb) (hr : SimR r f) : SE E (tOp r ta tb) (cOp f ma mb) := fun W Z H σ ρ Q q e R h k kx =>
  ha W Z H σ ρ _ _ e R h (fun W1 x ux fx H1 g1 rx h1 => by
    obtain ⟨dx, rfl, hx, h1⟩ := onD_of rx h1
    refine hb W1 Z H1 σ ρ _ _ e (R.pure g1) h1 (fun W2 y uy fy H2 g2 ry h2 => ?_) (kx.go R.ok g1)
    obtain ⟨dy, rfl, hy, h2⟩ := onD_of ry h2
    exact hr W2 H2 x y dx dy Q _ g2.ok (hx.mono g2.le) hy h2 (k.go R.ok (g1.trans R.ok g2)).d) kx
theorem e_un {r : V → Hp → VK → Prop} {f : D → KD → Prop} (ha : SE E ta ma) (hr : SimU r f) : SE E (tUn r ta) (cUn f ma) := fun W Z H σ ρ Q q e R h k kx =>
  ha W Z H σ ρ _ _ e R h (fun W1 x ux fx H1 g1 rx h1 => by
    obtain ⟨dx, rfl, hx, h1⟩ := onD_of rx h1
    exact hr W1 H1 x dx Q _ g1.ok hx h1 (k.go R.ok g1).d) kx
theorem e_nil : SA E 0 tNil cNil := fun W Z H σ ρ Q q e R h k _ => k W _ _ H (.refl R.ok) .nil rfl h
theorem e_cons (ha : SE E ta ma) (hr : SA E n aa na) : SA E (n + 1) (tCons ta aa) (cCons ma na) := fun W Z H σ ρ Q q e R h k kx =>
  ha W Z H σ ρ _ _ e R h (fun W1 x ux fx H1 g1 rx h1 => by
    obtain ⟨dx, rfl, hx, h1⟩ := onD_of rx h1
    exact hr W1 Z H1 σ ρ _ _ e (R.pure g1) h1 (fun W2 xs ds H2 g2 hy hl h2 => k W2 _ _ H2 (g1.trans R.ok g2) (.cons (hx.mono g2.le) hy) (by rw [List.length_cons, hl]) h2) (kx.go R.ok g1)) kx
theorem e_tup (ha : SA E n aa na) (hn : n ≤ 1000 := by decide) : SE E (tTup aa) (cTup na) := fun W Z H σ ρ Q q e R h k kx =>
  ha W Z H σ ρ _ _ e R h (fun W1 xs ds H1 g1 hx hl1 h1 => ⟨by rw [hx.length, hl1]; exact Nat.le_trans hn (by decide), fun p hp => k.d _ _ _ _ (g1.trans R.ok (.put g1.ok hp)) (.tup (upd_same (H := W1.F)) (hx.mono (Go.put g1.ok hp).le)) h1⟩) kx
theorem e_lst (ha : SA E n aa na) (hn : n ≤ 1000 := by decide) : SE E (tLst aa) (cLst na) := fun W Z H σ ρ Q q e R h k kx =>
  ha W Z H σ ρ _ _ e R h (fun W1 xs ds H1 g1 hx hl1 h1 => ⟨by rw [hx.length, hl1]; exact Nat.le_trans hn (by decide), fun p hp => k.d _ _ _ _ (g1.trans R.ok (.put g1.ok hp)) (.lst (upd_same (H := W1.F)) (hx.mono (Go.put g1.ok hp).le)) h1⟩) kx
theorem e_cb {r : List V → Hp → VK → Prop} {f : List D → KD → Prop} (ha : SA E n aa na) (hr : SimC r f) : SE E (tCB r aa) (cCB f na) := fun W Z H σ ρ Q q e R h k kx =>
  ha W Z H σ ρ _ _ e R h (fun W1 xs ds H1 g1 hx hl1 h1 => hr W1 H1 xs ds Q _ g1.ok hx h1 (k.go R.ok g1).d) kx
theorem e_test (ha : SE E ta ma) : ST E (tTest ta) (cBoo ma) := fun W Z H σ ρ Q A B e R h k1 k2 kx =>
  ha W Z H σ ρ _ _ e R h (fun W1 x ux fx H1 g1 hx h1 => by
    obtain ⟨c, e1, h1⟩ := onB_of hx h1
    refine ⟨c, e1, ?_⟩
    cases c
    · exact k2 W1 H1 g1 h1
    · exact k1 W1 H1 g1 h1) kx
theorem e_B (ha : SE E ta ma) : ST E (tB ta) (cBoo ma) := fun W Z H σ ρ Q A B e R h k1 k2 kx =>
  ha W Z H σ ρ _ _ e R h (fun W1 x ux fx H1 g1 hx h1 => by
    obtain ⟨c, e1, h1⟩ := onB_of hx h1
    refine ⟨c, e1, ?_⟩
    cases c
    · exact k2 W1 H1 g1 h1
    · exact k1 W1 H1 g1 h1) kx
theorem e_and (ha : ST E tt mt) (hb : ST E tu mu) : ST E (tAnd tt tu) (cAnd mt mu) := fun W Z H σ ρ Q A B e R h k1 k2 kx =>
  ha W Z H σ ρ _ _ _ e R h (fun W1 H1 g1 h1 => (hb W1 Z H1 σ ρ _ _ _ e (R.pure g1) h1 (fun W2 H2 g2 => k1 W2 H2 (g1.trans R.ok g2)) (fun W2 H2 g2 => k2 W2 H2 (g1.trans R.ok g2)) (kx.go R.ok g1) : tu σ H1 Q)) (fun W1 H1 g1 h1 => (k2 W1 H1 g1 h1 : Q false H1)) kx
theorem e_or (ha : ST E tt mt) (hb : ST E tu mu) : ST E (tOr tt tu) (cOr mt mu) := fun W Z H σ ρ Q A B e R h k1 k2 kx =>
  ha W Z H σ ρ _ _ _ e R h (fun W1 H1 g1 h1 => (k1 W1 H1 g1 h1 : Q true H1)) (fun W1 H1 g1 h1 => (hb W1 Z H1 σ ρ _ _ _ e (R.pure g1) h1 (fun W2 H2 g2 => k1 W2 H2 (g1.trans R.ok g2)) (fun W2 H2 g2 => k2 W2 H2 (g1.trans R.ok g2)) (kx.go R.ok g1) : tu σ H1 Q)) kx
theorem e_not (ha : ST E tt mt) : ST E (tNot tt) (cNot mt) := fun W Z H σ ρ Q A B e R h k1 k2 kx =>
  ha W Z H σ ρ _ _ _ e R h (fun W1 H1 g1 h1 => k2 W1 H1 g1 h1) (fun W1 H1 g1 h1 => k1 W1 H1 g1 h1) kx
theorem e_andV (ha : SE E ta ma) (hb : SE E tb mb) : SE E (tAndV ta tb) (cAndV ma mb) := fun W Z H σ ρ Q q e R h k kx =>
  ha W Z H σ ρ _ _ e R h (fun W1 x ux fx H1 g1 hx h1 => by
    obtain ⟨c, e1, h1⟩ := onB_of hx h1
    refine ⟨c, e1, ?_⟩
    cases c with
    | true => exact (hb W1 Z H1 σ ρ _ _ e (R.pure g1) h1 (k.go R.ok g1) (kx.go R.ok g1) : tb σ H1 Q)
    | false => exact (k.d W1 _ _ H1 g1 (.bl false) h1 : Q (.bl false) H1)) kx
theorem e_orV (ha : SE E ta ma) (hb : SE E tb mb) : SE E (tOrV ta tb) (cOrV ma mb) := fun W Z H σ ρ Q q e R h k kx =>
  ha W Z H σ ρ _ _ e R h (fun W1 x ux fx H1 g1 hx h1 => by
    obtain ⟨c, e1, h1⟩ := onB_of hx h1
    refine ⟨c, e1, ?_⟩
    cases c with
    | false => exact (hb W1 Z H1 σ ρ _ _ e (R.pure g1) h1 (k.go R.ok g1) (kx.go R.ok g1) : tb σ H1 Q)
    | true => exact (k.d W1 _ _ H1 g1 (.bl true) h1 : Q (.bl true) H1)) kx
theorem e_notV (ha : SE E ta ma) : SE E (tNotV ta) (cNotV ma) := fun W Z H σ ρ Q q e R h k kx =>
  ha W Z H σ ρ _ _ e R h (fun W1 x ux fx H1 g1 hx h1 => by
    cases ux with
    | d dx =>
      cases dx with
      | bl c => cases hx with | d hx => cases hx; exact ⟨c, rfl, k.d W1 _ _ H1 g1 (.bl _) h1⟩
      | _ => exact h1.elim
    | _ => exact h1.elim) kx
theorem e_if (ht : ST E tt mt) (ha : SE E ta ma) (hb : SE E tb mb) : SE E (tIf tt ta tb) (cIf mt ma mb) := fun W Z H σ ρ Q q e R h k kx =>
  ht W Z H σ ρ _ _ _ e R h (fun W1 H1 g1 h1 => (ha W1 Z H1 σ ρ _ _ e (R.pure g1) h1 (k.go R.ok g1) (kx.go R.ok g1) : ta σ H1 Q)) (fun W1 H1 g1 h1 => (hb W1 Z H1 σ ρ _ _ e (R.pure g1) h1 (k.go R.ok g1) (kx.go R.ok g1) : tb σ H1 Q)) kx
theorem e_def {sp : SpD} (ha : SA E n aa na) : SE E (tDef (spOf sp) E aa) (cDef sp na) := fun W Z H σ ρ Q q e R h k kx =>
  ha W Z H σ ρ _ _ e R h (fun W1 xs ds H1 g1 hx hl1 h1 => ⟨W1, ds, _, e, g1.ok, hx, h1, (k.go R.ok g1).d, kx.go R.ok g1⟩) kx
theorem e_kwD {sp : SpD} (ha : SA E n aa na) (hb : SA E n' ab nb) : SE E (tCallN n n' (spOf sp) Gn.app E aa ab) (cDefK sp na nb) := fun W Z H σ ρ Q q e R h k kx =>
  ha W Z H σ ρ _ _ e R h (fun W1 xs ds H1 g1 hx hl1 h1 => hb W1 Z H1 σ ρ _ _ e (R.pure g1) h1 (fun W2 ys es H2 g2 hy hl2 h2 =>
    ⟨by rw [hx.length]; exact hl1, by rw [hy.length]; exact hl2, W2, ds ++ es, _, e, g2.ok, (hx.mono g2.le).append hy, h2, (k.go R.ok (g1.trans R.ok g2)).d, kx.go R.ok (g1.trans R.ok g2)⟩) (kx.go R.ok g1)) kx
theorem e_noP : SO E tNoPart cNoP := fun W Z H σ ρ Q q e R h k _ => k W _ H (.refl R.ok) h
theorem e_part (ha : SE E ta ma) : SO E (tPart ta) (cPart ma) := fun W Z H σ ρ Q q e R h k kx =>
  ha W Z H σ ρ _ _ e R h (fun W1 x ux fx H1 g1 hx h1 => by
    cases ux with
    | d dx =>
      cases dx with
      | int i => cases hx with | d hx => cases hx; exact ⟨i, rfl, k W1 _ H1 g1 h1⟩
      | _ => exact h1.elim
    | _ => exact h1.elim) kx
theorem e_sl {r : V → Option Int → Option Int → Hp → VK → Prop} {f : D → Option Int → Option Int → KD → Prop} {tl th : TO} {ml mh : CO} (ha : SE E ta ma) (hl : SO E tl ml) (hh : SO E th mh) (hr : SimSl r f) : SE E (tSl r ta tl th) (cSl f ma ml mh) := fun W Z H σ ρ Q q e R h k kx =>
  ha W Z H σ ρ _ _ e R h (fun W1 x ux fx H1 g1 rx h1 => by
    obtain ⟨dx, rfl, hx, h1⟩ := onD_of rx h1
    exact hl W1 Z H1 σ ρ _ _ e (R.pure g1) h1 (fun W2 lo H2 g2 h2 => hh W2 Z H2 σ ρ _ _ e ((R.pure g1).pure g2) h2 (fun W3 hi H3 g3 h3 =>
      hr W3 H3 x dx lo hi Q _ g3.ok ((hx.mono g2.le).mono g3.le) h3 (k.go R.ok ((g1.trans R.ok g2).trans R.ok g3)).d) (kx.go R.ok (g1.trans R.ok g2))) (kx.go R.ok g1)) kx
theorem e_fld {C : Addr} {x : Str} (cl : Cls K C) (na : NoAttr K C x) (ha : SE E ta ma) : SE E (tFld K ta x) (cFld C x ma) := fun W Z H σ ρ Q q e R h k kx =>
  ha W Z H σ ρ _ _ e R h (fun W1 v ux fx H1 g1 hx h1 => by
    cases ux with
    | d dx =>
      cases dx with
      | obj C' ks ds =>
        obtain ⟨rfl, h1⟩ := h1
        cases e2 : Dt.lookD x ks ds with
        | none => rw [e2] at h1; exact h1.elim
        | some d =>
          rw [e2] at h1
          cases hx with
          | d hx =>
            obtain ⟨a, dx, vs, e3, e4, l, t⟩ := Dt.obj_of g1.ok hx rfl
            obtain ⟨u, e5, hu⟩ := Dt.look_zip l t e2
            exact ⟨a, C', dx, _, u, e3, e4, cl, na, e5, k.d W1 u d H1 g1 hu h1⟩
      | _ => exact h1.elim
    | obj C' ks us =>
      obtain ⟨rfl, h1⟩ := h1
      cases e2 : lookU x ks us with
      | none => rw [e2] at h1; exact h1.elim
      | some d =>
        rw [e2] at h1
        cases hx with
        | obj e4 l t _ _ =>
          obtain ⟨u, fq, e5, hu⟩ := look_zipU l t e2
          exact ⟨_, C', _, _, u, rfl, e4, cl, na, e5, k W1 u d fq H1 g1 hu h1⟩
    | _ => exact h1.elim) kx
theorem e_mth {C : Addr} {m : Str} {sp : SpD} (ho : SE E ta ma) (ha : SA E n aa na) : SE E (tMth C m (spOf sp) E ta aa) (cMth C m sp ma na) := fun W Z H σ ρ Q q e R h k kx =>
  ho W Z H σ ρ _ _ e R h (fun W1 v ux fx H1 g1 rx h1 => by
    cases ux with
    | d d =>
      cases d with
      | obj C' ks ds =>
        obtain ⟨rfl, e2, h1⟩ := h1
        cases rx with
        | d hx =>
          obtain ⟨a, dx, vs, e3, e4, l, t⟩ := Dt.obj_of g1.ok hx rfl
          exact ⟨a, dx, _, e3, e4, Dt.look_no e2, ha W1 Z H1 σ ρ _ _ e (R.pure g1) h1 (fun W2 xs es H2 g2 hy _ h2 => ⟨W2, _ :: es, _, e, g2.ok, .cons (hx.mono g2.le) hy, h2, (k.go R.ok (g1.trans R.ok g2)).d, kx.go R.ok (g1.trans R.ok g2)⟩) (kx.go R.ok g1)⟩
      | _ => exact h1.elim
    | _ => exact h1.elim) kx
theorem e_chain (ha : SE E ta ma) (hb : SE E tb mb) (hc : SE E tc mc) (hr : SimR r f) (hr' : SimR r' f') : SE E (tChain r r' ta tb tc) (cChain f f' ma mb mc) := fun W Z H σ ρ Q q e R h k kx =>
  ha W Z H σ ρ _ _ e R h (fun W1 x ux fx H1 g1 rx h1 => by
    obtain ⟨dx, rfl, hx, h1⟩ := onD_of rx h1
    refine hb W1 Z H1 σ ρ _ _ e (R.pure g1) h1 (fun W2 y uy fy H2 g2 ry h2 => ?_) (kx.go R.ok g1)
    obtain ⟨dy, rfl, hy, h2⟩ := onD_of ry h2
    refine hr W2 H2 x y dx dy _ _ g2.ok (hx.mono g2.le) hy h2 (fun W3 z dz H3 g3 hz h3 => ?_)
    obtain ⟨c, e1, h3⟩ := onB_of (RU.d (H := H3) hz) h3
    refine ⟨c, e1, ?_⟩
    have g := (g1.trans R.ok g2).trans R.ok g3
    cases c with
    | true =>
      refine (hc W3 Z H3 σ ρ _ _ e (R.pure g) h3 (fun W4 w uw fw H4 g4 rw h4 => ?_) (kx.go R.ok g) : tc σ H3 _)
      obtain ⟨dw, rfl, hw, h4⟩ := onD_of rw h4
      exact hr' W4 H4 y w dy dw Q _ g4.ok ((hy.mono g3.le).mono g4.le) hw h4 (k.go R.ok (g.trans R.ok g4)).d
    | false => exact (k.d W3 _ _ H3 g (.bl false) h3 : Q (.bl false) H3)) kx
end
end Et
set_option Elab.async false
set_option linter.all false
set_option maxRecDepth 100000
set_option maxHeartbeats 4000000
/-! Operators over data, computed: ==, in, [..]. -/
namespace Et
open PySem PySem.Spec PyProof.Rows L2 Com Nd
open Dt (D Wd Vd VdA Le Ok Go Kv Ka Kb Kx KD XD SpD spOf SimR SimU SimC SimSl SimE SimT SimA SimO SimI SimN En toPy toPyA dOf dOfA nkK fEq fIn rIxU ixU rInU rNotInU op_inU op_notInU)
mutual
/-- data as a key -/
def nkOf : D → Option NestedKey
  | .non => some .none
  | .int i => some (.num i)
  | .str s => some (.text s)
  | .tup ds => match nkOfA ds with
    | some ks => some (.tup ks)
    | none => none
  | .vry _ d => nkOf d
  | _ => none
def nkOfA : List D → Option (List NestedKey)
  | [] => some []
  | d :: ds => match nkOf d with
    | some k => match nkOfA ds with
      | some ks => some (k :: ks)
      | none => none
    | none => none
end
mutual
theorem nk_is {W : Wd} {H : Hp} (k0 : Ok W H) : ∀ {v : V} {d : D} {k : NestedKey}, Vd W v d → nkOf d = some k → NIs H k v
  | _, _, _, .non, e => by rw [nkOf] at e; cases e; exact .none
  | _, _, _, .bl _, e => by rw [nkOf] at e; cases e; all_goals (intros; rename_i z; cases z)
  | _, _, _, .int i, e => by rw [nkOf] at e; cases e; exact .num i
  | _, _, _, .str s, e => by rw [nkOf] at e; cases e; exact .text s
  | _, _, _, .tup (ds := ds) h t, e => by
    rw [nkOf] at e
    cases q : nkOfA ds with
    | none => rw [q] at e; cases e
    | some ks => rw [q] at e; cases e; exact .tup (k0.f _ _ h) (nk_isA k0 t q)
  | _, _, _, .lst _ _, e => by rw [nkOf] at e; cases e; all_goals (intros; rename_i z; cases z)
  | _, _, _, .obj _ _ _, e => by rw [nkOf] at e; cases e; all_goals (intros; rename_i z; cases z)
  | _, _, _, .flow _, e => by rw [nkOf] at e; cases e; all_goals (intros; rename_i z; cases z)
  | _, _, _, .scr _, e => by rw [nkOf] at e; cases e; all_goals (intros; rename_i z; cases z)
  | _, _, _, .dict0 _, e => by rw [nkOf] at e; cases e; all_goals (intros; rename_i z; cases z)
  | _, _, _, .dctN _ _ _ _, e => by rw [nkOf] at e; cases e; all_goals (intros; rename_i z; cases z)
  | _, _, _, .dctK _ _ _, e => by rw [nkOf] at e; cases e; all_goals (intros; rename_i z; cases z)
  | _, _, _, .vry h, e => by rw [nkOf] at e; exact nk_is k0 h e
theorem nk_isA {W : Wd} {H : Hp} (k0 : Ok W H) : ∀ {vs : List V} {ds : List D} {ks : List NestedKey}, VdA W vs ds → nkOfA ds = some ks → NIsA H ks vs
  | _, _, _, .nil, e => by rw [nkOfA] at e; cases e; exact .nil
  | _, _, _, .cons (d := d) (ds := ds) h t, e => by
    rw [nkOfA] at e
    cases q : nkOf d with
    | none => rw [q] at e; cases e
    | some k =>
      cases q2 : nkOfA ds with
      | none => rw [q, q2] at e; cases e
      | some ks => rw [q, q2] at e; cases e; exact .cons (nk_is k0 h q) (nk_isA k0 t q2)
end
mutual
theorem dof_is {W : Wd} {H : Hp} (k0 : Ok W H) : ∀ {k : NestedKey} {v : V}, Vd W v (dOf k) → NIs H k v
  | .none, _, h => by rw [dOf] at h; cases h; exact .none
  | .num i, _, h => by rw [dOf] at h; cases h; exact .num i
  | .text s, _, h => by rw [dOf] at h; cases h; exact .text s
  | .tup ks, _, h => by
    rw [dOf] at h
    cases h with
    | tup h t => exact .tup (k0.f _ _ h) (dof_isA k0 t)
theorem dof_isA {W : Wd} {H : Hp} (k0 : Ok W H) : ∀ {ks : List NestedKey} {vs : List V}, VdA W vs (dOfA ks) → NIsA H ks vs
  | [], _, h => by rw [dOfA] at h; cases h; exact .nil
  | k :: ks, _, h => by
    rw [dOfA] at h
    cases h with
    | cons h t => exact .cons (dof_is k0 h) (dof_isA k0 t)
end
theorem all_keys {W : Wd} {H : Hp} (k0 : Ok W H) : ∀ {xs : List NX}, VdA W (xs.map fun x => .ref x.2.1) (dOfA (xs.map (·.1))) → AllK H xs
  | [], _ => fun _ h => nomatch h
  | x :: xs, h => by
    rw [List.map_cons, List.map_cons, dOfA] at h
    cases h with
    | cons h t =>
      intro y hy
      rcases List.mem_cons.mp hy with rfl | hy
      · exact dof_is k0 h
      · exact all_keys k0 t y hy
theorem all_keys2 {W : Wd} {H : Hp} (k0 : Ok W H) {xs : List NX} {ks : List NestedKey} (h : VdA W (xs.map fun x => .ref x.2.1) (dOfA ks)) (e : xs.map (·.1) = ks) : AllK H xs := by subst e; exact all_keys k0 h
def lookK {α : Type} : List NestedKey → List α → NestedKey → Option α
  | k :: ks, d :: ds, j => if k = j then some d else lookK ks ds j
  | _, _, _ => none
theorem look_lkN {W : Wd} {j : NestedKey} {d : D} : ∀ {xs : List NX} {ds : List D}, VdA W (xs.map (·.2.2)) ds → lookK (xs.map (·.1)) ds j = some d → ∃ v, lkN xs j = some v ∧ Vd W v d
  | [], _, h, e => by cases h; cases e
  | x :: xs, _, .cons h t, e => by
    rw [List.map_cons] at e
    unfold lookK at e
    unfold lkN
    rw [List.find?_cons]
    by_cases c : x.1 = j
    · rw [if_pos c] at e; cases e
      rw [decide_eq_true c]
      exact ⟨_, rfl, h⟩
    · rw [if_neg c] at e
      rw [decide_eq_false c]
      exact look_lkN t e
theorem look_mem {α : Type} {j : NestedKey} {d : α} : ∀ {ks : List NestedKey} {ds : List α}, lookK ks ds j = some d → j ∈ ks
  | k :: ks, d' :: ds, h => by
    unfold lookK at h
    by_cases c : k = j
    · exact List.mem_cons.mpr (.inl c.symm)
    · rw [if_neg c] at h; exact List.mem_cons_of_mem _ (look_mem h)
  | [], _, h => by cases h
  | _ :: _, [], h => by cases h
theorem look_isSome {α : Type} {j : NestedKey} : ∀ {ks : List NestedKey} {ds : List α}, ks.length = ds.length → (lookK ks ds j).isSome = decide (j ∈ ks)
  | [], [], _ => rfl
  | k :: ks, d :: ds, h => by
    unfold lookK
    by_cases c : k = j
    · rw [if_pos c]; subst c; simp
    · rw [if_neg c, look_isSome (by simpa using h)]
      have : ¬ j = k := fun z => c z.symm
      simp [this]
theorem lkN_isSome {j : NestedKey} (xs : List NX) : (lkN xs j).isSome = decide (j ∈ xs.map (·.1)) := by
  have : lkN xs j = lookK (xs.map (·.1)) (xs.map (·.2.2)) j := by
    induction xs with
    | nil => rfl
    | cons x xs ih =>
      unfold lkN
      rw [List.map_cons, List.map_cons, lookK, List.find?_cons]
      by_cases c : x.1 = j
      · rw [decide_eq_true c, if_pos c]; rfl
      · rw [decide_eq_false c, if_neg c, ← ih]; rfl
  rw [this, look_isSome (by simp)]
/-- keys that are ints or texts -/
theorem nkK_of {W : Wd} {v : V} : ∀ {d : D} {k : Key}, Vd W v d → nkOf d = some (nkK k) → v = kV k
  | .non, k, h, e => by rw [nkOf] at e; cases k <;> cases e
  | .int i, k, h, e => by
    rw [nkOf] at e
    cases k with
    | inl j => cases e; cases h; rfl
    | inr j => cases e
  | .str i, k, h, e => by
    rw [nkOf] at e
    cases k with
    | inl j => cases e
    | inr j => cases e; cases h; rfl
  | .tup ds, k, h, e => by
    rw [nkOf] at e
    cases q : nkOfA ds with
    | none => rw [q] at e; cases e
    | some ks => rw [q] at e; cases k <;> cases e
  | .vry _ d, k, h, e => by
    rw [nkOf] at e
    cases h with
    | vry h => exact nkK_of h e
  | .bl _, k, h, e => by rw [nkOf] at e; cases e; all_goals (intros; rename_i z; cases z)
  | .lst _, k, h, e => by rw [nkOf] at e; cases e; all_goals (intros; rename_i z; cases z)
  | .obj _ _ _, k, h, e => by rw [nkOf] at e; cases e; all_goals (intros; rename_i z; cases z)
  | .flow _, k, h, e => by rw [nkOf] at e; cases e; all_goals (intros; rename_i z; cases z)
  | .scr _ _, k, h, e => by rw [nkOf] at e; cases e; all_goals (intros; rename_i z; cases z)
  | .dict0, k, h, e => by rw [nkOf] at e; cases e; all_goals (intros; rename_i z; cases z)
  | .dct _ _ _ _, k, h, e => by rw [nkOf] at e; cases e; all_goals (intros; rename_i z; cases z)
theorem nkK_inj {a b : Key} (e : nkK a = nkK b) : a = b := by
  cases a <;> cases b <;> cases e <;> rfl
theorem look_valV {W : Wd} {k : Key} {d : D} : ∀ {xs : List (Key × V)} {ds : List D}, VdA W (xs.map (·.2)) ds → lookK (xs.map fun x => nkK x.1) ds (nkK k) = some d → ∃ v, valV xs k = some v ∧ Vd W v d
  | [], _, h, e => by cases h; cases e
  | x :: xs, _, .cons h t, e => by
    rw [List.map_cons] at e
    unfold lookK at e
    by_cases c : x.1 = k
    · rw [if_pos (by rw [c])] at e; cases e
      rw [valV_pos c]
      exact ⟨_, rfl, h⟩
    · rw [if_neg (fun z => c (nkK_inj z))] at e
      rw [valV_neg c]
      exact look_valV t e
theorem valV_isSome {k : Key} : ∀ xs : List (Key × V), (valV xs k).isSome = decide (nkK k ∈ xs.map fun x => nkK x.1)
  | [] => rfl
  | x :: xs => by
    by_cases c : x.1 = k
    · rw [valV_pos c]; simp [c]
    · rw [valV_neg c, valV_isSome xs]
      have : ¬ nkK k = nkK x.1 := fun z => c (nkK_inj z).symm
      simp [this]
/-! ### subscripts -/
def fIxU (w : World) (x y : D) (q : KD) : Prop := match x with
  | .tup ds | .lst ds => (match y with
    | .int i => (match atI ds i with
      | some d => q d
      | none => False)
    | _ => False)
  | .dct w' _ ks ds => w' = w ∧ (match nkOf y with
    | some k => (match lookK ks ds k with
      | some d => q d
      | none => False)
    | none => False)
  | _ => False
def rIxA (K : PySem.W.Frag) (w : World) : R2 := fun x y H Q => rIxU K x y H Q ∨ rNIx w x y H Q ∨ rKIx x y H Q
theorem ixA {X : Cx} (K : PySem.W.Frag) (hu : room X) (hK : X.K = K := by rfl) : IxR X (rIxA K X.w) := by
  intro value slice pins s σ H x y v u Q I rx ry h he
  rcases h with h | h | h
  · exact ixU K hK value slice pins s σ H x y v u Q I rx ry h he
  · exact ix_n hu value slice pins s σ H x y v u Q I rx ry h he
  · exact ix_k (by unfold room at hu; omega) value slice pins s σ H x y v u Q I rx ry h he
theorem look_key {W : Wd} {xs : List (Key × V)} {ds : List D} {j : NestedKey} {d : D} (t : VdA W (xs.map (·.2)) ds) (e : lookK (xs.map fun x => nkK x.1) ds j = some d) : ∃ k, j = nkK k := by
  induction xs generalizing ds with
  | nil => cases t; cases e
  | cons x xs ih =>
    cases t with
    | cons h t =>
      rw [List.map_cons] at e
      unfold lookK at e
      by_cases c : nkK x.1 = j
      · exact ⟨x.1, c.symm⟩
      · rw [if_neg c] at e
        exact ih t e
theorem r_ixU {K : PySem.W.Frag} {w : World} : SimR (rIxA K w) (fIxU w) := fun W H x y dx dy Q q k hx hy h hk => by
  cases hx with
  | tup a t =>
    unfold fIxU at h
    cases dy with
    | int i =>
      dsimp only at h
      cases e : atI _ i with
      | none => rw [e] at h; exact h.elim
      | some d => rw [e] at h; exact .inl (Dt.sr_ix W H _ _ _ _ Q q k (.tup a t) hy ⟨_, _, _, .inl rfl, rfl, e, h⟩ hk)
    | _ => exact h.elim
  | lst a t =>
    unfold fIxU at h
    cases dy with
    | int i =>
      dsimp only at h
      cases e : atI _ i with
      | none => rw [e] at h; exact h.elim
      | some d => rw [e] at h; exact .inl (Dt.sr_ix W H _ _ _ _ Q q k (.lst a t) hy ⟨_, _, _, .inr rfl, rfl, e, h⟩ hk)
    | _ => exact h.elim
  | dctN a e1 t1 t2 =>
    unfold fIxU at h
    dsimp only at h
    obtain ⟨rfl, h⟩ := h
    subst e1
    cases e : nkOf dy with
    | none => rw [e] at h; exact h.elim
    | some j =>
      rw [e] at h
      dsimp only at h
      cases e2 : lookK _ _ j with
      | none => rw [e2] at h; exact h.elim
      | some d =>
        rw [e2] at h
        obtain ⟨v, l1, hv⟩ := look_lkN t2 e2
        have nj := nk_is k hy e
        have : ∃ b, y = .ref b := by
          have : ∃ b ks, j = .tup ks ∧ y = .ref b := by
            obtain ⟨x, hx, rfl⟩ := List.mem_map.mp (look_mem e2)
            have := all_keys k t1 x hx
            generalize x.1 = kk at this nj
            cases this with
            | tup h1 h2 => cases nj with | tup g1 g2 => exact ⟨_, _, rfl, rfl⟩
          obtain ⟨b, _, _, e⟩ := this
          exact ⟨b, e⟩
        obtain ⟨b, rfl⟩ := this
        exact .inr (.inl ⟨_, b, _, j, v, rfl, rfl, k.f _ _ a, all_keys k t1, nj, l1, hk W v d H (.refl k) hv h⟩)
  | dctK a e1 t =>
    unfold fIxU at h
    dsimp only at h
    obtain ⟨rfl, h⟩ := h
    subst e1
    cases e : nkOf dy with
    | none => rw [e] at h; exact h.elim
    | some j =>
      rw [e] at h
      dsimp only at h
      cases e2 : lookK _ _ j with
      | none => rw [e2] at h; exact h.elim
      | some d =>
        rw [e2] at h
        obtain ⟨kk, rfl⟩ := look_key t e2
        obtain ⟨v, l1, hv⟩ := look_valV t e2
        exact .inr (.inr ⟨_, _, kk, v, rfl, nkK_of hy e, k.f _ _ a, l1, hk W v d H (.refl k) hv h⟩)
  | vry _ => exact h.elim
  | non => exact h.elim
  | bl _ => exact h.elim
  | int _ => exact h.elim
  | str _ => exact h.elim
  | obj _ _ _ => exact h.elim
  | flow _ => exact h.elim
  | scr _ => exact h.elim
  | dict0 _ => exact h.elim
/-! ### equality -/
/-- how data told by f are compared -/
structure EqE {α : Type} [DecidableEq α] (k : Nat) (f : α → D) : Prop where
  ex : ∃ py : α → PyData, (∀ a, toPy (f a) = some (py a)) ∧ (∀ a, PyData.canLay0 (py a) = true ∧ PyData.depth (py a) ≤ k) ∧ ∀ a b, PyData.eqv (py a) (py b) = decide (a = b)
theorem EqE.int : EqE 0 (fun i : Int => D.int i) := ⟨PyData.int, fun _ => rfl, fun _ => ⟨rfl, Nat.le_refl _⟩, fun a b => Dt.eqv_int a b⟩
theorem toPyA_map {α : Type} {f : α → D} {py : α → PyData} (h : ∀ a, toPy (f a) = some (py a)) : ∀ L : List α, toPyA (L.map f) = some (L.map py)
  | [] => by rw [List.map_nil, toPyA]; rfl
  | a :: L => by rw [List.map_cons, toPyA, h a, toPyA_map h L]; rfl
theorem lay_map {α : Type} {py : α → PyData} {k : Nat} (h : ∀ a, PyData.canLay0 (py a) = true ∧ PyData.depth (py a) ≤ k) : ∀ L : List α, PyData.canLayAll0 (L.map py) = true ∧ PyData.depthAll (L.map py) ≤ k
  | [] => by rw [List.map_nil, PyData.canLayAll0, PyData.depthAll]; exact ⟨rfl, Nat.zero_le _⟩
  | a :: L => by
    obtain ⟨i, j⟩ := lay_map h L
    obtain ⟨p, q⟩ := h a
    rw [List.map_cons, PyData.canLayAll0, PyData.depthAll, i, p]
    exact ⟨rfl, by omega⟩
theorem eqv_map {α : Type} [DecidableEq α] {py : α → PyData} (h : ∀ a b, PyData.eqv (py a) (py b) = decide (a = b)) : ∀ L M : List α, PyData.eqvAll (L.map py) (M.map py) = decide (L = M)
  | [], [] => by rw [List.map_nil, PyData.eqvAll]; simp
  | [], b :: M => by rw [List.map_nil, List.map_cons, PyData.eqvAll]; simp
  | a :: L, [] => by rw [List.map_nil, List.map_cons, PyData.eqvAll]; simp
  | a :: L, b :: M => by
    rw [List.map_cons, List.map_cons, PyData.eqvAll, h a b, eqv_map h L M]
    by_cases c : a = b <;> by_cases c2 : L = M <;> simp [c, c2]
theorem EqE.tup {α : Type} [DecidableEq α] {k : Nat} {f : α → D} (h : EqE k f) : EqE (k + 1) (fun L : List α => D.tup (L.map f)) := by
  obtain ⟨py, h1, h2, h3⟩ := h.ex
  refine ⟨fun L => .tuple (L.map py), fun L => by rw [toPy, toPyA_map h1], fun L => ?_, fun L M => by rw [PyData.eqv, eqv_map h3]⟩
  obtain ⟨i, j⟩ := lay_map h2 L
  rw [PyData.canLay0, PyData.depth]
  exact ⟨i, by omega⟩
theorem EqE.lst {α : Type} [DecidableEq α] {k : Nat} {f : α → D} (h : EqE k f) : EqE (k + 1) (fun L : List α => D.lst (L.map f)) := by
  obtain ⟨py, h1, h2, h3⟩ := h.ex
  refine ⟨fun L => .list (L.map py), fun L => by rw [toPy, toPyA_map h1], fun L => ?_, fun L M => by rw [PyData.eqv, eqv_map h3]⟩
  obtain ⟨i, j⟩ := lay_map h2 L
  rw [PyData.canLay0, PyData.depth]
  exact ⟨i, by omega⟩
theorem EqE.pair : EqE 1 Dt.pairD := by
  refine ⟨fun p => .tuple [.int p.1, .int p.2], fun _ => rfl, fun p => ⟨rfl, Nat.le_refl _⟩, fun p q => ?_⟩
  rw [PyData.eqv, PyData.eqvAll, PyData.eqvAll, PyData.eqvAll, Dt.eqv_int, Dt.eqv_int]
  by_cases c : p.1 = q.1 <;> by_cases c2 : p.2 = q.2 <;> simp [c, c2, Prod.ext_iff]
theorem EqE.ld : EqE 2 Dt.ldD := EqE.pair.tup
theorem EqE.st : EqE 3 Dt.stD := EqE.ld.tup
section
variable {α : Type} [DecidableEq α] {k : Nat} {f : α → D} {a b : α} {q : KD} {L : List α}
theorem shaped_of {p : PyData} (h1 : PyData.canLay0 p = true) (h2 : PyData.depth p ≤ 64) : SeqAt.shaped p = true := by
  show (PyData.canLay0 p && decide (PyData.depth p ≤ 64)) = true
  rw [h1, decide_eq_true h2]
  rfl
theorem EqE.eq (h : EqE k f) (hk : k ≤ 60 := by decide) (hq : q (.bl (decide (a = b)))) : fEq false (f a) (f b) q := by
  obtain ⟨py, h1, h2, h3⟩ := h.ex
  refine ⟨py a, py b, h1 a, h1 b, shaped_of (h2 a).1 (by have := (h2 a).2; omega), shaped_of (h2 b).1 (by have := (h2 b).2; omega), ?_⟩
  rw [h3]
  exact hq
theorem EqE.ne (h : EqE k f) (hk : k ≤ 60 := by decide) (hq : q (.bl (!decide (a = b)))) : fEq true (f a) (f b) q := by
  obtain ⟨py, h1, h2, h3⟩ := h.ex
  refine ⟨py a, py b, h1 a, h1 b, shaped_of (h2 a).1 (by have := (h2 a).2; omega), shaped_of (h2 b).1 (by have := (h2 b).2; omega), ?_⟩
  rw [h3]
  exact hq
theorem any_map {py : α → PyData} (h3 : ∀ a b, PyData.eqv (py a) (py b) = decide (a = b)) : ∀ L : List α, (L.map py).any (fun z => PyData.eqv z (py a)) = decide (a ∈ L)
  | [] => rfl
  | b :: L => by
    rw [List.map_cons, List.any_cons, h3, any_map h3 L]
    by_cases c : b = a
    · simp [c]
    · have c2 : ¬ a = b := fun z => c z.symm
      simp [c, c2]
theorem EqE.isin (h : EqE k f) (hk : k ≤ 60 := by decide) {y : D} (hy : y = .lst (L.map f) ∨ y = .tup (L.map f)) (hq : q (.bl (decide (a ∈ L)))) : fIn false (f a) y q := by
  obtain ⟨py, h1, h2, h3⟩ := h.ex
  obtain ⟨l1, l2⟩ := lay_map h2 L
  refine ⟨py a, L.map f, L.map py, h1 a, hy.elim .inr .inl, toPyA_map h1 L, shaped_of (h2 a).1 (by have := (h2 a).2; omega), shaped_of (by rw [PyData.canLay0]; exact l1) (by rw [PyData.depth]; omega), ?_⟩
  rw [any_map h3]
  exact hq
theorem EqE.notin (h : EqE k f) (hk : k ≤ 60 := by decide) {y : D} (hy : y = .lst (L.map f) ∨ y = .tup (L.map f)) (hq : q (.bl (!decide (a ∈ L)))) : fIn true (f a) y q := by
  obtain ⟨py, h1, h2, h3⟩ := h.ex
  obtain ⟨l1, l2⟩ := lay_map h2 L
  refine ⟨py a, L.map f, L.map py, h1 a, hy.elim .inr .inl, toPyA_map h1 L, shaped_of (h2 a).1 (by have := (h2 a).2; omega), shaped_of (by rw [PyData.canLay0]; exact l1) (by rw [PyData.depth]; omega), ?_⟩
  rw [any_map h3]
  exact hq
end
/-- a == b: whole numbers and None computed, the rest by what is told of it -/
def fEqU (neg : Bool) (x y : D) (q : KD) : Prop := match x, y with
  | .int a, .int b => q (.bl (if neg then !decide (a = b) else decide (a = b)))
  | .str a, .str b => SeqAt.shaped (.str a) = true ∧ SeqAt.shaped (.str b) = true ∧ q (.bl (if neg then !decide (a = b) else decide (a = b)))
  | .non, .non => q (.bl (if neg then false else true))
  | .non, .int _ | .int _, .non => q (.bl (if neg then true else false))
  | x, y => fEq neg x y q
theorem eqv_str (a b : Str) : PyData.eqv (.str a) (.str b) = decide (a = b) := by
  rw [PyData.eqv]
  by_cases h : a = b
  · simp [h]
  · simp [h]
theorem fEqU_of {neg : Bool} {x y : D} {q : KD} (h : fEqU neg x y q) : fEq neg x y q := by
  unfold fEqU at h
  split at h
  · refine ⟨_, _, rfl, rfl, rfl, rfl, ?_⟩
    rw [Dt.eqv_int]; exact h
  · refine ⟨_, _, rfl, rfl, h.1, h.2.1, ?_⟩
    rw [eqv_str]
    exact h.2.2
  · exact ⟨_, _, rfl, rfl, rfl, rfl, h⟩
  · exact ⟨_, _, rfl, rfl, rfl, rfl, h⟩
  · exact ⟨_, _, rfl, rfl, rfl, rfl, h⟩
  · exact h
theorem r_eqU {K : PySem.W.Frag} : SimR (rEqD K) (fEqU false) := fun W H x y dx dy Q q k hx hy h hk => Dt.sr_eq W H x y dx dy Q q k hx hy (fEqU_of h) hk
theorem r_neU {K : PySem.W.Frag} : SimR (rNeD K) (fEqU true) := fun W H x y dx dy Q q k hx hy h hk => Dt.sr_ne W H x y dx dy Q q k hx hy (fEqU_of h) hk
end Et
set_option Elab.async false
set_option linter.all false
set_option maxRecDepth 100000
set_option maxHeartbeats 4000000
/-! The very same object: arguments of any kind; == of tuples that share it; signs in a text. -/
namespace Dt
open PySem PySem.Spec PyProof.Rows L2 Com Gn StV Sd Ext
/-- the data of an object told as itself -/
def er1 : D → D
  | .vry _ d => d
  | d => d
theorem vd_er {W : Wd} {v : V} {d : D} (h : Vd W v d) : Vd W v (er1 d) := by
  cases d with
  | vry u d => cases h with | vry h => exact h
  | _ => exact h
theorem vda_er {W : Wd} : ∀ {vs : List V} {ds : List D}, VdA W vs ds → VdA W vs (ds.map er1)
  | _, _, .nil => .nil
  | _, _, .cons h t => .cons (vd_er h) (vda_er t)
theorem same_vd {W : Wd} : ∀ {v : V} {d : D}, Vd W v d → sameOk v = true
  | _, _, .non => rfl
  | _, _, .bl _ => rfl
  | _, _, .int _ => rfl
  | _, _, .str _ => rfl
  | _, _, .tup _ _ => rfl
  | _, _, .lst _ _ => rfl
  | _, _, .obj _ _ _ => rfl
  | _, _, .flow _ => rfl
  | _, _, .scr _ => rfl
  | _, _, .dict0 _ => rfl
  | _, _, .dctN _ _ _ _ => rfl
  | _, _, .dctK _ _ _ => rfl
  | _, _, .vry h => same_vd h
section
variable {E : XK} {K : PySem.W.Frag} {te : TE} {me : ME} {ta : TA} {ma : MA} {ts : TS} {ms : MS} {n : Nat} {sp : SpD}
theorem si_isiE {c : V} {u : Value} (hc : ClsV c u) (ha : SimE E te me) : SimE E (tCB (rIsi K) (tCons te (tCons (tC c) tNil))) (fun ρ q e => me ρ (fun x => fIsi K u (er1 x) q) e) := fun W H0 H σ ρ Q q e R h k kx =>
  ha W H0 H σ ρ _ _ e R h (fun W1 v d H1 g1 hv h1 => by
    obtain ⟨c1, b, e1, h1⟩ := h1
    exact ⟨v, c, tyD (er1 d), u, b, rfl, hc, tyx_of g1.ok (vd_er hv) c1, e1, k W1 _ _ H1 g1 (.bl b) h1⟩) kx
theorem si_defE (ha : SimA E n ta ma) : SimE E (tDef (spOf sp) E ta) (fun ρ q e => ma ρ (fun ds => sp (ds.map er1) q e) e) := fun W H0 H σ ρ Q q e R h k kx =>
  ha W H0 H σ ρ _ _ e R h (fun W1 xs ds H1 g1 hx hl1 h1 => ⟨W1, ds.map er1, q, e, g1.ok, vda_er hx, h1, k.go R.ok g1, kx.go R.ok g1⟩) kx
theorem set_same {σ : L2.St} {i : Nat} {v : V} (h : σ[i]? = some (some v)) : σ.set i (some v) = σ := by
  refine List.ext_getElem? fun j => ?_
  by_cases e : i = j
  · subst e
    rw [List.getElem?_set_self (List.getElem?_eq_some_iff.mp h).1, h]
  · rw [List.getElem?_set_ne e]
/-- from here on: the very object -/
abbrev msVry (i : Nat) (m : MS) : MS := fun D ρ e => ∃ d, ρ[i]? = some (some (.d d)) ∧ ∀ v, m D (ρ.set i (some (.d (.vry v d)))) e
theorem ss_vry {i : Nat} (h : SimS E ts ms) : SimS E ts (msVry i ms) := fun W0 H0 W H σ ρ D d e k0 g R hm c kx => by
  obtain ⟨x, h1, hm⟩ := hm
  obtain ⟨v, e1, hv⟩ := R.var h1
  have R2 := R.set (i := i) (Vd.vry hv)
  rw [set_same e1] at R2
  exact h W0 H0 W H σ _ D d e k0 g R2 (hm v) c kx
/-- tuples of a text and the very same object -/
def fSame (neg : Bool) (x y : D) (q : KD) : Prop := ∃ s v d, x = .tup [.str s, .vry v d] ∧ y = .tup [.str s, .vry v d] ∧ q (.bl (!neg))
theorem vd_same {W : Wd} {H : Hp} {x : V} {s : Str} {v : V} {d : D} (k : Ok W H) (h : Vd W x (.tup [.str s, .vry v d])) : ∃ a, x = .ref a ∧ SqT K H a [.str s, v] ∧ sameOk v = true := by
  obtain ⟨a, vs, rfl, f, hh, t⟩ := tup_of k h rfl
  obtain ⟨u1, u2, rfl, h1, h2⟩ := two_of t
  cases h1
  cases h2 with
  | vry h2 => exact ⟨a, rfl, SqT.of hh, same_vd h2⟩
theorem all_same {s : Str} {v : V} (h : sameOk v = true) : ([V.str s, v]).all sameOk = true := by
  show (sameOk (.str s) && (sameOk v && true)) = true
  rw [h]
  rfl
theorem sr_neV : SimR (rNeO K) (fun x y q => fEq true x y q ∨ fSame true x y q) := fun W H x y dx dy Q q k hx hy h hk => by
  rcases h with h | ⟨s, v, d, rfl, rfl, h⟩
  · exact .inl (sr_ne W H x y dx dy Q q k hx hy h hk)
  · obtain ⟨a, rfl, h1, h3⟩ := vd_same (K := K) k hx
    obtain ⟨b, rfl, h2, _⟩ := vd_same (K := K) k hy
    exact .inr ⟨a, b, _, rfl, rfl, h1, h2, all_same h3, hk W _ _ H (.refl k) (.bl _) h⟩
/-- x not in a text -/
def rNotInS : R2 := fun x y H Q => ∃ i j, x = .str i ∧ y = .str j ∧ Q (.bl (!(!(Builtin.Str.occurrences j i 0 j.length 1).isEmpty))) H
theorem op_notInS {X : Cx} : OpR X (compareOp .NotIn) rNotInS := op_notIn_str
/-- one sign in a text -/
def fNotInS (x y : D) (q : KD) : Prop := ∃ (c : Nat) (j : Str), x = .str ⟨#[c]⟩ ∧ y = .str j ∧ q (.bl (!decide (c ∈ j.cps.toList)))
theorem sr_notInS : SimR rNotInS fNotInS := fun W H x y dx dy Q q k hx hy h hk => by
  obtain ⟨c, j, rfl, rfl, h⟩ := h
  cases hx
  cases hy
  refine ⟨_, j, rfl, rfl, ?_⟩
  rw [StrLaws.found_one]
  exact hk W _ _ H (.refl k) (.bl _) h
/-- one sign of a text -/
theorem go_sign {z : Str} {i : Nat} {c : Nat} {q : KD} (hz : z.length ≤ 1000) (e : z.cps.toList[i]? = some c) (h : q (.str ⟨#[c]⟩)) : fIxS (.str z) (.int (i : Int)) q := ⟨z, _, c, rfl, rfl, Nat.le_trans hz (by decide), atI_of e, h⟩
end
end Dt
set_option Elab.async false
set_option linter.all false
set_option maxRecDepth 100000
set_option maxHeartbeats 4000000
namespace K39o
open PySem PySem.Spec PyProof.Rows L2 Com Sd StV Gn Ext
def top (i : Nat) : Stmt := PySem.Challenge.pw_callsthrough_k39_standing_texts.main.body.getD i (.Pass ⟨0, 0, 0, 0⟩)
/-- the module's names that are built-ins, its constants -/
structure Blt (mg : Str → Option Value) : Prop where
  z_len : mg "len" = none
  z_abs : mg "abs" = none
  z_int : mg "int" = none
  z_bool : mg "bool" = none
  z_tuple : mg "tuple" = none
  z_list : mg "list" = none
  z_isinstance : mg "isinstance" = none
  z_all : mg "all" = none
  z_range : mg "range" = none
  z_set : mg "set" = none
  z_sorted : mg "sorted" = none
  z_min : mg "min" = none
  z_max : mg "max" = none
  z_enumerate : mg "enumerate" = none
  c_MOST_SWITCHES : ∃ t, mg "MOST_SWITCHES" = some (.int 4 t)
  c_MOST_DOORS : ∃ t, mg "MOST_DOORS" = some (.int 4 t)
  c_MOST_MIDDLES : ∃ t, mg "MOST_MIDDLES" = some (.int 7 t)
  g_gcd : mg "gcd" = some (.builtin "math.gcd")
local macro_rules | `(tactic| walk_at "rd1") => `(tactic| (first
  | refine ⟨_, rfl, ?_⟩
  | refine ⟨_, _, rfl, rfl, ?_⟩
  | refine ⟨.inl ⟨by decide, by decide⟩, ?_⟩
  | refine ⟨.inr ⟨by decide, by decide⟩, ?_⟩
  | refine ⟨(by decide : (0 : Int) < _), ?_⟩
  | refine ⟨⟨by decide, by decide⟩, ?_⟩
  | refine ⟨⟨by decide, by decide, by decide⟩, ?_⟩
  | refine ⟨rfl, ?_⟩
  | refine .inl ⟨_, rfl, ?_⟩
  | refine .inr ⟨_, rfl, ?_⟩
  | refine ⟨_, _, _, _, rfl, rfl, SqL.of upd_same, rfl, ?_⟩
  | refine ⟨_, _, _, _, rfl, rfl, upd_same, rfl, ?_⟩
  | refine ⟨mulm (by decide) (by decide), ?_⟩
  | refine ⟨_, _, _, _, rfl, rfl, SqL.of (by assumption), rfl, ?_⟩
  | refine ⟨_, _, _, _, rfl, rfl, (by assumption), rfl, ?_⟩))
local macro_rules | `(tactic| walk_at "rd") => `(tactic| repeat (walk_at "rd1"))
section
variable {P : Program} {w : World} {K : PySem.W.Frag} {mg : Str → Option Value} {base : Heap}
abbrev s_flow : Stmt := top 41
abbrev N_flow : List Str := ["_law_script", "_law_k", "_law_cell", "_law_number"]
theorem sc_flow : FnScope N_flow ["_law_script", "_law_k"] (defScope s_flow) := ⟨rfl, rfl, rfl, by decide +kernel, rfl, by decide +kernel, by decide +kernel⟩
theorem ok_flow (T : Blt mg) (D : DefAt K mg "_law_flow" s_flow ["_law_script", "_law_k"]) : DefOk P w K mg base CX0 1 "_law_flow" (spFlow K) := by
  refine D.ok sc_flow (fun vs H Q E h => ?_) (fun f cdv A outer s H vs Q E hr h => ?_)
  · obtain ⟨a, ns, k, rfl, _⟩ := h
    rfl
  obtain ⟨a, ns, k, rfl, hS, hl, hk, q⟩ := h
  refine ⟨_, (pss_cons (ps_set (i := 2) sc_flow.nd rfl (Or.inl rfl) pe_int)
  (pss_cons (ps_if (pt_cmpR op_lt (pv 1) (pe_callB (cl_len K) (by rfl) T.z_len (by decide +kernel) (pa_cons (pv 0) pa_nil)) (nomark _))
    (pss_one (ps_set (i := 2) sc_flow.nd rfl (Or.inl rfl) (pe_ix (ixL K) (pv 0) (pv 1) (fun _ _ => rfl))))
    pss_nil)
  (pss_cons (ps_set (i := 3) sc_flow.nd rfl (Or.inl rfl) (pe_op op_add (pe_op op_mul pe_int (pe_callB call_abs (by rfl) T.z_abs (by decide +kernel) (pa_cons (pv 2) pa_nil))) (pe_callTy call_int1 (by rfl) T.z_int (by decide +kernel) (pa_cons (pe_cmpR op_lt (pv 2) pe_int (nomark _)) pa_nil))))
  (pss_cons (ps_if (pt_cmpR op_ge (pv 3) (pe_op op_pow pe_int pe_int) (nomark _))
    (pss_one (ps_ret (pe_lst (pa_cons (pv 3) (pa_cons pe_int (pa_cons (pe_op op_mod (pe_callTy call_int1 (by rfl) T.z_int (by decide +kernel) (pa_cons (pv 3) pa_nil)) pe_int) pa_nil))))))
    pss_nil)
  (pss_one (ps_ret (pe_lst (pa_cons pe_int (pa_cons pe_int (pa_cons (pe_op op_mod (pe_callTy call_int1 (by rfl) T.z_int (by decide +kernel) (pa_cons (pe_op op_add (pe_op op_add (pv 3) (pe_op op_mul pe_int (pv 1))) pe_int) pa_nil)) pe_int) pa_nil)))))))))), ?_⟩
  refine ⟨_, rfl, _, rfl, a, _, rfl, .inl hS, _, _, rfl, rfl, _, rfl, ?_⟩
  refine ifB (fun c => ?_) (fun c => ?_)
  · have hk' : k < ns.length := by
      have c' := of_decide_eq_true c
      rw [List.length_map] at c'
      omega
    refine ⟨_, rfl, _, rfl, a, _, _, _, rfl, rfl, hS, atI_nat (j := k) (v := V.int ns[k]) (by rw [List.getElem?_map, List.getElem?_eq_getElem hk']; rfl), ?_⟩
    walk_at "rd"
    refine ifB (fun _ => ?_) (fun _ => ?_) <;> walk_at "rd" <;> exact ⟨by show 3 ≤ sizeLine; decide, fun p hp => q p _ hp .new .upd⟩
  · walk_at "rd"
    exact ⟨by show 3 ≤ sizeLine; decide, fun p hp => q p _ hp .new .upd⟩
abbrev s_pick : Stmt := top 42
abbrev N_pick : List Str := ["_law_flow_here", "_law_size", "_law_digit", "_law_number"]
theorem sc_pick : FnScope N_pick ["_law_flow_here", "_law_size"] (defScope s_pick) := ⟨rfl, rfl, rfl, by decide +kernel, rfl, by decide +kernel, by decide +kernel⟩
theorem ok_pick (T : Blt mg) (D : DefAt K mg "_law_pick" s_pick ["_law_flow_here", "_law_size"]) : DefOk P w K mg base CX0 1 "_law_pick" spPick := by
  refine D.ok sc_pick (fun vs H Q E h => ?_) (fun f cdv A outer s H vs Q E hr h => ?_)
  · obtain ⟨a, size, rfl, _⟩ := h
    rfl
  obtain ⟨a, size, rfl, ⟨n, c, r, h0⟩, s1, s2, q⟩ := h
  refine ⟨_, (pss_cons (ps_if (PW.pt (pw_and (pt_cmpR op_ge (pe_ix (ixL K) (pv 0) pe_int (fun _ _ => rfl)) (pv 1) (nomark _)) (pw_and1 (pt_cmpR op_gt (pe_ix (ixL K) (pv 0) pe_int (fun _ _ => rfl)) pe_int (nomark _)))))
    (pss_cons (ps_set (i := 2) sc_pick.nd rfl (Or.inl rfl) (pe_op op_mod (pe_callTy call_int1 (by rfl) T.z_int (by decide +kernel) (pa_cons (pe_ix (ixL K) (pv 0) pe_int (fun _ _ => rfl)) pa_nil)) (pv 1)))
    (pss_cons (ps_asg (pe_op op_fdivW (pe_ix (ixL K) (pv 0) pe_int (fun _ _ => rfl)) (pv 1)) (pg_sub (pv 0) pe_int set_list))
    (pss_one (ps_ret (pv 2)))))
    pss_nil)
  (pss_cons (ps_augS (pv 0) pe_int (getL K) pe_int ip_add set_list)
  (pss_cons (ps_set (i := 3) sc_pick.nd rfl (Or.inl rfl) (pe_op op_mod (pe_callTy call_int1 (by rfl) T.z_int (by decide +kernel) (pa_cons (pe_op op_mul (pe_op op_add (pe_op op_add (pe_ix (ixL K) (pv 0) pe_int (fun _ _ => rfl)) (pe_op op_mul pe_int (pe_ix (ixL K) (pv 0) pe_int (fun _ _ => rfl)))) pe_int) pe_int) pa_nil)) pe_int))
  (pss_cons (ps_set (i := 3) sc_pick.nd rfl (Or.inl rfl) (pe_op op_mod (pe_callTy call_int1 (by rfl) T.z_int (by decide +kernel) (pa_cons (pe_op op_mul (pv 3) (pe_op op_add (pe_op op_fdiv (pv 3) pe_int) pe_int)) pa_nil)) pe_int))
  (pss_cons (ps_set (i := 3) sc_pick.nd rfl (Or.inl rfl) (pe_op op_mod (pe_callTy call_int1 (by rfl) T.z_int (by decide +kernel) (pa_cons (pe_op op_mul (pv 3) (pe_op op_add (pe_op op_fdiv (pv 3) pe_int) pe_int)) pa_nil)) pe_int))
  (pss_one (ps_ret (pe_op op_mod (pe_op op_fdiv (pv 3) pe_int) (pv 1))))))))), ?_⟩
  walk_at "rd"
  refine ifB (fun c1 => ?_) (fun c1 => ?_)
  · walk_at "rd"
    refine ifB (fun c2 => ?_) (fun c2 => ?_)
    · walk_at "rd"
      refine ⟨(by show 0 < size; omega), ?_⟩
      walk_at "rd"
      refine ⟨divW s1 s2, ?_⟩
      walk_at "rd"
      exact q _ _ (Int.emod_nonneg _ (by omega)) (Int.emod_lt_of_pos _ (by omega)) .new .upd
    · walk_at "rd"
      refine ⟨(by show 0 < size; omega), ?_⟩
      exact q _ _ (Int.emod_nonneg _ (by omega)) (Int.emod_lt_of_pos _ (by omega)) .new .upd
  · walk_at "rd"
    refine ⟨(by show 0 < size; omega), ?_⟩
    exact q _ _ (Int.emod_nonneg _ (by omega)) (Int.emod_lt_of_pos _ (by omega)) .new .upd
end
section
variable {P : Program} {w : World} {K : PySem.W.Frag} {mg : Str → Option Value} {base : Heap}
abbrev s_is_plain_int : Stmt := top 9
abbrev N_is_plain_int : List Str := ["value"]
theorem sc_is_plain_int : FnScope N_is_plain_int ["value"] (defScope s_is_plain_int) := ⟨rfl, rfl, rfl, by decide +kernel, rfl, by decide +kernel, by decide +kernel⟩
theorem ok_is_plain_int (T : Blt mg) (D : DefAt K mg "is_plain_int" s_is_plain_int ["value"]) : DefOk P w K mg base CX0 1 "is_plain_int" (spPlain K) := by
  refine D.ok sc_is_plain_int (fun vs H Q E h => ?_) (fun f cdv A outer s H vs Q E hr h => ?_)
  · obtain ⟨x, b, rfl, _⟩ := h
    rfl
  obtain ⟨x, b, rfl, ⟨t, b1, ty, k1, kF, kT⟩, q⟩ := h
  refine ⟨_, (pss_one (ps_ret (pe_and (pe_callB (cl_isi K) (by rfl) T.z_isinstance (by decide +kernel) (pa_cons (pv 0) (pa_cons (pe_bltn (v := .ty "int") (by rfl) T.z_int (by decide +kernel) rfl) pa_nil))) (pe_one (pe_not (pe_callB (cl_isi K) (by rfl) T.z_isinstance (by decide +kernel) (pa_cons (pv 0) (pa_cons (pe_bltn (v := .ty "bool") (by rfl) T.z_bool (by decide +kernel) rfl) pa_nil)))))))), ?_⟩
  refine ⟨_, rfl, x, _, t, _, b1, rfl, .ty "int", ty, k1, _, rfl, ?_⟩
  refine ifB (fun c => ?_) (fun c => ?_)
  · obtain ⟨b2, k2, rfl⟩ := kT c
    exact ⟨_, rfl, x, _, t, _, b2, rfl, .ty "bool", ty, k2, _, rfl, q⟩
  · rw [kF c] at q
    exact q
end
section
variable {P : Program} {w : World} {K : PySem.W.Frag} {mg : Str → Option Value} {base : Heap}
abbrev s_is_int_within : Stmt := top 10
abbrev N_is_int_within : List Str := ["value", "low", "high"]
theorem sc_is_int_within : FnScope N_is_int_within ["value", "low", "high"] (defScope s_is_int_within) := ⟨rfl, rfl, rfl, by decide +kernel, rfl, by decide +kernel, by decide +kernel⟩
theorem ok_is_int_within (T : Blt mg) (D_is_plain_int : DefOk P w K mg base CX0 1 "is_plain_int" (spPlain K)) (D : DefAt K mg "is_int_within" s_is_int_within ["value", "low", "high"]) : DefOk P w K mg base CX0 2 "is_int_within" (spWithin K) := by
  refine D.ok sc_is_int_within (fun vs H Q E h => ?_) (fun f cdv A outer s H vs Q E hr h => ?_)
  · obtain ⟨x, lo, hi, b, rfl, _⟩ := h
    rfl
  obtain ⟨x, lo, hi, b, rfl, hx, q⟩ := h
  refine ⟨_, (pss_one (ps_ret (pe_and (pe_def D_is_plain_int hr (by decide) pass0 (pa_cons (pv 0) pa_nil)) (pe_one (pe_chain op_le op_le (pv 1) (pv 0) (pv 2)))))), ?_⟩
  rcases hx with ⟨i, rfl, rfl⟩ | ⟨hp, rfl⟩
  · refine ⟨_, rfl, _, true, rfl, PlainI.int i, _, rfl, iteT ?_⟩
    walk_at "rd"
    refine ifB (fun c => ?_) (fun c => ?_)
    · walk_at "rd"
      rw [c] at q
      exact q
    · rw [c] at q
      exact q
  · refine ⟨_, rfl, _, false, rfl, hp, _, rfl, iteF ?_⟩
    exact q
end
section
variable {P : Program} {w : World} {K : PySem.W.Frag} {mg : Str → Option Value} {base : Heap}
abbrev s_is_side : Stmt := top 18
abbrev N_is_side : List Str := ["value", "doors"]
theorem sc_is_side : FnScope N_is_side ["value"] (defScope s_is_side) := ⟨rfl, rfl, rfl, by decide +kernel, rfl, by decide +kernel, by decide +kernel⟩
theorem ok_is_side (T : Blt mg) (D_is_int_within : DefOk P w K mg base CX0 2 "is_int_within" (spWithin K)) (D : DefAt K mg "_is_side" s_is_side ["value"]) : DefOk P w K mg base CX0 3 "_is_side" (spSide K) := by
  refine D.ok sc_is_side (fun vs H Q E h => ?_) (fun f cdv A outer s H vs Q E hr h => ?_)
  · obtain ⟨x, b, rfl, _⟩ := h
    rfl
  obtain ⟨x, b, rfl, hx, q⟩ := h
  obtain ⟨t1, c_MOST_SWITCHES⟩ := T.c_MOST_SWITCHES
  obtain ⟨t2, c_MOST_DOORS⟩ := T.c_MOST_DOORS
  refine ⟨_, (pss_cons (ps_if (PW.pt (pw_or (pt_not (pt_val (pe_callB (cl_isi K) (by rfl) T.z_isinstance (by decide +kernel) (pa_cons (pv 0) (pa_cons (pe_bltn (v := .ty "tuple") (by rfl) T.z_tuple (by decide +kernel) rfl) pa_nil))))) (pw_or1 (pt_not (pt_chain op_le op_le pe_int (pe_callB (cl_len K) (by rfl) T.z_len (by decide +kernel) (pa_cons (pv 0) pa_nil)) (pe_gint (by rfl) c_MOST_SWITCHES))))))
    (pss_one (ps_ret pe_bl))
    pss_nil)
  (pss_one (ps_ret (pe_callB (cl_all K) (by rfl) T.z_all (by decide +kernel) (pa_cons (pe_lc (own := [("doors", 1)]) (g := gName 1) (tt := tYes) rfl sc_is_side.nd (piT K (pv 0)) (blkOk_by (N := N_is_side) (sc := defScope s_is_side) (by decide +kernel)) (fun _ _ _ _ _ => (pg_name (i := 1) sc_is_side.nd rfl (Or.inl rfl))) (fun _ _ _ _ _ => pts_nil) (fun _ _ _ _ _ => (pe_def D_is_int_within hr (by decide) pass0 (pa_cons (pv 1) (pa_cons pe_int (pa_cons (pe_gint (by rfl) c_MOST_DOORS) pa_nil)))))) pa_nil))))), ?_⟩
  rcases hx with ⟨a, xs, bs, rfl, hxs, hl, hin, rfl⟩ | ⟨t, ty, k1, rfl⟩
  · refine ⟨_, rfl, _, _, .type "tuple", _, true, rfl, .ty "tuple", .base (.tup hxs), kit_ty (by decide +kernel), _, rfl, iteF ?_⟩
    walk_at "rd"
    refine ⟨a, xs, rfl, .inr (SqT.of hxs), ?_⟩
    walk_at "rd"
    refine ifB (fun c1 => ?_) (fun c1 => ?_)
    · walk_at "rd"
      have c1' := of_decide_eq_true c1
      by_cases c2 : xs.length ≤ 4
      · rw [show decide ((xs.length : Int) ≤ 4) = true from decide_eq_true (by omega)]
        refine iteF ?_
        refine ⟨_, rfl, a, rfl, ⟨_, SqT.of hxs⟩, fun D hD => lp_tup (K := K) (xs := xs) (fun i H' => H' D = some (.lst ((bs.take i).map V.bl)) ∧ But D H H')
          ⟨upd_same, .upd⟩ (fun i H' _ p => SqT.of (by rw [p.2 a (ne_of_none hxs hD)]; exact hxs)) ?_ ?_⟩
        · rintro i v H' hi ⟨h1, h2⟩
          have hib : i < bs.length := by rw [hl]; exact (List.getElem?_eq_some_iff.mp hi).1
          refine ⟨rfl, ?_⟩
          refine ⟨_, rfl, v, 1, 4, bs[i], rfl, (hin i v _ hi (List.getElem?_eq_getElem hib)).same (h2.same hD), _, h1, ?_, ?_⟩
          · rw [List.length_map, List.length_take]
            exact small1000 (by omega)
          · refine ⟨?_, fun b hb => ?_⟩
            · show upd H' D _ D = _
              rw [upd_same, List.take_add_one, List.map_append, List.getElem?_eq_getElem hib]
              rfl
            · rw [upd_ne hb]
              exact h2 b hb
        · rintro H' ⟨h1, h2⟩
          refine ⟨D, bs, rfl, SqL.of (by rw [h1, List.take_of_length_le (by omega)]), ?_⟩
          have := q H' (h2.same hD)
          rw [decide_eq_true (by omega : 1 ≤ xs.length), decide_eq_true c2] at this
          exact this
      · rw [show decide ((xs.length : Int) ≤ 4) = false from decide_eq_false (by omega)]
        refine iteT ?_
        have := q H (Same.refl H)
        rw [decide_eq_false c2, Bool.and_false, Bool.false_and] at this
        exact this
    · have c1' := of_decide_eq_false c1
      have := q H (Same.refl H)
      rw [decide_eq_false (by omega : ¬ 1 ≤ xs.length), Bool.false_and, Bool.false_and] at this
      exact ⟨_, rfl, this⟩
  · refine ⟨_, rfl, x, _, t, _, false, rfl, .ty "tuple", ty, k1, _, rfl, iteT ?_⟩
    exact q H (Same.refl H)
end
section
variable {P : Program} {w : World} {K : PySem.W.Frag} {mg : Str → Option Value} {base : Heap} {C : Addr}
abbrev s_Exchange___init : Stmt := inClass (top 19) 0
abbrev N_Exchange___init : List Str := ["self", "ins", "outs", "middles"]
theorem sc_Exchange___init : FnScope N_Exchange___init ["self", "ins", "outs", "middles"] (defScope s_Exchange___init) := ⟨rfl, rfl, rfl, by decide +kernel, rfl, by decide +kernel, by decide +kernel⟩
theorem ok_init (T : Blt mg) (X : ExT K mg C) (D_is_side : DefOk P w K mg base CX0 3 "_is_side" (spSide K)) (D_is_int_within : DefOk P w K mg base CX0 2 "is_int_within" (spWithin K))
    (D : MethAt K C "__init__" "Exchange.__init__" s_Exchange___init ["self", "ins", "outs", "middles"]) : MethOk P w K mg base CX0 4 C "__init__" (spInit C) := by
  refine D.fn sc_Exchange___init (fun vs H Q E h => ?_) (fun f cdv A outer s H vs Q E hr h => ?_)
  · obtain ⟨p, dx, i, o, ds, es, m, rfl, _⟩ := h
    rfl
  obtain ⟨p, dx, i, o, ds, es, m, rfl, hp, hi, gi, ho, go, m1, m2, q⟩ := h
  obtain ⟨t1, c_MOST_MIDDLES⟩ := T.c_MOST_MIDDLES
  refine ⟨_, (pss_cons (ps_if (pt_not (pt_val (pe_def D_is_side hr (by decide) pass0 (pa_cons (pv 1) pa_nil))))
    (pss_one ps_never)
    pss_nil)
  (pss_cons (ps_if (pt_not (pt_val (pe_def D_is_side hr (by decide) pass0 (pa_cons (pv 2) pa_nil))))
    (pss_one ps_never)
    pss_nil)
  (pss_cons (ps_if (pt_not (pt_val (pe_def D_is_int_within hr (by decide) pass0 (pa_cons (pv 3) (pa_cons pe_int (pa_cons (pe_gint (by rfl) c_MOST_MIDDLES) pa_nil))))))
    (pss_one ps_never)
    pss_nil)
  (pss_cons (ps_fldK K (pv 0) (pv 1))
  (pss_cons (ps_fldK K (pv 0) (pv 2))
  (pss_one (ps_fldK K (pv 0) (pv 3)))))))), ?_⟩
  refine ⟨_, rfl, _, true, rfl, gi.side hi, fun H1 s1 => ⟨_, rfl, ?_⟩⟩
  refine ⟨_, rfl, _, true, rfl, go.side (Same.tup s1 ho), fun H2 s2 => ⟨_, rfl, ?_⟩⟩
  refine ⟨_, rfl, _, _, _, true, rfl, InR.good m1 m2, _, rfl, ?_⟩
  have hp2 : H2 p = some (.ins C dx []) := s2 _ _ (s1 _ _ hp)
  refine ⟨_, rfl, _, rfl, p, C, dx, [], rfl, hp2, X.cl, X.nI, (by show 0 < 1000; decide), ?_⟩
  refine ⟨_, rfl, _, rfl, p, C, dx, _, rfl, upd_same, X.cl, X.nO, (by rw [putF_nil]; show 1 < 1000; decide), ?_⟩
  refine ⟨_, rfl, _, rfl, p, C, dx, _, rfl, upd_same, X.cl, X.nM, (by rw [putF_nil, putF_ne no1, putF_nil]; show 2 < 1000; decide), ?_⟩
  refine q _ ⟨dx, by rw [upd_same, exF_put]⟩ fun b u hb ne => ?_
  rw [upd_ne ne, upd_ne ne, upd_ne ne]
  exact s2 _ _ (s1 _ _ hb)
end
namespace Shr
/-! ### shares, by good arguments -/
def shF (n d : Int) : List (Str × V) := [("top", .int n), ("bottom", .int d)]
def ShO (C : Addr) (H : Hp) (p : Addr) (n d : Int) : Prop := ∃ dx, H p = some (.ins C dx (shF n d))
theorem ShO.same {C : Addr} {H H' : Hp} {p : Addr} {n d : Int} (s : Same H H') (h : ShO C H p n d) : ShO C H' p n d := let ⟨dx, e⟩ := h; ⟨dx, s _ _ e⟩
theorem tb : ¬ (("top" : Str) = "bottom") := by decide +kernel
theorem shF_put (n d : Int) : putF "bottom" (.int d) (putF "top" (.int n) []) = shF n d := by
  rw [putF_nil, putF_ne tb, putF_nil]
  rfl
theorem shF_top (n d : Int) : (shF n d).lookup ("top" : Str) = some (.int n) := lk_eq
theorem shF_bottom (n d : Int) : (shF n d).lookup ("bottom" : Str) = some (.int d) := by
  unfold shF
  rw [lk_ne (by decide +kernel), lk_eq]
theorem shF_no (n d : Int) {f : Str} (h1 : (f == ("top" : Str)) = false) (h2 : (f == ("bottom" : Str)) = false) : (shF n d).lookup f = none := by
  unfold shF
  rw [lk_ne h1, lk_ne h2]
  rfl
/-- what the top has made of the class -/
structure ShT (K : PySem.W.Frag) (mg : Str → Option Value) (C : Addr) : Prop where
  cl : Cls K C
  nT : NoAttr K C "top"
  nB : NoAttr K C "bottom"
  ca : PySem.W.findIn K (.ref C) "__class__" = some (some (.builtin "object.__class__"))
  cn : PySem.W.specialIn K (.builtin "object.__class__") "__get__" = some (some (.builtin "getset_descriptor.__get__"))
  ct : PySem.W.takesIn K (.builtin "object.__class__") = some true
  cm : PySem.W.mroIn K C (.type "object") = some true
  kI : PySem.W.kitOne K (.type "int") (.ref C) = some false
  fS : PySem.W.notFirst K C (.ref C) = true
  g_Share : mg "Share" = some (.ref C)
theorem shTy {K : PySem.W.Frag} {mg : Str → Option Value} {C : Addr} (T : ShT K mg C) {H : Hp} {p dx : Addr} {fs : List (Str × V)} (h : H p = some (.ins C dx fs)) : TyX K H (.ref p) (.ref C) := .base (.ins h T.cl T.ca T.cn T.ct T.cm)
def Old (p : Addr) (H H' : Hp) : Prop := ∀ b o, H b = some o → b ≠ p → H' b = some o
def spInit (C : Addr) : Sp := fun vs H Q _ => ∃ (p dx : Addr) (t b : Int), vs = [.ref p, .int t, .int b] ∧ H p = some (.ins C dx []) ∧ b ≠ 0 ∧ B b 8000 ∧ ∀ H', ShO C H' p (Num.nt t b) (Num.nb t b) → Old p H H' → Q .non H'
/-- an operand: a share, or an int -/
def Opd (C : Addr) (H : Hp) (x : V) (n d : Int) : Prop := (∃ p, x = .ref p ∧ ShO C H p n d) ∨ (x = .int n ∧ d = 1)
theorem Opd.same {C : Addr} {H H' : Hp} {x : V} {n d : Int} (s : Same H H') (h : Opd C H x n d) : Opd C H' x n d := h.elim (fun ⟨p, e, z⟩ => .inl ⟨p, e, z.same s⟩) .inr
def spOpd (C : Addr) : Sp := fun vs H Q _ => ∃ x n d, vs = [x] ∧ Opd C H x n d ∧ Q (.bl true) H
def spParts (C : Addr) : Sp := fun vs H Q _ => ∃ x n d, vs = [x] ∧ Opd C H x n d ∧ ∀ t H', H' t = some (.tup [.int n, .int d]) → Same H H' → Q (.ref t) H'
/-- p op x: the answer is the share f n1 d1 n2 d2 / g .. -/
def spBin (C : Addr) (f g : Int → Int → Int → Int → Int) : Sp := fun vs H Q _ => ∃ (p : Addr) (x : V) (n d n2 d2 : Int), vs = [.ref p, x] ∧ ShO C H p n d ∧ Opd C H x n2 d2 ∧ 0 < d ∧ 0 < d2 ∧ B n 1000 ∧ B d 1000 ∧ B n2 1000 ∧ B d2 1000 ∧
  ∀ q H', ShO C H' q (Num.nt (f n d n2 d2) (g n d n2 d2)) (Num.nb (f n d n2 d2) (g n d n2 d2)) → Same H H' → Q (.ref q) H'
def fAdd (n d n2 d2 : Int) : Int := n * d2 + n2 * d
def fSub (n d n2 d2 : Int) : Int := n * d2 + -n2 * d
def fMul (n _ n2 _ : Int) : Int := n * n2
def gMul (_ d _ d2 : Int) : Int := d * d2
def spUn (C : Addr) (f : Int → Int) : Sp := fun vs H Q _ => ∃ (p : Addr) (n d : Int), vs = [.ref p] ∧ ShO C H p n d ∧ 0 < d ∧ B n 1000 ∧ B d 1000 ∧ ∀ q H', ShO C H' q (Num.nt (f n) d) (Num.nb (f n) d) → Same H H' → Q (.ref q) H'
def absI (n : Int) : Int := if n < 0 then -n else n
def spBelow (C : Addr) : Sp := fun vs H Q _ => ∃ (p : Addr) (x : V) (n d n2 d2 : Int), vs = [.ref p, x] ∧ ShO C H p n d ∧ Opd C H x n2 d2 ∧ B n 1000 ∧ B d 1000 ∧ B n2 1000 ∧ B d2 1000 ∧ ∀ H', Same H H' → Q (.bl (decide (n * d2 < n2 * d))) H'
def spEq (C : Addr) : Sp := fun vs H Q _ => ∃ (p q : Addr) (n d n2 d2 : Int), vs = [.ref p, .ref q] ∧ ShO C H p n d ∧ ShO C H q n2 d2 ∧ Q (.bl (decide (n = n2) && decide (d = d2))) H
theorem new_sh {C : Addr} {H : Hp} {R : VK} {E : XK} {x dx : Addr} {t b : Int} (hb : b ≠ 0) (hB : B b 8000) (hx : H x = none) (hdx : H dx = none) (q : ∀ H', ShO C H' x (Num.nt t b) (Num.nb t b) → Same H H' → R .non H') :
    spInit C (.ref x :: [.int t, .int b]) (upd (upd H dx (.own x)) x (.ins C dx [])) R E := ⟨x, dx, t, b, rfl, upd_same, hb, hB, fun H' e old => q H' e (Same.made hx hdx old)⟩
theorem dec_int (i j : Int) : decide (V.int i = V.int j) = decide (i = j) := by simp
section
variable {P : Program} {w : World} {K : PySem.W.Frag} {mg : Str → Option Value} {base : Heap} {C : Addr}
abbrev s_is_operand : Stmt := top 36
abbrev N_is_operand : List Str := ["value"]
theorem sc_is_operand : FnScope N_is_operand ["value"] (defScope s_is_operand) := ⟨rfl, rfl, rfl, by decide +kernel, rfl, by decide +kernel, by decide +kernel⟩
theorem ok_is_operand (T : Blt mg) (X : ShT K mg C) (D_is_plain_int : DefOk P w K mg base CX0 1 "is_plain_int" (spPlain K)) (D : DefAt K mg "_is_operand" s_is_operand ["value"]) : DefOk P w K mg base CX0 2 "_is_operand" (spOpd C) := by
  refine D.ok sc_is_operand (fun vs H Q E h => ?_) (fun f cdv A outer s H vs Q E hr h => ?_)
  · obtain ⟨x, n, d, rfl, _⟩ := h
    rfl
  obtain ⟨x, n, d, rfl, hx, q⟩ := h
  have g_Share := X.g_Share
  refine ⟨_, (pss_one (ps_ret (pe_or (pe_callB (cl_isi K) (by rfl) T.z_isinstance (by decide +kernel) (pa_cons (pv 0) (pa_cons (pe_gcls (by rfl) g_Share) pa_nil))) (pe_one (pe_def D_is_plain_int hr (by decide) pass0 (pa_cons (pv 0) pa_nil)))))), ?_⟩
  rcases hx with ⟨p, rfl, dx, hp⟩ | ⟨rfl, rfl⟩
  · exact ⟨_, rfl, _, .ref C, _, .ref C, true, rfl, .own C, shTy X hp, kit_self, _, rfl, q⟩
  · exact ⟨_, rfl, _, .ref C, _, .ref C, false, rfl, .own C, .base (.int _), X.kI, _, rfl, _, rfl, _, true, rfl, PlainI.int _, q⟩
abbrev s_parts : Stmt := top 37
abbrev N_parts : List Str := ["value"]
theorem sc_parts : FnScope N_parts ["value"] (defScope s_parts) := ⟨rfl, rfl, rfl, by decide +kernel, rfl, by decide +kernel, by decide +kernel⟩
theorem ok_parts (T : Blt mg) (X : ShT K mg C) (D : DefAt K mg "_parts" s_parts ["value"]) : DefOk P w K mg base CX0 1 "_parts" (spParts C) := by
  refine D.ok sc_parts (fun vs H Q E h => ?_) (fun f cdv A outer s H vs Q E hr h => ?_)
  · obtain ⟨x, n, d, rfl, _⟩ := h
    rfl
  obtain ⟨x, n, d, rfl, hx, q⟩ := h
  have g_Share := X.g_Share
  refine ⟨_, (pss_cons (ps_if (pt_val (pe_callB (cl_isi K) (by rfl) T.z_isinstance (by decide +kernel) (pa_cons (pv 0) (pa_cons (pe_gcls (by rfl) g_Share) pa_nil))))
    (pss_one (ps_ret (pe_tup (pa_cons (pe_fldK K (pv 0)) (pa_cons (pe_fldK K (pv 0)) pa_nil)))))
    pss_nil)
  (pss_one (ps_ret (pe_tup (pa_cons (pv 0) (pa_cons pe_int pa_nil)))))), ?_⟩
  rcases hx with ⟨p, rfl, dx, hp⟩ | ⟨rfl, rfl⟩
  · refine ⟨_, rfl, _, .ref C, _, .ref C, true, rfl, .own C, shTy X hp, kit_self, _, rfl, ?_⟩
    exact ⟨_, rfl, p, C, dx, _, _, rfl, hp, X.cl, X.nT, shF_top _ _, _, rfl, p, C, dx, _, _, rfl, hp, X.cl, X.nB, shF_bottom _ _, (by show 2 ≤ sizeLine; decide), fun t ht => q t _ upd_same (Com.Same.upd ht)⟩
  · refine ⟨_, rfl, _, .ref C, _, .ref C, false, rfl, .own C, .base (.int _), X.kI, _, rfl, ?_⟩
    exact ⟨_, rfl, (by show 2 ≤ sizeLine; decide), fun t ht => q t _ upd_same (Com.Same.upd ht)⟩
abbrev s_Share___init : Stmt := inClass (top 39) 0
abbrev N_Share___init : List Str := ["self", "top", "bottom", "common"]
theorem sc_Share___init : FnScope N_Share___init ["self", "top", "bottom"] (defScope s_Share___init) := ⟨rfl, rfl, rfl, by decide +kernel, rfl, by decide +kernel, by decide +kernel⟩
theorem ok_init (T : Blt mg) (X : ShT K mg C) (D_is_plain_int : DefOk P w K mg base CX0 1 "is_plain_int" (spPlain K)) {f : Addr} {fd : FuncData} (F : FunD K "__init__" "Share.__init__" (defArgs s_Share___init) (defBody s_Share___init) (defScope s_Share___init) [.int 1] [] f fd) : FnOk P w K mg base CX0 2 f fd ["self", "top", "bottom"] (spInit C) := by
  refine F.ok sc_Share___init (fun vs H Q E h => ?_) (fun cdv A outer s H vs Q E hr h => ?_)
  · obtain ⟨p, dx, t, b, rfl, _⟩ := h
    rfl
  obtain ⟨p, dx, t, b, rfl, hp, hb, hB, q⟩ := h
  refine ⟨_, (pss_cons (ps_if (pt_not (pt_val (pe_def D_is_plain_int hr (by decide) pass0 (pa_cons (pv 1) pa_nil))))
    (pss_one ps_never)
    pss_nil)
  (pss_cons (ps_if (PW.pt (pw_or (pt_not (pt_val (pe_def D_is_plain_int hr (by decide) pass0 (pa_cons (pv 2) pa_nil)))) (pw_or1 (pt_cmpR op_eq (pv 2) pe_int (nomark _)))))
    (pss_one ps_never)
    pss_nil)
  (pss_cons (ps_set (i := 3) sc_Share___init.nd rfl (Or.inl rfl) (pe_gbfn cr_gcd T.g_gcd (pa_cons (pv 1) (pa_cons (pv 2) pa_nil))))
  (pss_cons (ps_if (pt_cmpR op_lt (pv 2) pe_int (nomark _))
    (pss_one (ps_set (i := 3) sc_Share___init.nd rfl (Or.inl rfl) (pe_un un_neg (pv 3))))
    pss_nil)
  (pss_cons (ps_fldK K (pv 0) (pe_op fdivX (pv 1) (pv 3)))
  (pss_one (ps_fldK K (pv 0) (pe_op fdivX (pv 2) (pv 3))))))))), ?_⟩
  refine ⟨_, rfl, _, true, rfl, PlainI.int t, _, rfl, ?_⟩
  refine ⟨_, rfl, _, true, rfl, PlainI.int b, _, rfl, ?_⟩
  refine ⟨_, rfl, rfl, _, rfl, ?_⟩
  have e0 : decide (V.int b = V.int 0) = false := by rw [dec_int]; exact decide_eq_false hb
  rw [e0]
  refine ⟨_, rfl, _, rfl, t, b, rfl, ?_⟩
  refine ⟨_, rfl, _, _, rfl, rfl, _, rfl, ?_⟩
  have hc : CDivX t (Num.cm t b) ∧ CDivX b (Num.cm t b) := ⟨⟨Num.cm_ne hb, (B.le hB (Num.cm_le t b hb)).mono (by decide)⟩, ⟨Num.cm_ne hb, (B.le hB (Num.cm_le t b hb)).mono (by decide)⟩⟩
  have fin : ∀ H', H' = upd (upd H p (.ins C dx (putF "top" (.int (Num.nt t b)) []))) p (.ins C dx (putF "bottom" (.int (Num.nb t b)) (putF "top" (.int (Num.nt t b)) []))) → Q .non H' := fun H' e => by
    subst e
    refine q _ ⟨dx, by rw [upd_same, shF_put]⟩ fun z u hz ne => ?_
    rw [upd_ne ne, upd_ne ne]
    exact hz
  refine ifB (fun c => ?_) (fun c => ?_)
  · have ec : Num.cm t b = -Num.gc t b := by unfold Num.cm; rw [if_pos (of_decide_eq_true c)]
    rw [ec] at hc
    refine ⟨_, rfl, _, rfl, ?_⟩
    refine ⟨_, rfl, _, rfl, _, _, rfl, rfl, hc.1, _, rfl, p, C, dx, [], rfl, hp, X.cl, X.nT, (by show 0 < 1000; decide), ?_⟩
    refine ⟨_, rfl, _, rfl, _, _, rfl, rfl, hc.2, _, rfl, p, C, dx, _, rfl, upd_same, X.cl, X.nB, (by rw [putF_nil]; show 1 < 1000; decide), ?_⟩
    refine fin _ ?_
    unfold Num.nt Num.nb
    rw [ec]
    rfl
  · have ec : Num.cm t b = Num.gc t b := by unfold Num.cm; rw [if_neg (of_decide_eq_false c)]
    rw [ec] at hc
    refine ⟨_, rfl, _, rfl, _, _, rfl, rfl, hc.1, _, rfl, p, C, dx, [], rfl, hp, X.cl, X.nT, (by show 0 < 1000; decide), ?_⟩
    refine ⟨_, rfl, _, rfl, _, _, rfl, rfl, hc.2, _, rfl, p, C, dx, _, rfl, upd_same, X.cl, X.nB, (by rw [putF_nil]; show 1 < 1000; decide), ?_⟩
    refine fin _ ?_
    unfold Num.nt Num.nb
    rw [ec]
    rfl
end
end Shr
section
variable {P : Program} {w : World} {K : PySem.W.Frag} {mg : Str → Option Value} {base : Heap} {C2 : Addr}
theorem sh_new {f : Addr} {fd : FuncData} {tk : Tok} (G : FnOk P w K mg base CX0 2 f fd ["self", "top", "bottom"] (Shr.spInit C2)) (b : Binds K fd ["self", "top", "bottom"] [.int 1 tk]) (mk : Mk K C2 f) (hm : mg "Share" = some (.ref C2)) : NewOk P w K mg base CX0 2 "Share" C2 (spSh C2) :=
  ⟨⟨f, (G.raw (dvs := [.int 1]) b (.cons ⟨tk, rfl⟩ .nil)).imp fun vs H Q E ⟨p, dx, i, e, hp, q⟩ => ⟨p, dx, i, 1, by rw [e]; rfl, hp, by decide, B.of (k := 1) (by decide) (Nat.one_lt_two_pow (by decide)), fun H' ⟨dx', e'⟩ old => q H' dx' _ e' old⟩, mk⟩, hm⟩
end
def bsOf (L : List PP) (p : PP) : List Bool := L.map fun c => !decide (c.1 = p.1) && !decide (c.2 = p.2)
theorem bsOf_all (L : List PP) (p : PP) : (bsOf L p).all id = freeB L p := by
  unfold bsOf freeB
  rw [List.all_map]
  rfl
section
variable {P : Program} {w : World} {K : PySem.W.Frag} {mg : Str → Option Value} {base : Heap} {C : Addr}
abbrev s_free : Stmt := top 45
abbrev N_free : List Str := ["_law_load", "_law_pair", "_law_one"]
theorem sc_free : FnScope N_free ["_law_load", "_law_pair"] (defScope s_free) := ⟨rfl, rfl, rfl, by decide +kernel, rfl, by decide +kernel, by decide +kernel⟩
theorem ok_lfree (T : Blt mg) (D : DefAt K mg "_law_free" s_free ["_law_load", "_law_pair"]) : DefOk P w K mg base CX0 1 "_law_free" spIsFree := by
  refine D.ok sc_free (fun vs H Q E h => ?_) (fun f cdv A outer s H vs Q E hr h => ?_)
  · obtain ⟨v, u, L, p, rfl, _⟩ := h
    rfl
  obtain ⟨v, u, L, p, rfl, ⟨b, us, rfl, hb, hP⟩, hl, ⟨a, rfl, ha⟩, q⟩ := h
  have hlen := Paired.length hP
  refine ⟨_, (pss_one (ps_ret (pe_callB (cl_all K) (by rfl) T.z_all (by decide +kernel) (pa_cons (pe_lc (own := [("_law_one", 2)]) (g := gName 2) (tt := tYes) rfl sc_free.nd (pi_seq K (pv 0)) (blkOk_by (N := N_free) (sc := defScope s_free) (by decide +kernel)) (fun _ _ _ _ _ => (pg_name (i := 2) sc_free.nd rfl (Or.inl rfl))) (fun _ _ _ _ _ => pts_nil) (fun _ _ _ _ _ => (pe_and (pe_cmpR op_ne (pe_ix (ixT K) (pv 2) pe_int (fun _ _ => rfl)) (pe_ix (ixT K) (pv 1) pe_int (fun _ _ => rfl)) (nomark _)) (pe_one (pe_cmpR op_ne (pe_ix (ixT K) (pv 2) pe_int (fun _ _ => rfl)) (pe_ix (ixT K) (pv 1) pe_int (fun _ _ => rfl)) (nomark _)))))) pa_nil)))), ?_⟩
  have step : ∀ (D : Addr) (hD : H D = none) (i : Nat) (x : V) (H' : Hp), us[i]? = some x → (H' D = some (.lst (((bsOf L p).take i).map V.bl)) ∧ Same H H') → ∃ (c : PP) (cr : Addr), L[i]? = some c ∧ x = .ref cr ∧ H' cr = some (.tup [.int c.1, .int c.2]) ∧ H' a = some (.tup [.int p.1, .int p.2]) ∧ (((bsOf L p).take i).map V.bl).length < sizeLine ∧
      (((bsOf L p).take i).map V.bl) ++ [V.bl (!decide (c.1 = p.1) && !decide (c.2 = p.2))] = (((bsOf L p).take (i + 1)).map V.bl) := by
    rintro D hD i x H' hi ⟨h1, h2⟩
    obtain ⟨c, hc, cr, rfl, hcr⟩ := StV.paired_get hP hi
    refine ⟨c, cr, hc, rfl, h2 _ _ hcr, h2 _ _ ha, ?_, ?_⟩
    · rw [List.length_map, List.length_take]
      exact small1000 (by have : (bsOf L p).length = L.length := List.length_map ..; omega)
    · have e : (bsOf L p)[i]? = some (!decide (c.1 = p.1) && !decide (c.2 = p.2)) := by
        unfold bsOf
        rw [List.getElem?_map, hc]
        rfl
      rw [List.take_add_one, e, List.map_append]
      rfl
  have fin : ∀ (D : Addr) (H' : Hp), (H' D = some (.lst (((bsOf L p).take us.length).map V.bl)) ∧ Same H H') → ∃ (aa : Addr) (bs : List Bool), [V.ref D] = [V.ref aa] ∧ SqL K H' aa (bs.map V.bl) ∧ Q (.bl (bs.all id)) H' := by
    rintro D H' ⟨h1, h2⟩
    refine ⟨D, bsOf L p, rfl, SqL.of ?_, ?_⟩
    · rw [h1, List.take_of_length_le (by have : (bsOf L p).length = L.length := List.length_map ..; omega)]
    · rw [bsOf_all]
      exact q H' h2
  refine ⟨_, rfl, b, rfl, ?_⟩
  rcases hb with hb | hb
  · refine .inl ⟨_, SqL.of hb, fun D hD => lp_list (K := K) (xs := us) (fun i H' => H' D = some (.lst (((bsOf L p).take i).map V.bl)) ∧ Same H H') ⟨upd_same, Com.Same.upd hD⟩ (fun i H' _ p => SqL.of (p.2 _ _ hb)) ?_ (fun H' h => fin D H' h)⟩
    rintro i x H' hi hh
    obtain ⟨c, cr, hc, rfl, h3, h4, h5, h6⟩ := step D hD i x H' hi hh
    refine ⟨rfl, _, rfl, cr, _, 0, _, rfl, rfl, SqT.of h3, rfl, _, rfl, a, _, 0, _, rfl, rfl, SqT.of h4, rfl, rfl, _, rfl, ?_⟩
    rw [dV]
    rw [← h6]
    cases decide (c.1 = p.1) with
    | true => exact ⟨_, hh.1, h5, upd_same, Same.grow hD hh.2⟩
    | false =>
      refine ⟨_, rfl, cr, _, 1, _, rfl, rfl, SqT.of h3, rfl, _, rfl, a, _, 1, _, rfl, rfl, SqT.of h4, rfl, rfl, ?_⟩
      rw [dV]
      exact ⟨_, hh.1, h5, upd_same, Same.grow hD hh.2⟩
  · refine .inr ⟨_, SqT.of hb, fun D hD => lp_tup (K := K) (xs := us) (fun i H' => H' D = some (.lst (((bsOf L p).take i).map V.bl)) ∧ Same H H') ⟨upd_same, Com.Same.upd hD⟩ (fun i H' _ p => SqT.of (p.2 _ _ hb)) ?_ (fun H' h => fin D H' h)⟩
    rintro i x H' hi hh
    obtain ⟨c, cr, hc, rfl, h3, h4, h5, h6⟩ := step D hD i x H' hi hh
    refine ⟨rfl, _, rfl, cr, _, 0, _, rfl, rfl, SqT.of h3, rfl, _, rfl, a, _, 0, _, rfl, rfl, SqT.of h4, rfl, rfl, _, rfl, ?_⟩
    rw [dV]
    rw [← h6]
    cases decide (c.1 = p.1) with
    | true => exact ⟨_, hh.1, h5, upd_same, Same.grow hD hh.2⟩
    | false =>
      refine ⟨_, rfl, cr, _, 1, _, rfl, rfl, SqT.of h3, rfl, _, rfl, a, _, 1, _, rfl, rfl, SqT.of h4, rfl, rfl, ?_⟩
      rw [dV]
      exact ⟨_, hh.1, h5, upd_same, Same.grow hD hh.2⟩
end
section
variable {P : Program} {w : World} {K : PySem.W.Frag} {mg : Str → Option Value} {base : Heap} {C : Addr}
abbrev s_loads : Stmt := top 46
abbrev N_loads : List Str := ["_law_flow_here", "_law_ins", "_law_outs", "_law_middles", "_law_many", "_law_loads_here", "_law_k", "_law_left", "_law_turn", "_law_pair", "_law_load"]
theorem sc_loads : FnScope N_loads ["_law_flow_here", "_law_ins", "_law_outs", "_law_middles", "_law_many"] (defScope s_loads) := ⟨rfl, rfl, rfl, by decide +kernel, rfl, by decide +kernel, by decide +kernel⟩
theorem ok_lloads (T : Blt mg) (D_pick : DefOk P w K mg base CX0 1 "_law_pick" spPick) (D_free : DefOk P w K mg base CX0 1 "_law_free" spIsFree) (D : DefAt K mg "_law_loads" s_loads ["_law_flow_here", "_law_ins", "_law_outs", "_law_middles", "_law_many"]) : DefOk P w K mg base CX0 2 "_law_loads" spLoads := by
  refine D.ok sc_loads (fun vs H Q E h => ?_) (fun f cdv A outer s H vs Q E hr h => ?_)
  · obtain ⟨a, i, o, ds, es, m, many, rfl, _⟩ := h
    rfl
  obtain ⟨a, i, o, ds, es, m, many, rfl, f0, ti, gi, to, go, m1, m2, k1, k2, q⟩ := h
  have ld : (ds.map V.int).length = ds.length := List.length_map ..
  have le : (es.map V.int).length = es.length := List.length_map ..
  have gd1 := gi.1
  have gd2 := gi.2.1
  have ge1 := go.1
  have ge2 := go.2.1
  refine ⟨_, (pss_cons (ps_setLc (i := 5) (own := [("_law_k", 6)]) (g := gName 6) (tt := tYes) rfl sc_loads.nd rfl rfl (sw_true rfl rfl rfl (by decide +kernel)) (pi_range1 (by rfl) T.z_range (pa_cons (pv 3) pa_nil)) (blkOk_by (N := N_loads) (sc := defScope s_loads) (by decide +kernel)) (fun _ _ _ _ _ => (pg_name (i := 6) sc_loads.nd rfl (Or.inl rfl))) (fun _ _ _ _ _ => pts_nil) (fun _ _ _ _ _ => (pe_lst pa_nil)))
  (pss_cons (ps_set (i := 7) sc_loads.nd rfl (Or.inl rfl) (pe_lst (pa_cons (pe_callTy (cl_list K) (by rfl) T.z_list (by decide +kernel) (pa_cons (pv 1) pa_nil)) (pa_cons (pe_callTy (cl_list K) (by rfl) T.z_list (by decide +kernel) (pa_cons (pv 2) pa_nil)) pa_nil))))
  (pss_cons (ps_for PassesOwn.never rfl (pi_range1 (by rfl) T.z_range (pa_cons (pv 4) pa_nil)) (pg_name (i := 8) sc_loads.nd rfl (Or.inl rfl))
    (pss_cons (ps_set (i := 9) sc_loads.nd rfl (Or.inl rfl) (pe_tup (pa_cons (pe_def D_pick hr (by decide) pass0 (pa_cons (pv 0) (pa_cons (pe_callB (cl_len K) (by rfl) T.z_len (by decide +kernel) (pa_cons (pv 1) pa_nil)) pa_nil))) (pa_cons (pe_def D_pick hr (by decide) pass0 (pa_cons (pv 0) (pa_cons (pe_callB (cl_len K) (by rfl) T.z_len (by decide +kernel) (pa_cons (pv 2) pa_nil)) pa_nil))) pa_nil))))
    (pss_cons (ps_set (i := 6) sc_loads.nd rfl (Or.inl rfl) (pe_def D_pick hr (by decide) pass0 (pa_cons (pv 0) (pa_cons (pv 3) pa_nil))))
    (pss_one (ps_if (PW.pt (pw_and (pt_cmpR op_gt (pe_ix (ixL K) (pe_ix (ixL K) (pv 7) pe_int (fun _ _ => rfl)) (pe_ix (ixT K) (pv 9) pe_int (fun _ _ => rfl)) (fun _ _ => rfl)) pe_int (nomark _)) (pw_and (pt_cmpR op_gt (pe_ix (ixL K) (pe_ix (ixL K) (pv 7) pe_int (fun _ _ => rfl)) (pe_ix (ixT K) (pv 9) pe_int (fun _ _ => rfl)) (fun _ _ => rfl)) pe_int (nomark _)) (pw_and1 (pt_val (pe_def D_free hr (by decide) pass0 (pa_cons (pe_ix (ixL K) (pv 5) (pv 6) (fun _ _ => rfl)) (pa_cons (pv 9) pa_nil))))))))
      (pss_cons (ps_asg (pe_callB (cr_srtP K) (by rfl) T.z_sorted (by decide +kernel) (pa_cons (pe_op op_cat (pe_ix (ixL K) (pv 5) (pv 6) (fun _ _ => rfl)) (pe_lst (pa_cons (pv 9) pa_nil))) pa_nil)) (pg_sub (pv 5) (pv 6) set_list))
      (pss_cons (ps_augS (pe_ix (ixL K) (pv 7) pe_int (fun _ _ => rfl)) (pe_ix (ixT K) (pv 9) pe_int (fun _ _ => rfl)) (getL K) pe_int ip_sub set_list)
      (pss_one (ps_augS (pe_ix (ixL K) (pv 7) pe_int (fun _ _ => rfl)) (pe_ix (ixT K) (pv 9) pe_int (fun _ _ => rfl)) (getL K) pe_int ip_sub set_list))))
      pss_nil)))))
  (pss_one (ps_ret (pe_callTy (cl_tuple K) (by rfl) T.z_tuple (by decide +kernel) (pa_cons (pe_lc (own := [("_law_load", 10)]) (g := gName 10) (tt := tYes) rfl sc_loads.nd (piL K (pv 5)) (blkOk_by (N := N_loads) (sc := defScope s_loads) (by decide +kernel)) (fun _ _ _ _ _ => (pg_name (i := 10) sc_loads.nd rfl (Or.inl rfl))) (fun _ _ _ _ _ => pts_nil) (fun _ _ _ _ _ => (pe_callTy (cl_tuple K) (by rfl) T.z_tuple (by decide +kernel) (pa_cons (pv 10) pa_nil)))) pa_nil))))))), ?_⟩
  refine ⟨_, rfl, _, rfl, by omega, by omega, fun A hA => ?_⟩
  have aA : a ≠ A := (FlowAt.ne f0 hA).symm
  refine lp_range (lo := 0) (fun k H' => ∃ vs, H' A = some (.lst vs) ∧ Paired (fun v L => ∃ b us, v = .ref b ∧ H' b = some (.lst us) ∧ PairsV H' us L ∧ b ≠ a ∧ b ≠ A) vs (List.replicate k []) ∧ Same H H') ⟨[], upd_same, .nil, Com.Same.upd hA⟩ ?_ ?_
  · rintro k H' hk ⟨vs, h1, h2, h3⟩
    refine ⟨rfl, (by show 0 ≤ sizeLine; decide), fun b hb => ?_⟩
    have nb : A ≠ b := ne_of_none h1 hb
    have vl := Paired.length h2
    rw [List.length_replicate] at vl
    refine ⟨vs, by rw [upd_ne nb]; exact h1, small1000 (by omega), vs ++ [.ref b], upd_same, ?_, Same.grow hA (h3.trans (Com.Same.upd hb))⟩
    rw [List.replicate_succ']
    have ts : TupS H' (upd (upd H' b (.lst [])) A (.lst (vs ++ [V.ref b]))) := (TupS.new hb).trans (TupS.lset (by rw [upd_ne nb]; exact h1))
    refine Paired.snoc (paired_imp (fun v L ⟨c, us, e, hc, hp, n1, n2⟩ => ⟨c, us, e, ?hc, PairsV.mono ts hp, n1, n2⟩) h2) ⟨b, [], rfl, ?hn, .nil, FlowAt.ne (FlowAt.same f0 h3) hb, nb.symm⟩
    case hc =>
      rw [upd_ne n2, upd_ne (ne_of_none hc hb)]
      exact hc
    case hn => rw [upd_ne nb.symm, upd_same]
  · rintro H1 ⟨vs0, hA1, hV1, s1⟩
    dsimp only [gName]
    refine at_st (σ' := [some (.ref a), some (.ref i), some (.ref o), some (.int m), some (.int many), some (.ref A), none, none, none, none, none]) rfl ?_
    refine ⟨_, rfl, i, _, rfl, .inr (SqT.of (Same.tup s1 ti)), fun I0 hI0 => ?_⟩
    have s2 := Com.Same.upd (o := .lst (ds.map V.int)) hI0
    have h2 := upd_same (H := H1) (a := I0) (o := .lst (ds.map V.int))
    generalize upd H1 I0 (.lst (ds.map V.int)) = H2 at s2 h2 ⊢
    have s12 := s1.trans s2
    refine ⟨_, rfl, o, _, rfl, .inr (SqT.of (Same.tup s12 to)), fun I1 hI1 => ?_⟩
    have s3 := Com.Same.upd (o := .lst (es.map V.int)) hI1
    have h3 := upd_same (H := H2) (a := I1) (o := .lst (es.map V.int))
    generalize upd H2 I1 (.lst (es.map V.int)) = H3 at s3 h3 ⊢
    have s13 := s12.trans s3
    refine ⟨(by show 2 ≤ sizeLine; decide), fun L0 hL0 => ?_⟩
    have s4 := Com.Same.upd (o := .lst [.ref I0, .ref I1]) hL0
    have h4 := upd_same (H := H3) (a := L0) (o := .lst [.ref I0, .ref I1])
    generalize upd H3 L0 (.lst [.ref I0, .ref I1]) = H4 at s4 h4 ⊢
    have s14 := s13.trans s4
    have bk : ∀ {b : Addr} {H' : Hp}, Same H H' → H' b = none → H b = none := fun {b H'} s n => by
      cases e : H b with
      | none => rfl
      | some z => rw [s _ _ e] at n; cases n
    have Z : Apart H a A L0 I0 I1 := ⟨hA, bk s13 hL0, bk s1 hI0, bk s12 hI1, aA, (FlowAt.ne (FlowAt.same f0 s13) hL0).symm, (FlowAt.ne (FlowAt.same f0 s1) hI0).symm, (FlowAt.ne (FlowAt.same f0 s12) hI1).symm,
      ne_of_none (s3 _ _ (s2 _ _ hA1)) hL0, ne_of_none hA1 hI0, ne_of_none (s2 _ _ hA1) hI1, (ne_of_none (s3 _ _ h2) hL0).symm, (ne_of_none h3 hL0).symm, ne_of_none h2 hI1⟩
    obtain ⟨nm, rfl⟩ := Int.eq_ofNat_of_zero_le (show 0 ≤ m by omega)
    have LD : LdI a A L0 I0 I1 ds es (nm : Nat) H H4 (List.replicate nm []) vs0 := by
      refine ⟨FlowAt.same f0 s14, s4 _ _ (s3 _ _ (s2 _ _ hA1)), ?_, h4, ?_, ?_, StdOk.empty (fun d hd => (gi.2.2 d hd).1) (fun d hd => (go.2.2 d hd).1), same_old s14⟩
      · refine paired_imp (fun v L ⟨c, us, e, hc, hp, n1, n2⟩ => ⟨c, us, e, s4 _ _ (s3 _ _ (s2 _ _ hc)), PairsV.same (s2.trans (s3.trans s4)) hp, n1, n2, ne_of_none (s3 _ _ (s2 _ _ hc)) hL0, ne_of_none hc hI0, ne_of_none (s2 _ _ hc) hI1⟩) hV1
      · show H4 I0 = _
        rw [show fs (List.replicate nm ([] : List PP)) = [] by simp [fs], left_nil]
        exact s4 _ _ (s3 _ _ h2)
      · show H4 I1 = _
        rw [show sn (List.replicate nm ([] : List PP)) = [] by simp [sn], left_nil]
        exact s4 _ _ h3
    dsimp only [gName]
    refine at_st (σ' := [some (.ref a), some (.ref i), some (.ref o), some (.int (nm : Nat)), some (.int many), some (.ref A), none, some (.ref L0), none, none, none]) rfl ?_
    clear h2 h3 h4 hA1 hV1 s2 s3 s4 hL0 hI1 hI0 hA s12 s13 s1
    refine ⟨_, rfl, _, rfl, by omega, by omega, for_range (lo := 0) (fun j σ H' => ∃ w6 w8 w9 S vs, σ = [some (.ref a), some (.ref i), some (.ref o), some (.int (nm : Nat)), some (.int many), some (.ref A), w6, some (.ref L0), w8, w9, none] ∧ LdI a A L0 I0 I1 ds es (nm : Nat) H H' S vs) ⟨_, _, _, _, _, rfl, LD⟩ ?_ ?_⟩
    · rintro j σ H5 hj ⟨w6, w8, w9, S, vs, rfl, I⟩
      dsimp only [gName]
      have ti5 : Tup H5 i ds := I.old _ _ ti (tup_ne f0 ti)
      have to5 : Tup H5 o es := I.old _ _ to (tup_ne f0 to)
      refine ⟨_, rfl, _, rfl, i, _, rfl, .inr (SqT.of ti5), a, _, rfl, I.fl, by omega, small200 (by omega), fun d1 H6 d10 d11 f6 b6 => ?_⟩
      have I6 := I.but Z b6 f6
      have to6 : Tup H6 o es := I6.old _ _ to (tup_ne f0 to)
      refine ⟨_, rfl, _, rfl, o, _, rfl, .inr (SqT.of to6), a, _, rfl, f6, by omega, small200 (by omega), fun d2 H7 d20 d21 f7 b7 => ?_⟩
      have I7 := I6.but Z b7 f7
      refine ⟨(by show 2 ≤ sizeLine; decide), fun t ht => ?_⟩
      have s8 := Com.Same.upd (o := .tup [V.int d1, V.int d2]) ht
      have h8 := upd_same (H := H7) (a := t) (o := .tup [V.int d1, V.int d2])
      generalize upd H7 t (.tup [V.int d1, V.int d2]) = H8 at s8 h8 ⊢
      have I8 := I7.same s8
      dsimp only [gName]
      refine at_st (σ' := [some (.ref a), some (.ref i), some (.ref o), some (.int (nm : Nat)), some (.int many), some (.ref A), w6, some (.ref L0), some (.int (0 + (j : Nat))), some (.ref t), none]) rfl ?_
      refine ⟨_, rfl, _, rfl, a, _, rfl, I8.fl, by omega, small200 (by omega), fun k H9 k0 kn f9 b9 => ?_⟩
      have I9 := I8.but Z b9 f9
      have h9 : H9 t = some (.tup [V.int d1, V.int d2]) := by rw [b9 t (tup_ne I8.fl h8)]; exact h8
      dsimp only [gName]
      refine at_st (σ' := [some (.ref a), some (.ref i), some (.ref o), some (.int (nm : Nat)), some (.int many), some (.ref A), some (.int k), some (.ref L0), some (.int (0 + (j : Nat))), some (.ref t), none]) rfl ?_
      clear b9 f9 h8 s8 ht b7 f7 b6 f6 I6 I7 I8 to6 ti5 to5
      obtain ⟨n1, rfl⟩ := Int.eq_ofNat_of_zero_le d10
      obtain ⟨n2, rfl⟩ := Int.eq_ofNat_of_zero_le d20
      obtain ⟨kk, rfl⟩ := Int.eq_ofNat_of_zero_le k0
      have l1 := left_len ds (fs S)
      have l2 := left_len es (sn S)
      obtain ⟨x1, hx1⟩ : ∃ x1, (left ds (fs S))[n1]? = some x1 := ⟨_, List.getElem?_eq_getElem (by omega)⟩
      obtain ⟨x2, hx2⟩ : ∃ x2, (left es (sn S))[n2]? = some x2 := ⟨_, List.getElem?_eq_getElem (by omega)⟩
      have lm := I9.ok.len
      obtain ⟨L, hL⟩ : ∃ L, S[kk]? = some L := ⟨_, List.getElem?_eq_getElem (by omega)⟩
      obtain ⟨v, hv, b, us, rfl, hb, hP, nb⟩ := paired_get' I9.hS hL
      have lL := (I9.ok.ld L (List.mem_of_getElem? hL)).len
      have hin : InP ds.length es.length ((n1 : Int), (n2 : Int)) := ⟨by omega, by show (n1 : Int) < _; omega, by show (0 : Int) ≤ (n2 : Int); omega, by show (n2 : Int) < _; omega⟩
      refine ⟨_, rfl, L0, _, 0, _, rfl, rfl, SqL.of I9.hL, rfl, _, rfl, t, _, 0, _, rfl, rfl, SqT.of h9, rfl, I0, _, _, _, rfl, rfl, SqL.of I9.h0, atI_at rfl hx1, _, _, rfl, rfl, _, rfl, ?_⟩
      refine ifB (fun c1 => ?_) (fun c1 => ⟨_, _, _, S, vs, rfl, I9⟩)
      refine ⟨_, rfl, L0, _, 1, _, rfl, rfl, SqL.of I9.hL, rfl, _, rfl, t, _, 1, _, rfl, rfl, SqT.of h9, rfl, I1, _, _, _, rfl, rfl, SqL.of I9.h1, atI_at rfl hx2, _, _, rfl, rfl, _, rfl, ?_⟩
      refine ifB (fun c2 => ?_) (fun c2 => ⟨_, _, _, S, vs, rfl, I9⟩)
      refine ⟨_, rfl, _, rfl, A, _, _, .ref b, rfl, rfl, SqL.of I9.hA, atI_nat hv, _, rfl, .ref b, .ref t, L, ((n1 : Int), (n2 : Int)), rfl, ⟨b, us, rfl, .inl hb, hP⟩, by omega, ⟨t, rfl, h9⟩, fun H10 s10 => ⟨_, rfl, ?_⟩⟩
      have I10 := I9.same s10
      have hb10 := s10 _ _ hb
      have hP10 := PairsV.same s10 hP
      have h10 := s10 _ _ h9
      clear I9 hb hP h9 s10
      refine ifB (fun c3 => ?_) (fun c3 => ⟨_, _, _, S, vs, rfl, I10⟩)
      refine ⟨_, rfl, _, rfl, A, _, _, .ref b, rfl, rfl, SqL.of I10.hA, atI_nat hv, _, rfl, (by show 1 ≤ sizeLine; decide), fun l hl => ?_⟩
      have s11 := Com.Same.upd (o := .lst [V.ref t]) hl
      have h11 := upd_same (H := H10) (a := l) (o := .lst [V.ref t])
      generalize upd H10 l (.lst [V.ref t]) = H11 at s11 h11 ⊢
      have ul := Paired.length hP10
      refine ⟨b, l, us, [.ref t], rfl, rfl, s11 _ _ hb10, h11, len1 (by rw [List.length_singleton]; omega), fun c hc => ?_⟩
      have s12 := s11.trans (Com.Same.upd (o := .lst (us ++ [V.ref t])) hc)
      have h12 := upd_same (H := H11) (a := c) (o := .lst (us ++ [V.ref t]))
      generalize upd H11 c (.lst (us ++ [V.ref t])) = H12 at s12 h12 ⊢
      refine ⟨c, _, L ++ [((n1 : Int), (n2 : Int))], rfl, SqL.of h12, Paired.snoc (PairsV.same s12 hP10) ⟨t, rfl, s12 _ _ h10⟩, fun ws q1 hws hq1 => ?_⟩
      have I12 := I10.same s12
      have s13 := Com.Same.upd (o := .lst ws) hq1
      have h13 := upd_same (H := H12) (a := q1) (o := .lst ws)
      have nq : q1 ≠ a ∧ q1 ≠ A ∧ q1 ≠ L0 ∧ q1 ≠ I0 ∧ q1 ≠ I1 := ⟨FlowAt.ne I12.fl hq1, (ne_of_none I12.hA hq1).symm, (ne_of_none I12.hL hq1).symm, (ne_of_none I12.h0 hq1).symm, (ne_of_none I12.h1 hq1).symm⟩
      have hws13 := PairsV.same s13 hws
      have I13 := I12.same s13
      have ht13 := s13 _ _ (s12 _ _ h10)
      generalize upd H12 q1 (.lst ws) = H13 at s13 h13 hws13 I13 ht13 ⊢
      clear I12 I10 hws hq1 s13 h12 s12 h11 s11 hl hc hP10 hb10 h10
      have hkl : ixN vs.length (kk : Int) = some kk := by
        have := (List.getElem?_eq_some_iff.mp hv).1
        unfold ixN
        rw [if_pos (by omega), if_pos (by omega)]
        simp
      refine ⟨_, rfl, _, rfl, A, vs, (kk : Int), kk, rfl, rfl, I13.hA, hkl, ?_⟩
      have tA : upd H13 A (.lst (vs.set kk (.ref q1))) t = some (.tup [V.int n1, V.int n2]) := by
        rw [upd_ne (fun z => by rw [z, I13.hA] at ht13; cases ht13)]
        exact ht13
      refine ⟨_, rfl, L0, _, 0, _, rfl, rfl, SqL.of (by rw [upd_ne Z.AL.symm]; exact I13.hL), rfl, _, rfl, t, _, 0, _, rfl, rfl, SqT.of tA, rfl, I0, _, _, .int x1, rfl, rfl, SqL.of (by rw [upd_ne Z.A0.symm]; exact I13.h0), atI_at rfl hx1, _, _, rfl, rfl, I0, _, _, n1, rfl, rfl, (by rw [upd_ne Z.A0.symm]; exact I13.h0), ixN_at rfl hx1, ?_⟩
      rw [set_int]
      have tB : upd (upd H13 A (.lst (vs.set kk (.ref q1)))) I0 (.lst (((left ds (fs S)).set n1 (x1 - 1)).map V.int)) t = some (.tup [V.int n1, V.int n2]) := by
        rw [upd_ne (fun z => by rw [z, I13.h0] at ht13; cases ht13)]
        exact tA
      have hLB : upd (upd H13 A (.lst (vs.set kk (.ref q1)))) I0 (.lst (((left ds (fs S)).set n1 (x1 - 1)).map V.int)) L0 = some (.lst [.ref I0, .ref I1]) := by
        rw [upd_ne Z.L0', upd_ne Z.AL.symm]
        exact I13.hL
      have h1B : upd (upd H13 A (.lst (vs.set kk (.ref q1)))) I0 (.lst (((left ds (fs S)).set n1 (x1 - 1)).map V.int)) I1 = some (.lst ((left es (sn S)).map V.int)) := by
        rw [upd_ne Z.I01.symm, upd_ne Z.A1.symm]
        exact I13.h1
      refine ⟨_, rfl, L0, _, 1, _, rfl, rfl, SqL.of hLB, rfl, _, rfl, t, _, 1, _, rfl, rfl, SqT.of tB, rfl, I1, _, _, .int x2, rfl, rfl, SqL.of h1B, atI_at rfl hx2, _, _, rfl, rfl, I1, _, _, n2, rfl, rfl, h1B, ixN_at rfl hx2, ?_⟩
      rw [set_int]
      exact ⟨_, _, _, _, _, rfl, I13.put Z hL hin c3 hx1 (of_decide_eq_true c1) hx2 (of_decide_eq_true c2) h13 hws13 nq⟩
    · rintro σ H5 ⟨w6, w8, w9, S, vs, rfl, I⟩
      have vl := Paired.length I.hS
      have sl := I.ok.len
      refine ⟨_, rfl, A, rfl, ⟨_, SqL.of I.hA⟩, fun D hD => lp_list (K := K) (xs := vs) (fun k H' => ∃ ws, H' D = some (.lst ws) ∧ LoadsV H' ws (S.take k) ∧ Same H5 H') ⟨[], upd_same, by rw [List.take_zero]; exact .nil, Com.Same.upd hD⟩ (fun k H' _ p => SqL.of (p.choose_spec.2.2 _ _ I.hA)) ?_ ?_⟩
      · rintro k y H' hk ⟨ws, h1, h2, h3⟩
        obtain ⟨L, hL, b, us, rfl, hb, hP, _⟩ := StV.paired_get I.hS hk
        have hkl := (List.getElem?_eq_some_iff.mp hk).1
        have wl := Paired.length h2
        rw [List.length_take] at wl
        refine ⟨rfl, _, rfl, b, us, rfl, .inl ⟨SqL.of (h3 _ _ hb), fun t2 ht2 => ?_⟩⟩
        have nt : D ≠ t2 := ne_of_none h1 ht2
        refine ⟨ws, by rw [upd_ne nt]; exact h1, small1000 (by omega), ws ++ [.ref t2], upd_same, ?_, Same.grow hD (h3.trans (Com.Same.upd ht2))⟩
        have ts : TupS H' (upd (upd H' t2 (.tup us)) D (.lst (ws ++ [V.ref t2]))) := (TupS.new ht2).trans (TupS.lset (by rw [upd_ne nt]; exact h1))
        rw [List.take_add_one, hL]
        refine Paired.snoc (LoadsV.tupS ts h2) ⟨t2, us, rfl, ?_, PairsV.mono ts (PairsV.same h3 hP)⟩
        rw [upd_ne nt.symm, upd_same]
      · rintro H6 ⟨ws, h1, h2, h3⟩
        rw [List.take_of_length_le (by omega)] at h2
        refine ⟨D, ws, rfl, .inl ⟨SqL.of h1, fun t2 ht2 => ?_⟩⟩
        have s7 := Com.Same.upd (o := .tup ws) ht2
        refine q _ S _ ⟨t2, ws, rfl, upd_same, LoadsV.same s7 h2⟩ I.ok (FlowAt.same I.fl (h3.trans s7)) (Old.trans I.old (same_old (h3.trans s7)))
end
end K39o
set_option Elab.async false
set_option linter.all false
set_option maxRecDepth 100000
set_option maxHeartbeats 4000000
namespace K39
open PySem PySem.Spec PyProof.Rows L2 Com Sd StV Gn Ext Dt
def top (i : Nat) : Stmt := PySem.Challenge.pw_callsthrough_k39_standing_texts.main.body.getD i (.Pass ⟨0, 0, 0, 0⟩)
structure Blt (mg : Str → Option Value) : Prop where
  z_len : mg "len" = none
  z_abs : mg "abs" = none
  z_int : mg "int" = none
  z_bool : mg "bool" = none
  z_tuple : mg "tuple" = none
  z_list : mg "list" = none
  z_str : mg "str" = none
  z_dict : mg "dict" = none
  z_isinstance : mg "isinstance" = none
  z_all : mg "all" = none
  z_any : mg "any" = none
  z_sum : mg "sum" = none
  z_range : mg "range" = none
  z_set : mg "set" = none
  z_sorted : mg "sorted" = none
  z_min : mg "min" = none
  z_max : mg "max" = none
  z_enumerate : mg "enumerate" = none
  z_reversed : mg "reversed" = none
  c_MOST_SWITCHES : ∃ t, mg "MOST_SWITCHES" = some (.int 4 t)
  c_MOST_DOORS : ∃ t, mg "MOST_DOORS" = some (.int 4 t)
  c_MOST_MIDDLES : ∃ t, mg "MOST_MIDDLES" = some (.int 7 t)
theorem r65 {k : Nat} {A : Around} (r : Room k A) : A.units + 65 < cLine := by have := r.un; omega
section
variable {P : Program} {w : World} {K : PySem.W.Frag} {mg : Str → Option Value} {base : Heap}
abbrev s_is_plain_int : Stmt := top 9
abbrev N_is_plain_int : List Str := ["value"]
theorem sc_is_plain_int : FnScope N_is_plain_int ["value"] (defScope s_is_plain_int) := ⟨rfl, rfl, rfl, by decide +kernel, rfl, by decide +kernel, by decide +kernel⟩
def sdPlain (K : PySem.W.Frag) : SpD := fun ds q _ => ∃ d, ds = [d] ∧ clsOk K d ∧ q (.bl (plainD d))
theorem ok_is_plain_int (T : Blt mg) (D : DefAt K mg "is_plain_int" s_is_plain_int ["value"]) : DefOk P w K mg base CX0 1 "is_plain_int" (spOf (sdPlain K)) := by
  refine DefAtD.ok D sc_is_plain_int (fun ds q e h => by obtain ⟨d, rfl, _⟩ := h; rfl) (fun f cdv A outer s H E hr => ⟨_, _, (pss_one (ps_ret (pe_and (pe_callB (cl_isi K) (by rfl) T.z_isinstance (by decide +kernel) (pa_cons (pv 0) (pa_cons (pe_bltn (v := .ty "int") (by rfl) T.z_int (by decide +kernel) rfl) pa_nil))) (pe_one (pe_not (pe_callB (cl_isi K) (by rfl) T.z_isinstance (by decide +kernel) (pa_cons (pv 0) (pa_cons (pe_bltn (v := .ty "bool") (by rfl) T.z_bool (by decide +kernel) rfl) pa_nil)))))))), (ss_ret (si_andV (si_isi (.ty "int") si_var) (si_notV (si_isi (.ty "bool") si_var)))), fun ds q e h => ?_⟩)
  obtain ⟨d, rfl, hc, h⟩ := h
  refine ⟨d, rfl, isi_go hc ⟨_, rfl, ?_⟩⟩
  have e1 := plain_isi d
  cases c : isiD "int" d with
  | true =>
    refine ⟨d, rfl, isi_go hc ⟨_, rfl, ?_⟩⟩
    rw [c, Bool.true_and] at e1
    rw [e1]
    exact h
  | false =>
    rw [c, Bool.false_and] at e1
    show q (.bl false)
    rw [e1]
    exact h
abbrev s_is_int_within : Stmt := top 10
abbrev N_is_int_within : List Str := ["value", "low", "high"]
theorem sc_is_int_within : FnScope N_is_int_within ["value", "low", "high"] (defScope s_is_int_within) := ⟨rfl, rfl, rfl, by decide +kernel, rfl, by decide +kernel, by decide +kernel⟩
def sdWithin (K : PySem.W.Frag) : SpD := fun ds q _ => ∃ d lo hi, ds = [d, .int lo, .int hi] ∧ clsOk K d ∧ q (.bl (withinD lo hi d))
theorem ok_is_int_within (T : Blt mg) (D_is_plain_int : DefOk P w K mg base CX0 1 "is_plain_int" (spOf (sdPlain K))) (D : DefAt K mg "is_int_within" s_is_int_within ["value", "low", "high"]) : DefOk P w K mg base CX0 2 "is_int_within" (spOf (sdWithin K)) := by
  refine DefAtD.ok D sc_is_int_within (fun ds q e h => by obtain ⟨d, lo, hi, rfl, _⟩ := h; rfl) (fun f cdv A outer s H E hr => ⟨_, _, (pss_one (ps_ret (pe_and (pe_def D_is_plain_int hr (by decide) passE (pa_cons (pv 0) pa_nil)) (pe_one (pe_chain op_le op_le (pv 1) (pv 0) (pv 2)))))), (ss_ret (si_andV (si_def (si_cons si_var si_nil)) (si_chain si_var si_var si_var sr_B0 sr_B0))), fun ds q e h => ?_⟩)
  obtain ⟨d, lo, hi, rfl, hc, h⟩ := h
  refine ⟨d, rfl, d, rfl, hc, _, rfl, ?_⟩
  cases d with
  | int i =>
    refine ⟨_, rfl, _, rfl, trivial, _, rfl, ?_⟩
    by_cases c : lo ≤ i
    · rw [decide_eq_true c]
      refine ⟨_, rfl, trivial, ?_⟩
      have e1 : withinD lo hi (.int i) = decide (i ≤ hi) := by show (decide (lo ≤ i) && decide (i ≤ hi)) = _; rw [decide_eq_true c, Bool.true_and]
      rw [e1] at h
      exact h
    · rw [decide_eq_false c]
      have e1 : withinD lo hi (.int i) = false := by show (decide (lo ≤ i) && decide (i ≤ hi)) = _; rw [decide_eq_false c, Bool.false_and]
      rw [e1] at h
      exact h
  | _ => exact h
/-- what the top has made of the class Exchange -/
structure ExC (K : PySem.W.Frag) (mg : Str → Option Value) (C : Addr) : Prop where
  t : ClsT K C
  nI : NoAttr K C "ins"
  nO : NoAttr K C "outs"
  nM : NoAttr K C "middles"
abbrev s_is_pair : Stmt := top 12
abbrev N_is_pair : List Str := ["exchange", "thing", "i", "o"]
theorem sc_is_pair : FnScope N_is_pair ["exchange", "thing"] (defScope s_is_pair) := ⟨rfl, rfl, rfl, by decide +kernel, rfl, by decide +kernel, by decide +kernel⟩
def sdIsPair (K : PySem.W.Frag) (C : Addr) : SpD := fun ds q _ => ∃ is os m d, ds = [exD C is os m, d] ∧ clsA K d ∧ q (.bl (isPairD is.length os.length d))
theorem ok_is_pair {C : Addr} (T : Blt mg) (X : ExC K mg C) (D_is_int_within : DefOk P w K mg base CX0 2 "is_int_within" (spOf (sdWithin K))) (D : DefAt K mg "is_pair" s_is_pair ["exchange", "thing"]) : DefOk P w K mg base CX0 3 "is_pair" (spOf (sdIsPair K C)) := by
  refine DefAtD.ok D sc_is_pair (fun ds q e h => by obtain ⟨_, _, _, _, rfl, _⟩ := h; rfl) (fun f cdv A outer s H E hr => ?_)
  have hu := hr.units
  refine ⟨_, _, (pss_cons (ps_if (PW.pt (pw_or (pt_not (pt_val (pe_callB (cl_isi K) (by rfl) T.z_isinstance (by decide +kernel) (pa_cons (pv 1) (pa_cons (pe_bltn (v := .ty "tuple") (by rfl) T.z_tuple (by decide +kernel) rfl) pa_nil))))) (pw_or1 (pt_cmpR (neD K hu) (pe_callB (cl_len K) (by rfl) T.z_len (by decide +kernel) (pa_cons (pv 1) pa_nil)) pe_int (nomark _)))))
      (pss_one (ps_ret pe_bl))
      pss_nil)
    (pss_cons (ps_asg (pv 1) (pgT K (pgs_cons (pg_name (i := 2) sc_is_pair.nd rfl (Or.inl rfl)) (pgs_cons (pg_name (i := 3) sc_is_pair.nd rfl (Or.inl rfl)) pgs_nil))))
    (pss_one (ps_ret (pe_and (pe_def D_is_int_within hr (by decide) passE (pa_cons (pv 2) (pa_cons pe_int (pa_cons (pe_op op_sub (pe_callB (cl_len K) (by rfl) T.z_len (by decide +kernel) (pa_cons (pe_fldK K (pv 0)) pa_nil)) pe_int) pa_nil)))) (pe_one (pe_def D_is_int_within hr (by decide) passE (pa_cons (pv 3) (pa_cons pe_int (pa_cons (pe_op op_sub (pe_callB (cl_len K) (by rfl) T.z_len (by decide +kernel) (pa_cons (pe_fldK K (pv 0)) pa_nil)) pe_int) pa_nil)))))))))), (ss_seq (ss_if (si_or (si_not (si_B (si_isi (.ty "tuple") si_var))) (si_test (si_op (si_cb (si_cons si_var si_nil) sc_len) si_int sr_ne)))
      (ss_ret si_bl)
      ss_nx)
    (ss_seq (ss_asg si_var (sg_tup (sg_cons sg_name (sg_cons sg_name sg_nil))))
    (ss_ret (si_andV (si_def (si_cons si_var (si_cons si_int (si_cons (si_op (si_cb (si_cons (si_fld X.t.cl X.nI si_var) si_nil) sc_len) si_int sr_I0) si_nil)))) (si_def (si_cons si_var (si_cons si_int (si_cons (si_op (si_cb (si_cons (si_fld X.t.cl X.nO si_var) si_nil) sc_len) si_int sr_I0) si_nil)))))))), fun ds q e h => ?_⟩
  obtain ⟨is, os, m, d, rfl, hc, h⟩ := h
  refine ⟨d, rfl, isi_go hc.ok ⟨_, rfl, ?_⟩⟩
  cases d with
  | tup xs =>
    refine ifFF ⟨_, rfl, go_lenT (go_neI ⟨_, rfl, ?_⟩)⟩
    by_cases c : ((xs.length : Nat) : Int) = 2
    · rw [decide_eq_true c]
      obtain ⟨a, b, rfl⟩ : ∃ a b, xs = [a, b] := by
        match xs, c with
        | [a, b], _ => exact ⟨a, b, rfl⟩
        | [], c => simp at c
        | [a], c => simp at c
        | a :: b :: c :: r, h => simp only [List.length_cons] at h; omega
      have ca := clsA.tup.mp hc a (by simp)
      have cb := clsA.tup.mp hc b (by simp)
      refine ifFF ⟨_, rfl, _, rfl, rfl, _, _, rfl, _, _, rfl, rfl, ?_⟩
      refine ⟨_, rfl, _, rfl, _, _, _, rfl, rfl, go_lenT ⟨trivial, _, _, _, rfl, ca.ok, _, rfl, ?_⟩⟩
      have e : isPairD is.length os.length (.tup [a, b]) = (withinD 0 ((is.length : Int) - 1) a && withinD 0 ((os.length : Int) - 1) b) := by
        unfold isPairD
        cases a with
        | int i =>
          cases b with
          | int o =>
            show (if 0 ≤ i ∧ i < (is.length : Int) ∧ 0 ≤ o ∧ o < (os.length : Int) then some (i, o) else none).isSome = ((decide (0 ≤ i) && decide (i ≤ (is.length : Int) - 1)) && (decide (0 ≤ o) && decide (o ≤ (os.length : Int) - 1)))
            by_cases c : 0 ≤ i ∧ i < (is.length : Int) ∧ 0 ≤ o ∧ o < (os.length : Int)
            · rw [if_pos c, decide_eq_true c.1, decide_eq_true (show i ≤ (is.length : Int) - 1 by omega), decide_eq_true c.2.2.1, decide_eq_true (show o ≤ (os.length : Int) - 1 by omega)]
              rfl
            · rw [if_neg c]
              symm
              show _ = false
              rw [Bool.eq_false_iff]
              intro h
              simp only [Bool.and_eq_true, decide_eq_true_eq] at h
              omega
          | _ => simp [pairOf, withinD]
        | _ => simp [pairOf, withinD]
      rw [e] at h
      have l1 : (is.map Dt.D.int).length = is.length := List.length_map ..
      have l2 : (os.map Dt.D.int).length = os.length := List.length_map ..
      rw [l1]
      cases c1 : withinD 0 ((is.length : Int) - 1) a with
      | true =>
        rw [c1, Bool.true_and] at h
        refine ifTT ⟨_, rfl, _, rfl, _, _, _, rfl, rfl, go_lenT ⟨trivial, _, _, _, rfl, cb.ok, ?_⟩⟩
        rw [l2]
        exact h
      | false =>
        rw [c1, Bool.false_and] at h
        exact ifFF h
    · rw [decide_eq_false c]
      have e : isPairD is.length os.length (.tup xs) = false := by
        unfold isPairD pairOf
        split
        · rename_i e
          cases e
          simp at c
        · rfl
      rw [e] at h
      exact ifTT h
  | _ => exact ifTT h
end
section
variable {P : Program} {w : World} {K : PySem.W.Frag} {mg : Str → Option Value} {base : Heap} {C : Addr}
def it0 : Dt.D → Dt.D
  | .tup [a, _] => a
  | _ => .non
def it1 : Dt.D → Dt.D
  | .tup [_, b] => b
  | _ => .non
abbrev s_is_load : Stmt := top 13
abbrev N_is_load : List Str := ["exchange", "thing", "pair", "ins", "i", "o", "outs"]
theorem sc_is_load : FnScope N_is_load ["exchange", "thing"] (defScope s_is_load) := ⟨rfl, rfl, rfl, by decide +kernel, rfl, by decide +kernel, by decide +kernel⟩
def sdIsLoad (K : PySem.W.Frag) (C : Addr) : SpD := fun ds q _ => ∃ is os m d, ds = [exD C is os m, d] ∧ is.length ≤ 60 ∧ clsA K d ∧ q (.bl (isLoadD is.length os.length d))
theorem ok_is_load (T : Blt mg) (X : ExC K mg C) (D_is_pair : DefOk P w K mg base CX0 3 "is_pair" (spOf (sdIsPair K C))) (Df : DefAt K mg "is_load" s_is_load ["exchange", "thing"]) : DefOk P w K mg base CX0 4 "is_load" (spOf (sdIsLoad K C)) := by
  refine DefAtD.ok Df sc_is_load (fun ds q e h => by obtain ⟨_, _, _, _, rfl, _⟩ := h; rfl) (fun f cdv A outer s H E hr => ?_)
  have hu := hr.units
  refine ⟨_, _, (pss_cons (ps_if (PW.pt (pw_or (pt_not (pt_val (pe_callB (cl_isi K) (by rfl) T.z_isinstance (by decide +kernel) (pa_cons (pv 1) (pa_cons (pe_bltn (v := .ty "tuple") (by rfl) T.z_tuple (by decide +kernel) rfl) pa_nil))))) (pw_or1 (pt_cmpR op_gt (pe_callB (cl_len K) (by rfl) T.z_len (by decide +kernel) (pa_cons (pv 1) pa_nil)) (pe_callB (cl_len K) (by rfl) T.z_len (by decide +kernel) (pa_cons (pe_fldK K (pv 0)) pa_nil)) (nomark _)))))
      (pss_one (ps_ret pe_bl))
      pss_nil)
    (pss_cons (ps_if (pt_not (pt_val (pe_callB (cl_all K) (by rfl) T.z_all (by decide +kernel) (pa_cons (pe_lc (own := [("pair", 2)]) (g := gName 2) (tt := tYes) rfl sc_is_load.nd (pi_seq K (pv 1)) (blkOk_by (N := N_is_load) (sc := defScope s_is_load) (by decide +kernel)) (fun _ _ _ _ _ => (pg_name (i := 2) sc_is_load.nd rfl (Or.inl rfl))) (fun _ _ _ _ _ => pts_nil) (fun _ _ _ _ _ => (pe_def D_is_pair hr (by decide) passE (pa_cons (pv 0) (pa_cons (pv 2) pa_nil))))) pa_nil))))
      (pss_one (ps_ret pe_bl))
      pss_nil)
    (pss_cons (ps_setLc (i := 3) (own := [("i", 4), ("o", 5)]) (g := gTup K 2 (gCons (gName 4) (gCons (gName 5) gNil))) (tt := tYes) rfl sc_is_load.nd rfl rfl (sw_true rfl rfl rfl (by decide +kernel)) (pi_seq K (pv 1)) (blkOk_by (N := N_is_load) (sc := defScope s_is_load) (by decide +kernel)) (fun _ _ _ _ _ => (pgT K (pgs_cons (pg_name (i := 4) sc_is_load.nd rfl (Or.inl rfl)) (pgs_cons (pg_name (i := 5) sc_is_load.nd rfl (Or.inl rfl)) pgs_nil)))) (fun _ _ _ _ _ => pts_nil) (fun _ _ _ _ _ => (pv 4)))
    (pss_cons (ps_setLc (i := 6) (own := [("i", 4), ("o", 5)]) (g := gTup K 2 (gCons (gName 4) (gCons (gName 5) gNil))) (tt := tYes) rfl sc_is_load.nd rfl rfl (sw_true rfl rfl rfl (by decide +kernel)) (pi_seq K (pv 1)) (blkOk_by (N := N_is_load) (sc := defScope s_is_load) (by decide +kernel)) (fun _ _ _ _ _ => (pgT K (pgs_cons (pg_name (i := 4) sc_is_load.nd rfl (Or.inl rfl)) (pgs_cons (pg_name (i := 5) sc_is_load.nd rfl (Or.inl rfl)) pgs_nil)))) (fun _ _ _ _ _ => pts_nil) (fun _ _ _ _ _ => (pv 5)))
    (pss_one (ps_ret (pe_and (pe_cmpR (eqD K hu) (pv 3) (pe_callB (cr_sortedSet rfl) (by rfl) T.z_sorted (by decide +kernel) (pa_cons (pe_callTy (cr_setI rfl) (by rfl) T.z_set (by decide +kernel) (pa_cons (pv 3) pa_nil)) pa_nil)) (nomark _)) (pe_one (pe_cmpR (eqD K hu) (pe_callB (cl_len K) (by rfl) T.z_len (by decide +kernel) (pa_cons (pv 6) pa_nil)) (pe_callB cl_lenSet (by rfl) T.z_len (by decide +kernel) (pa_cons (pe_callTy (cr_setI rfl) (by rfl) T.z_set (by decide +kernel) (pa_cons (pv 6) pa_nil)) pa_nil)) (nomark _)))))))))), (ss_seq (ss_if (si_or (si_not (si_B (si_isi (.ty "tuple") si_var))) (si_test (si_op (si_cb (si_cons si_var si_nil) sc_len) (si_cb (si_cons (si_fld X.t.cl X.nI si_var) si_nil) sc_len) sr_B0)))
      (ss_ret si_bl)
      ss_nx)
    (ss_seq (ss_if (si_not (si_B (si_cb (si_cons (si_lc (si_seq si_var) sg_name si_yes (si_def (si_cons si_var (si_cons si_var si_nil))) (by decide)) si_nil) sc_all)))
      (ss_ret si_bl)
      ss_nx)
    (ss_seq (ss_asg (si_lc (si_seq si_var) (sg_tup (sg_cons sg_name (sg_cons sg_name sg_nil))) si_yes si_var (by decide)) sg_name)
    (ss_seq (ss_asg (si_lc (si_seq si_var) (sg_tup (sg_cons sg_name (sg_cons sg_name sg_nil))) si_yes si_var (by decide)) sg_name)
    (ss_ret (si_andV (si_op si_var (si_srtSet si_var) sr_eq) (si_op (si_cb (si_cons si_var si_nil) sc_len) (si_lenSet si_var) sr_eq))))))), fun ds q e h => ?_⟩
  obtain ⟨is, os, m, d, rfl, h60, hc, h⟩ := h
  have l1 : (is.map Dt.D.int).length = is.length := List.length_map ..
  refine ⟨d, rfl, isi_go hc.ok ⟨_, rfl, ?_⟩⟩
  cases d with
  | tup xs =>
    refine ifFF ⟨_, rfl, go_lenT ⟨_, rfl, _, _, _, rfl, rfl, go_lenT ⟨trivial, _, rfl, ?_⟩⟩⟩
    rw [l1]
    by_cases c : ((is.length : Nat) : Int) < ((xs.length : Nat) : Int)
    · rw [decide_eq_true c]
      have e : isLoadD is.length os.length (.tup xs) = false := by
        cases q : loadOf is.length os.length (.tup xs) with
        | none => unfold isLoadD; rw [q]; rfl
        | some L =>
          obtain ⟨e1, e2⟩ := loadOf_some q
          have := e2.len
          injection e1 with e1
          rw [e1, List.length_map] at c
          omega
      rw [e] at h
      exact ifTT h
    rw [decide_eq_false c]
    refine ifFF ⟨_, rfl, xs, .inl rfl, lcL_map (fun d => .bl (isPairD is.length os.length d)) xs [] (by show 0 + _ ≤ _; omega) (fun d hd Q hQ => ⟨_, rfl, d, rfl, _, _, _, _, rfl, clsA.tup.mp hc d hd, hQ⟩) ?_⟩
    refine ⟨xs.map (isPairD is.length os.length), by rw [List.map_map]; rfl, _, rfl, ?_⟩
    rw [pairsOf_all]
    cases e : pairsOf is.length os.length xs with
    | none =>
      rw [isLoadD_tup, e] at h
      exact ifTT h
    | some L =>
      rw [isLoadD_tup, e] at h
      obtain ⟨rfl, hp⟩ := pairsOf_some e
      rw [List.length_map] at c
      refine ifFF ⟨_, rfl, _, .inl rfl, lcL_map it0 _ [] (by rw [List.length_map]; show 0 + _ ≤ _; omega) (fun d hd Q hQ => ?_) ?_⟩
      · obtain ⟨p, _, rfl⟩ := List.mem_map.mp hd
        exact ⟨_, rfl, rfl, _, _, rfl, _, _, rfl, rfl, _, rfl, hQ⟩
      refine ⟨_, rfl, _, .inl rfl, lcL_map it1 _ [] (by rw [List.length_map]; show 0 + _ ≤ _; omega) (fun d hd Q hQ => ?_) ?_⟩
      · obtain ⟨p, _, rfl⟩ := List.mem_map.mp hd
        exact ⟨_, rfl, rfl, _, _, rfl, _, _, rfl, rfl, _, rfl, hQ⟩
      have e0 : (L.map Dt.pairD).map it0 = (L.map (·.1)).map Dt.D.int := by rw [List.map_map, List.map_map]; rfl
      have e1 : (L.map Dt.pairD).map it1 = (L.map (·.2)).map Dt.D.int := by rw [List.map_map, List.map_map]; rfl
      rw [List.nil_append, List.nil_append, e0, e1]
      have lL1 : (L.map (·.1)).length = L.length := List.length_map ..
      have lL2 : (L.map (·.2)).length = L.length := List.length_map ..
      refine ⟨_, rfl, _, rfl, L.map (·.1), rfl, by omega, fun ks as hk => go_eqLI ⟨_, rfl, ?_⟩⟩
      rw [asc_dec as hk]
      have hb : (decide (L.length ≤ is.length) && ascB L) = (decide ((L.map (·.1)).Pairwise (· < ·)) && decide (L.map (·.2)).Nodup) := by
        rw [decide_eq_true (show L.length ≤ is.length by omega), Bool.true_and]
        rfl
      have h : q (.bl (decide (L.length ≤ is.length) && ascB L)) := h
      rw [hb] at h
      cases c2 : decide ((L.map (·.1)).Pairwise (· < ·)) with
      | false =>
        rw [c2, Bool.false_and] at h
        exact ifFF h
      | true =>
        rw [c2, Bool.true_and] at h
        refine ifTT ⟨_, rfl, go_lenL ⟨_, rfl, L.map (·.2), rfl, by omega, fun ks nd hk => go_eqI ?_⟩⟩
        have e3 : decide (((((L.map (·.2)).map Dt.D.int).length : Nat) : Int) = ((ks.length : Nat) : Int)) = decide (L.map (·.2)).Nodup := by
          rw [← nd_dec nd hk]
          refine decide_eq_decide.mpr ?_
          rw [List.length_map]
          omega
        rw [e3]
        exact h
  | _ => exact ifTT h
end
end K39
set_option Elab.async false
set_option linter.all false
set_option maxRecDepth 100000
set_option maxHeartbeats 4000000
namespace K39
open PySem PySem.Spec PyProof.Rows L2 Com Sd StV Gn Ext Dt
/-- an exchange as it is made -/
structure GE (ds es : List Int) (m : Int) : Prop where
  gi : Good ds
  go : Good es
  m1 : 1 ≤ m
  m2 : m ≤ 7
section
variable {P : Program} {w : World} {K : PySem.W.Frag} {mg : Str → Option Value} {base : Heap} {C : Addr}
def lsD (ns : List Int) : Dt.D := .lst (ns.map .int)
abbrev s_doors_left : Stmt := top 21
abbrev N_doors_left : List Str := ["exchange", "standing", "ins", "outs", "load", "i", "o"]
theorem sc_doors_left : FnScope N_doors_left ["exchange", "standing"] (defScope s_doors_left) := ⟨rfl, rfl, rfl, by decide +kernel, rfl, by decide +kernel, by decide +kernel⟩
def sdDoorsLeft (C : Addr) : SpD := fun xs q _ => ∃ ds es m S, xs = [exD C ds es m, stD S] ∧ (∀ L ∈ S, ∀ p ∈ L, InP ds.length es.length p) ∧ q (.tup [lsD (left ds (fs S)), lsD (left es (sn S))])
/-- one door less -/
theorem dl_step {ds is : List Int} {i : Int} (h0 : 0 ≤ i) (h1 : i < ds.length) {Q : Ev → Prop} {ρ : Ev} {k : Nat} (h : Q (ρ.set k (some (.own ((left ds (is ++ [i])).map Dt.D.int))))) :
    ∃ kk j x, (Dt.D.int i) = .int kk ∧ ixN ((left ds is).map Dt.D.int).length kk = some j ∧ ((left ds is).map Dt.D.int)[j]? = some x ∧ fI (fun _ _ => True) (fun i j => .int (i - j)) x (.int 1) fun z => Q (ρ.set k (some (.own (((left ds is).map Dt.D.int).set j z)))) := by
  obtain ⟨n, rfl⟩ := Int.eq_ofNat_of_zero_le h0
  have l1 := left_len ds is
  have hx : (left ds is)[n]? = some (left ds is)[n] := List.getElem?_eq_getElem (by omega)
  refine ⟨_, n, .int (left ds is)[n], rfl, ?_, by rw [List.getElem?_map, hx]; rfl, trivial, ?_⟩
  · unfold ixN
    rw [if_pos (by omega), if_pos (by rw [List.length_map]; omega)]
    simp
  · rw [← left_snoc hx] at h
    rw [List.map_set] at h
    exact h
theorem ok_doors_left (T : Blt mg) (X : ExC K mg C) (Df : DefAt K mg "doors_left" s_doors_left ["exchange", "standing"]) : DefOk P w K mg base CX0 1 "doors_left" (spOf (sdDoorsLeft C)) := by
  refine DefAtD.ok Df sc_doors_left (fun ds q e h => by obtain ⟨_, _, _, _, rfl, _⟩ := h; rfl) (fun f cdv A outer s H E hr => ?_)
  refine ⟨_, _, (pss_cons (ps_par (i := 2) (j := 3) rfl sc_doors_left.nd rfl rfl (by decide) rfl rfl (pa_cons (pe_callTy (cl_list K) (by rfl) T.z_list (by decide +kernel) (pa_cons (pe_fldK K (pv 0)) pa_nil)) (pa_cons (pe_callTy (cl_list K) (by rfl) T.z_list (by decide +kernel) (pa_cons (pe_fldK K (pv 0)) pa_nil)) pa_nil)) rfl)
    (pss_cons (ps_for PassesOwn.never rfl (pi_seq K (pv 1)) (pg_name (i := 4) sc_doors_left.nd rfl (Or.inl rfl))
      (pss_one (ps_for PassesOwn.never rfl (pi_seq K (pv 4)) (pgT K (pgs_cons (pg_name (i := 5) sc_doors_left.nd rfl (Or.inl rfl)) (pgs_cons (pg_name (i := 6) sc_doors_left.nd rfl (Or.inl rfl)) pgs_nil)))
        (pss_cons (ps_augS (pv 2) (pv 5) (getL K) pe_int ip_sub set_list)
        (pss_one (ps_augS (pv 3) (pv 6) (getL K) pe_int ip_sub set_list))))))
    (pss_one (ps_ret (pe_tup (pa_cons (pv 2) (pa_cons (pv 3) pa_nil))))))), (ss_seq (ss_own2 (sn_cb (si_cons (si_fld X.t.cl X.nI si_var) si_nil) scn_list) (sn_cb (si_cons (si_fld X.t.cl X.nO si_var) si_nil) scn_list))
    (ss_seq (ss_for (si_seq si_var) sg_name
      (ss_for (si_seq si_var) (sg_tup (sg_cons sg_name (sg_cons sg_name sg_nil)))
        (ss_seq (ss_augS si_int si_var ip_I)
        (ss_augS si_int si_var ip_I))))
    (ss_frz (i := 3) (ss_frz (i := 2) (ss_ret (si_tup (si_cons si_var (si_cons si_var si_nil)))))))), fun ds q e h => ?_⟩
  obtain ⟨ds, es, m, S, rfl, hR, h⟩ := h
  refine ⟨_, rfl, _, _, _, rfl, rfl, ds.map Dt.D.int, .inl rfl, _, rfl, _, _, _, rfl, rfl, es.map Dt.D.int, .inl rfl, ?_⟩
  refine ⟨_, rfl, S.map ldD, .inl rfl, loop_inv (fun i ρ => ∃ w1 w2 w3, ρ = [some (.d (exD C ds es m)), some (.d (stD S)), some (.own ((left ds (fs (S.take i))).map .int)), some (.own ((left es (sn (S.take i))).map .int)), w1, w2, w3]) _ 0 _ ⟨none, none, none, ?_⟩ ?_ ?_⟩
  · rw [List.take_zero, show fs [] = [] from rfl, show sn [] = [] from rfl, left_nil, left_nil]
    rfl
  · rintro k x ρ N hk ⟨w1, w2, w3, rfl⟩ hN
    rw [Nat.zero_add] at hN ⊢
    rw [List.getElem?_map] at hk
    cases hL : S[k]? with
    | none => rw [hL] at hk; cases hk
    | some L =>
      rw [hL] at hk
      cases hk
      have eS : S.take (k + 1) = S.take k ++ [L] := by
        rw [List.take_add_one, hL]
        rfl
      have ef : fs (S.take (k + 1)) = fs (S.take k) ++ L.map (·.1) := by
        rw [eS]; simp [fs]
      have es' : sn (S.take (k + 1)) = sn (S.take k) ++ L.map (·.2) := by
        rw [eS]; simp [sn]
      refine ⟨_, rfl, L.map Dt.pairD, .inl rfl, loop_inv (fun j ρ => ∃ w1 w2 w3, ρ = [some (.d (exD C ds es m)), some (.d (stD S)), some (.own ((left ds (fs (S.take k) ++ (L.take j).map (·.1))).map .int)), some (.own ((left es (sn (S.take k) ++ (L.take j).map (·.2))).map .int)), w1, w2, w3]) _ 0 _ ⟨some (.d (ldD L)), w2, w3, ?_⟩ ?_ ?_⟩
      · simp
      · rintro j x ρ N2 hj ⟨w1, w2, w3, rfl⟩ hN2
        rw [Nat.zero_add] at hN2 ⊢
        rw [List.getElem?_map] at hj
        cases hp : L[j]? with
        | none => rw [hp] at hj; cases hj
        | some p =>
          rw [hp] at hj
          cases hj
          obtain ⟨r1, r2, r3, r4⟩ := hR L (List.mem_of_getElem? hL) p (List.mem_of_getElem? hp)
          have eL : L.take (j + 1) = L.take j ++ [p] := by
            rw [List.take_add_one, hp]
            rfl
          refine ⟨_, rfl, rfl, _, _, rfl, _, _, rfl, rfl, ?_⟩
          refine ⟨_, rfl, _, rfl, dl_step r1 r2 (ρ := [some (.d (exD C ds es m)), some (.d (stD S)), some (.own ((left ds (fs (S.take k) ++ (L.take j).map (·.1))).map .int)), some (.own ((left es (sn (S.take k) ++ (L.take j).map (·.2))).map .int)), w1, some (.d (.int p.1)), some (.d (.int p.2))]) ?_⟩
          refine ⟨_, rfl, _, rfl, dl_step r3 r4 (ρ := [some (.d (exD C ds es m)), some (.d (stD S)), some (.own ((left ds (fs (S.take k) ++ (L.take j).map (·.1) ++ [p.1])).map .int)), some (.own ((left es (sn (S.take k) ++ (L.take j).map (·.2))).map .int)), w1, some (.d (.int p.1)), some (.d (.int p.2))]) ?_⟩
          refine hN2 _ ⟨w1, some (.d (.int p.1)), some (.d (.int p.2)), ?_⟩
          rw [eL, List.map_append, List.map_append, List.append_assoc, List.append_assoc]
          rfl
      · rintro ρ ⟨w1, w2, w3, rfl⟩
        refine hN _ ⟨w1, w2, w3, ?_⟩
        rw [Nat.zero_add, List.length_map, List.take_length, ef, es']
  · rintro ρ ⟨w1, w2, w3, rfl⟩
    rw [Nat.zero_add, List.length_map, List.take_length]
    exact ⟨_, rfl, _, rfl, _, rfl, _, rfl, (by show 2 ≤ sizeLine; decide), h⟩
abbrev s_is_standing : Stmt := top 23
abbrev N_is_standing : List Str := ["exchange", "thing", "load", "ins", "outs"]
theorem sc_is_standing : FnScope N_is_standing ["exchange", "thing"] (defScope s_is_standing) := ⟨rfl, rfl, rfl, by decide +kernel, rfl, by decide +kernel, by decide +kernel⟩
def sdIsSta (K : PySem.W.Frag) (C : Addr) : SpD := fun xs q _ => ∃ ds es m d, xs = [exD C ds es m, d] ∧ 1 ≤ ds.length ∧ ds.length ≤ 60 ∧ 1 ≤ es.length ∧ es.length ≤ 60 ∧ m ≤ 1000 ∧ clsA K d ∧ q (.bl (isStaD ds es m d))
theorem ok_is_standing (T : Blt mg) (X : ExC K mg C) (D_is_load : DefOk P w K mg base CX0 4 "is_load" (spOf (sdIsLoad K C))) (D_doors_left : DefOk P w K mg base CX0 1 "doors_left" (spOf (sdDoorsLeft C))) (Df : DefAt K mg "is_standing" s_is_standing ["exchange", "thing"]) : DefOk P w K mg base CX0 5 "is_standing" (spOf (sdIsSta K C)) := by
  refine DefAtD.ok Df sc_is_standing (fun ds q e h => by obtain ⟨_, _, _, _, rfl, _⟩ := h; rfl) (fun f cdv A outer s H E hr => ?_)
  have hu := hr.units
  refine ⟨_, _, (pss_cons (ps_if (PW.pt (pw_or (pt_not (pt_val (pe_callB (cl_isi K) (by rfl) T.z_isinstance (by decide +kernel) (pa_cons (pv 1) (pa_cons (pe_bltn (v := .ty "tuple") (by rfl) T.z_tuple (by decide +kernel) rfl) pa_nil))))) (pw_or1 (pt_cmpR (neD K hu) (pe_callB (cl_len K) (by rfl) T.z_len (by decide +kernel) (pa_cons (pv 1) pa_nil)) (pe_fldK K (pv 0)) (nomark _)))))
      (pss_one (ps_ret pe_bl))
      pss_nil)
    (pss_cons (ps_if (pt_not (pt_val (pe_callB (cl_all K) (by rfl) T.z_all (by decide +kernel) (pa_cons (pe_lc (own := [("load", 2)]) (g := gName 2) (tt := tYes) rfl sc_is_standing.nd (pi_seq K (pv 1)) (blkOk_by (N := N_is_standing) (sc := defScope s_is_standing) (by decide +kernel)) (fun _ _ _ _ _ => (pg_name (i := 2) sc_is_standing.nd rfl (Or.inl rfl))) (fun _ _ _ _ _ => pts_nil) (fun _ _ _ _ _ => (pe_def D_is_load hr (by decide) passE (pa_cons (pv 0) (pa_cons (pv 2) pa_nil))))) pa_nil))))
      (pss_one (ps_ret pe_bl))
      pss_nil)
    (pss_cons (ps_asg (pe_def D_doors_left hr (by decide) passE (pa_cons (pv 0) (pa_cons (pv 1) pa_nil))) (pgT K (pgs_cons (pg_name (i := 3) sc_is_standing.nd rfl (Or.inl rfl)) (pgs_cons (pg_name (i := 4) sc_is_standing.nd rfl (Or.inl rfl)) pgs_nil))))
    (pss_one (ps_ret (pe_and (pe_cmpR op_ge (pe_callB (cr_min rfl) (by rfl) T.z_min (by decide +kernel) (pa_cons (pv 3) pa_nil)) pe_int (nomark _)) (pe_one (pe_cmpR op_ge (pe_callB (cr_min rfl) (by rfl) T.z_min (by decide +kernel) (pa_cons (pv 4) pa_nil)) pe_int (nomark _))))))))), (ss_seq (ss_if (si_or (si_not (si_B (si_isi (.ty "tuple") si_var))) (si_test (si_op (si_cb (si_cons si_var si_nil) sc_len) (si_fld X.t.cl X.nM si_var) sr_ne)))
      (ss_ret si_bl)
      ss_nx)
    (ss_seq (ss_if (si_not (si_B (si_cb (si_cons (si_lc (si_seq si_var) sg_name si_yes (si_def (si_cons si_var (si_cons si_var si_nil))) (by decide)) si_nil) sc_all)))
      (ss_ret si_bl)
      ss_nx)
    (ss_seq (ss_asg (si_def (si_cons si_var (si_cons si_var si_nil))) (sg_tup (sg_cons sg_name (sg_cons sg_name sg_nil))))
    (ss_ret (si_andV (si_op (si_cb (si_cons si_var si_nil) sc_min) si_int sr_B0) (si_op (si_cb (si_cons si_var si_nil) sc_min) si_int sr_B0)))))), fun ds q e h => ?_⟩
  obtain ⟨ds, es, m, d, rfl, d1, d2, e1, e2, m1, hc, h⟩ := h
  refine ⟨d, rfl, isi_go hc.ok ⟨_, rfl, ?_⟩⟩
  cases d with
  | tup xs =>
    refine ifFF ⟨_, rfl, go_lenT ⟨_, rfl, _, _, _, rfl, rfl, go_neI ⟨_, rfl, ?_⟩⟩⟩
    rw [isStaD_tup] at h
    by_cases c : ((xs.length : Nat) : Int) = m
    · rw [decide_eq_true c] at h ⊢
      rw [Bool.true_and] at h
      refine ifFF ⟨_, rfl, xs, .inl rfl, lcL_map (fun d => .bl (isLoadD ds.length es.length d)) xs [] (by show 0 + _ ≤ _; omega) (fun d hd Q hQ => ⟨_, rfl, d, rfl, _, _, _, _, rfl, d2, clsA.tup.mp hc d hd, hQ⟩) ?_⟩
      refine ⟨xs.map (isLoadD ds.length es.length), by rw [List.map_map]; rfl, _, rfl, ?_⟩
      rw [loadsOf_all]
      cases e : loadsOf ds.length es.length xs with
      | none =>
        rw [e] at h
        exact ifTT h
      | some S =>
        rw [e] at h
        obtain ⟨rfl, hp⟩ := loadsOf_some e
        refine ifFF ⟨_, rfl, _, rfl, ds, es, m, S, rfl, fun L hL => (hp L hL).rng, _, rfl, rfl, _, _, rfl, _, _, rfl, rfl, ?_⟩
        have h : q (.bl (doorB ds es S)) := h
        refine ⟨_, rfl, left ds (fs S), rfl, by rw [left_len]; omega, fun a ha hm => ⟨trivial, _, rfl, ?_⟩⟩
        have eq1 : decide (∀ d ∈ left ds (fs S), 0 ≤ d) = decide (0 ≤ a) := decide_eq_decide.mpr ⟨fun z => z a ha, fun z d hd => by have := hm d hd; omega⟩
        unfold doorB at h
        rw [eq1] at h
        cases c1 : decide (0 ≤ a) with
        | false =>
          rw [c1, Bool.false_and] at h
          exact ifFF h
        | true =>
          rw [c1, Bool.true_and] at h
          refine ifTT ⟨_, rfl, left es (sn S), rfl, by rw [left_len]; omega, fun b hb hm2 => ⟨trivial, ?_⟩⟩
          have eq2 : decide (∀ d ∈ left es (sn S), 0 ≤ d) = decide (0 ≤ b) := decide_eq_decide.mpr ⟨fun z => z b hb, fun z d hd => by have := hm2 d hd; omega⟩
          rw [eq2] at h
          exact h
    · rw [decide_eq_false c] at h ⊢
      exact ifTT h
  | _ => exact ifTT h
end
end K39
set_option Elab.async false
set_option linter.all false
set_option maxRecDepth 100000
set_option maxHeartbeats 4000000
namespace K39
open PySem PySem.Spec PyProof.Rows L2 Com Sd StV Gn Ext Dt
/-! ### texts of signs -/
def digT (k : Nat) : Str := ⟨#[48 + k]⟩
theorem dig_facts : ∀ k < 10, Txt.isascii (digT k) = true ∧ Txt.isdigit (digT k) = true ∧ (digT k).length = 1 ∧ PySem.intText? (digT k) = some (k : Int) ∧ (toString (k : Int) : Str) = digT k := by decide +kernel
theorem dig_shaped : ∀ k < 10, SeqAt.shaped (.str (digT k)) = true ∧ PyData.eqv (.str (digT k)) (.str (digT k)) = true := by decide +kernel
theorem asc_dig : ∀ c < 128, Unicode.isDigit c = true → 48 ≤ c ∧ c < 58 := by decide +kernel
theorem dig_of {t : Str} (h1 : Txt.isascii t = true) (h2 : Txt.isdigit t = true) (h3 : t.length ≤ 1) : ∃ k, k < 10 ∧ t = digT k := by
  obtain ⟨⟨cs⟩⟩ := t
  have h2' : (decide (0 < cs.length) && (List.all cs Unicode.isDigit)) = true := by simpa [Txt.isdigit, Str.length] using h2
  have h1' : List.all cs (fun c => decide (c < 128)) = true := by simpa [Txt.isascii] using h1
  have h3' : cs.length ≤ 1 := by simpa [Str.length] using h3
  match cs, h1', h2', h3' with
  | [], _, h2', _ => simp at h2'
  | [c], h1', h2', _ =>
    simp at h1' h2'
    obtain ⟨a, b⟩ := asc_dig c h1' h2'
    refine ⟨c - 48, by omega, ?_⟩
    unfold digT
    rw [show 48 + (c - 48) = c by omega]
  | a :: b :: l, _, _, h3' => simp at h3'
/-- a text of n signs at most, all of ASCII -/
def OkT (n : Nat) (t : Str) : Prop := t.length ≤ n ∧ ∀ c ∈ t.cps.toList, c < 128
theorem spl_in {S : List Nat} : ∀ (l : List Nat) (k : Nat) (acc : List Nat), ∀ p ∈ TL.spl S k acc l, (∀ c ∈ p, c ∈ acc ∨ c ∈ l) ∧ p.length ≤ acc.length + l.length
  | [], k, acc, p, h => by
    rw [TL.spl_nil] at h
    rw [List.mem_singleton.mp h]
    exact ⟨fun c hc => .inl hc, by simp⟩
  | c :: r, 0, acc, p, h => by
    cases e : TL.pre S (c :: r) with
    | true =>
      rw [TL.spl_hit e] at h
      rcases List.mem_cons.mp h with rfl | h
      · exact ⟨fun c hc => .inl hc, by omega⟩
      · obtain ⟨a, b⟩ := spl_in r _ [] p h
        refine ⟨fun x hx => ?_, by rw [List.length_cons]; simp at b; omega⟩
        rcases a x hx with z | z
        · cases z
        · exact .inr (List.mem_cons_of_mem _ z)
    | false =>
      rw [TL.spl_miss e] at h
      obtain ⟨a, b⟩ := spl_in r 0 (acc ++ [c]) p h
      refine ⟨fun x hx => ?_, by rw [List.length_cons]; simp at b; omega⟩
      rcases a x hx with z | z
      · rcases List.mem_append.mp z with z | z
        · exact .inl z
        · rw [List.mem_singleton.mp z]; exact .inr (List.mem_cons_self ..)
      · exact .inr (List.mem_cons_of_mem _ z)
  | c :: r, k + 1, acc, p, h => by
    have h : p ∈ TL.spl S k acc r := h
    obtain ⟨a, b⟩ := spl_in r k acc p h
    exact ⟨fun x hx => (a x hx).imp id (List.mem_cons_of_mem _), by rw [List.length_cons]; omega⟩
theorem spl_ne {S : List Nat} : ∀ (l : List Nat) (k : Nat) (acc : List Nat), TL.spl S k acc l ≠ []
  | [], k, acc => by rw [TL.spl_nil]; simp
  | c :: r, 0, acc => by
    cases e : TL.pre S (c :: r) with
    | true => rw [TL.spl_hit e]; simp
    | false => rw [TL.spl_miss e]; exact spl_ne r 0 _
  | c :: r, k + 1, acc => spl_ne r k acc
theorem spl_len {S : List Nat} : ∀ (l : List Nat) (k : Nat) (acc : List Nat), (TL.spl S k acc l).length ≤ l.length + 1
  | [], k, acc => by rw [TL.spl_nil]; simp
  | c :: r, 0, acc => by
    cases e : TL.pre S (c :: r) with
    | true =>
      rw [TL.spl_hit e, List.length_cons, List.length_cons]
      have := spl_len (S := S) r (S.length - 1) []
      omega
    | false =>
      rw [TL.spl_miss e, List.length_cons]
      have := spl_len (S := S) r 0 (acc ++ [c])
      omega
  | c :: r, k + 1, acc => by
    have := spl_len (S := S) r k acc
    show (TL.spl S k acc r).length ≤ _
    rw [List.length_cons]
    omega
theorem split_len {n : Nat} {t b : Str} (hb : TL.tl b ≠ []) (hk : b.cps.all (· < 256) = true) (h : OkT n t) : (Txt.split t b).length ≤ n + 1 := by
  have e := congrArg List.length (TL.split_spl t b hb (TL.kind_ok hk))
  rw [List.length_map] at e
  have := spl_len (S := TL.tl b) (TL.tl t) 0 []
  have hl : t.length = (TL.tl t).length := by simp [Str.length, TL.tl]
  have := h.1
  omega
theorem split_ok {n : Nat} {t b : Str} (hb : TL.tl b ≠ []) (hk : b.cps.all (· < 256) = true) (h : OkT n t) : (∀ p ∈ Txt.split t b, OkT n p) ∧ Txt.split t b ≠ [] := by
  have e := TL.split_spl t b hb (TL.kind_ok hk)
  refine ⟨fun p hp => ?_, fun z => ?_⟩
  · have hm : TL.tl p ∈ TL.spl (TL.tl b) 0 [] (TL.tl t) := by rw [← e]; exact List.mem_map_of_mem hp
    obtain ⟨a1, a2⟩ := spl_in _ _ _ _ hm
    have hl : ∀ x : Str, x.length = (TL.tl x).length := fun x => by simp [Str.length, TL.tl]
    refine ⟨?_, fun c hc => ?_⟩
    · have := h.1
      rw [hl] at this ⊢
      have a3 : (TL.tl p).length ≤ (TL.tl t).length := by simpa only [List.length_nil, Nat.zero_add] using a2
      omega
    · rcases a1 c hc with z | z
      · cases z
      · exact h.2 c z
  · rw [z] at e
    exact spl_ne _ _ _ e.symm
/-- a separator of one sign -/
def SepT (b : Str) (c : Nat) : Prop := TL.tl b = [c] ∧ b.cps.all (· < 256) = true
theorem comma_s : SepT "," 44 := ⟨by decide +kernel, by decide +kernel⟩
theorem dash_s : SepT "-" 45 := ⟨by decide +kernel, by decide +kernel⟩
theorem slash_s : SepT "/" 47 := ⟨by decide +kernel, by decide +kernel⟩
theorem SepT.ne {b : Str} {c : Nat} (h : SepT b c) : TL.tl b ≠ [] := by rw [h.1]; simp
theorem spl_back {c : Nat} : ∀ (l acc : List Nat), TL.joinL [c] (TL.spl [c] 0 acc l) = acc ++ l
  | [], acc => by rw [TL.spl_nil, List.append_nil]; rfl
  | x :: r, acc => by
    cases e : TL.pre [c] (x :: r) with
    | true =>
      rw [TL.spl_hit e]
      show TL.joinL [c] (acc :: TL.spl [c] 0 [] r) = _
      have ex : x = c := by simpa [TL.pre] using e
      have ih := spl_back (c := c) r []
      have ne := spl_ne (S := [c]) r 0 []
      cases q : TL.spl [c] 0 [] r with
      | nil => exact absurd q ne
      | cons y ys =>
        rw [q] at ih
        show acc ++ ([c] ++ TL.joinL [c] (y :: ys)) = _
        rw [ih, ex]
        simp
    | false =>
      rw [TL.spl_miss e, spl_back r (acc ++ [x])]
      simp
theorem split_back {t b : Str} {c : Nat} (h : SepT b c) : Str.join b (Txt.split t b) = t := by
  refine TL.ext_tl ?_
  rw [TL.tl_join, TL.split_spl t b h.ne (TL.kind_ok h.2), h.1, spl_back]
  rfl
theorem txt_lay {n : Nat} {t : Str} (h : OkT n t) : PyData.canLay0 (.str t) = true := by
  rw [PyData.canLay0]
  show t.cps.all (· < 0x110000) = true
  rw [← Array.all_toList, List.all_eq_true]
  intro c hc
  have := h.2 c hc
  simp
  omega
theorem txt_shaped {n : Nat} {t : Str} (h : OkT n t) : SeqAt.shaped (.str t) = true := Et.shaped_of (txt_lay h) (by show 0 ≤ 64; decide)
theorem str_len (a b : Str) : (a ++ b).length = a.length + b.length := by
  show (a.cps ++ b.cps).size = a.cps.size + b.cps.size
  simp
theorem str_cps (a b : Str) : (a ++ b).cps.toList = a.cps.toList ++ b.cps.toList := by
  show (a.cps ++ b.cps).toList = _
  simp
theorem OkT.app {n m : Nat} {a b : Str} (h : OkT n a) (g : OkT m b) : OkT (n + m) (a ++ b) := ⟨by rw [str_len]; have := h.1; have := g.1; omega, fun c hc => by
  rw [str_cps] at hc
  rcases List.mem_append.mp hc with z | z
  · exact h.2 c z
  · exact g.2 c z⟩
theorem OkT.mono {n m : Nat} {a : Str} (h : OkT n a) (l : n ≤ m) : OkT m a := ⟨Nat.le_trans h.1 l, h.2⟩
theorem OkT.sz {n : Nat} {z : Str} (h : OkT n z) (l : n ≤ 1000) : z.length ≤ sizeLine := szle (Nat.le_trans h.1 (by omega))
theorem dig_ok : ∀ k < 10, OkT 1 (digT k) := fun k hk => ⟨Nat.le_of_eq (dig_facts k hk).2.2.1, fun c hc => by
  have e : c = 48 + k := by simpa [digT] using hc
  omega⟩
theorem str_dig {k : Int} (h0 : 0 ≤ k) (h1 : k < 10) : (toString k : Str) = digT k.toNat := by
  obtain ⟨n, rfl⟩ := Int.eq_ofNat_of_zero_le h0
  rw [(dig_facts n (by omega)).2.2.2.2, Int.toNat_natCast]
theorem join_glued (a : Str) (l : List Str) : PySem.Txt.join a l = Str.join a l := TL.join_eq a l
theorem one_ok {b : Str} {c : Nat} (h : SepT b c) (hc : c < 128) : OkT 1 b := by
  have e : b.cps.toList = [c] := h.1
  refine ⟨by show b.cps.size ≤ 1; rw [← Array.length_toList, e]; exact Nat.le_refl _, fun x hx => ?_⟩
  rw [e] at hx
  rw [List.mem_singleton.mp hx]
  exact hc
theorem join_ok {b : Str} {k : Nat} (hb : OkT 1 b) : ∀ {ts : List Str}, (∀ t ∈ ts, OkT k t) → OkT ((k + 1) * ts.length) (Str.join b ts)
  | [], _ => ⟨by show 0 ≤ _; omega, fun c hc => by cases hc⟩
  | [t], h => (h t (by simp)).mono (by simp)
  | t :: u :: r, h => by
    have ih := join_ok hb (ts := u :: r) fun x hx => h x (List.mem_cons_of_mem _ hx)
    show OkT _ (t ++ b ++ Str.join b (u :: r))
    refine (((h t (by simp)).app hb).app ih).mono ?_
    rw [List.length_cons (a := t), Nat.mul_add (k + 1) _ 1]
    omega
theorem join_chr {b : Str} {P : Nat → Prop} (hb : ∀ c ∈ TL.tl b, P c) : ∀ {ts : List Str}, (∀ t ∈ ts, ∀ c ∈ TL.tl t, P c) → ∀ c ∈ TL.tl (Str.join b ts), P c
  | [], _, c, hc => by cases hc
  | [t], h, c, hc => h t (by simp) c hc
  | t :: u :: r, h, c, hc => by
    have hc : c ∈ TL.tl (t ++ b ++ Str.join b (u :: r)) := hc
    rw [TL.tl_append, TL.tl_append, List.mem_append, List.mem_append] at hc
    rcases hc with (hc | hc) | hc
    · exact h t (by simp) c hc
    · exact hb c hc
    · exact join_chr hb (fun x hx => h x (List.mem_cons_of_mem _ hx)) c hc
/-! ### a pair, a load, a standing: written and read -/
def num3 (t : Str) : Option Int := ((List.range 4).find? fun k => decide (t = digT k)).map fun k => ((k : Nat) : Int)
def numD (t : Str) : Dt.D := match num3 t with
  | some k => .int k
  | none => .non
theorem num3_dig : ∀ k < 10, num3 (digT k) = if k < 4 then some (k : Int) else none := by decide +kernel
theorem num3_no {t : Str} (hn : ∀ k < 10, t ≠ digT k) : num3 t = none := by
  unfold num3
  rw [List.find?_eq_none.mpr fun k hk => by simpa using hn k (by have := List.mem_range.mp hk; omega)]
  rfl
theorem num3_some {t : Str} {k : Int} (e : num3 t = some k) : ∃ j : Nat, j < 4 ∧ t = digT j ∧ k = (j : Int) := by
  unfold num3 at e
  cases f : (List.range 4).find? fun k => decide (t = digT k) with
  | none => rw [f] at e; cases e
  | some j =>
    rw [f] at e
    have h1 := List.find?_some f
    have h2 := List.mem_of_find?_eq_some f
    refine ⟨j, List.mem_range.mp h2, by simpa using h1, ?_⟩
    have e : some ((j : Nat) : Int) = some k := e
    injection e with e
    exact e.symm
theorem numD_int {t : Str} {k : Int} (e : numD t = .int k) : num3 t = some k := by
  unfold numD at e
  cases q : num3 t with
  | none => rw [q] at e; cases e
  | some j => rw [q] at e; cases e; rfl
/-- a pair of small numbers -/
def Sml (p : PP) : Prop := 0 ≤ p.1 ∧ p.1 < 4 ∧ 0 ≤ p.2 ∧ p.2 < 4
def pairT (p : PP) : Str := (toString p.1 : Str) ++ "-" ++ (toString p.2 : Str)
def loadT (L : List PP) : Str := if L = [] then "." else Str.join "," (L.map pairT)
def staT (S : List (List PP)) : Str := Str.join "/" (S.map loadT)
def pD (t : Str) : Dt.D := .tup ((Txt.split t "-").map numD)
def lD (t : Str) : Dt.D := if t = "." then .tup [] else .tup ((Txt.split t ",").map pD)
def sD (t : Str) : Dt.D := .tup ((Txt.split t "/").map lD)
/-- a pair as the law reads it -/
def pairL (t : Str) : Option PP := match t.cps.toList with
  | [a, 45, b] => if 48 ≤ a ∧ a < 52 ∧ 48 ≤ b ∧ b < 52 then some (((a - 48 : Nat) : Int), ((b - 48 : Nat) : Int)) else none
  | _ => none
def pairsL : List Str → Option (List PP)
  | [] => some []
  | t :: ts => match pairL t, pairsL ts with
    | some p, some ps => some (p :: ps)
    | _, _ => none
def loadL (t : Str) : Option (List PP) := if t = "." then some [] else pairsL (Txt.split t ",")
def lLD (t : Str) : Dt.D := match loadL t with
  | some L => ldD L
  | none => .non
def sLD (t : Str) : Dt.D := .tup ((Txt.split t "/").map lLD)
theorem pair_tl {p : PP} (h : Sml p) : TL.tl (pairT p) = [48 + p.1.toNat, 45, 48 + p.2.toNat] := by
  obtain ⟨a, b, c, d⟩ := h
  unfold pairT
  rw [TL.tl_append, TL.tl_append, str_dig a (by omega), str_dig c (by omega), show TL.tl ("-" : Str) = [45] from dash_s.1]
  rfl
theorem pairL_some {t : Str} {p : PP} (e : pairL t = some p) : Sml p ∧ t = pairT p := by
  unfold pairL at e
  split at e
  · rename_i a b q
    split at e
    · rename_i c
      injection e with e
      subst e
      have hs : Sml (((a - 48 : Nat) : Int), ((b - 48 : Nat) : Int)) := ⟨by show (0 : Int) ≤ ((a - 48 : Nat) : Int); omega, by show ((a - 48 : Nat) : Int) < 4; omega, by show (0 : Int) ≤ ((b - 48 : Nat) : Int); omega, by show ((b - 48 : Nat) : Int) < 4; omega⟩
      refine ⟨hs, TL.ext_tl ?_⟩
      rw [pair_tl hs]
      show t.cps.toList = _
      rw [q]
      show [a, 45, b] = [48 + (a - 48), 45, 48 + (b - 48)]
      rw [show 48 + (a - 48) = a by omega, show 48 + (b - 48) = b by omega]
    · cases e
  · cases e
theorem pairL_pair {p : PP} (h : Sml p) : pairL (pairT p) = some p := by
  unfold pairL
  have e : (pairT p).cps.toList = [48 + p.1.toNat, 45, 48 + p.2.toNat] := pair_tl h
  rw [e]
  obtain ⟨a, b, c, d⟩ := h
  show (if 48 ≤ 48 + p.1.toNat ∧ 48 + p.1.toNat < 52 ∧ 48 ≤ 48 + p.2.toNat ∧ 48 + p.2.toNat < 52 then some (((48 + p.1.toNat - 48 : Nat) : Int), ((48 + p.2.toNat - 48 : Nat) : Int)) else none) = some p
  rw [if_pos (by omega), show 48 + p.1.toNat - 48 = p.1.toNat by omega, show 48 + p.2.toNat - 48 = p.2.toNat by omega, Int.toNat_of_nonneg a, Int.toNat_of_nonneg c]
theorem dig_tl (k : Nat) : TL.tl (digT k) = [48 + k] := rfl
theorem pD_pair {p : PP} (h : Sml p) : pD (pairT p) = Dt.pairD p := by
  have hh := h
  obtain ⟨a, b, c, d⟩ := h
  have e : Txt.split (pairT p) "-" = [digT p.1.toNat, digT p.2.toNat] := by
    have e0 : pairT p = Txt.join "-" [digT p.1.toNat, digT p.2.toNat] := by
      rw [join_glued]
      unfold pairT
      rw [str_dig a (by omega), str_dig c (by omega)]
      rfl
    rw [e0]
    refine TL.split_join dash_s.1 dash_s.2 (by simp) fun q hq => ?_
    have hq : q = digT p.1.toNat ∨ q = digT p.2.toNat := by simpa using hq
    rcases hq with rfl | rfl <;> (rw [dig_tl]; intro hc; have := List.mem_singleton.mp hc; omega)
  unfold pD
  rw [e]
  show Dt.D.tup [numD (digT p.1.toNat), numD (digT p.2.toNat)] = .tup [.int p.1, .int p.2]
  unfold numD
  rw [num3_dig _ (by omega), num3_dig _ (by omega), if_pos (by omega), if_pos (by omega)]
  show Dt.D.tup [.int ((p.1.toNat : Nat) : Int), .int ((p.2.toNat : Nat) : Int)] = _
  rw [Int.toNat_of_nonneg a, Int.toNat_of_nonneg c]
theorem pD_back {t : Str} {p : PP} (e : pD t = Dt.pairD p) : pairL t = some p := by
  unfold pD at e
  injection e with e
  have b := split_back (t := t) dash_s
  match q : Txt.split t "-", e with
  | [x, y], e =>
    injection e with e1 e2
    injection e2 with e2 _
    obtain ⟨i, i1, rfl, i2⟩ := num3_some (numD_int e1)
    obtain ⟨j, j1, rfl, j2⟩ := num3_some (numD_int e2)
    rw [q] at b
    have hs : Sml p := ⟨by omega, by omega, by omega, by omega⟩
    have ht : t = pairT p := by
      rw [← b]
      unfold pairT
      rw [str_dig hs.1 (by omega), str_dig hs.2.2.1 (by omega), i2, j2, Int.toNat_natCast, Int.toNat_natCast]
      rfl
    rw [ht]
    exact pairL_pair hs
  | [], e => cases e
  | [x], e => injection e with _ e; cases e
  | x :: y :: z :: r, e => injection e with _ e; injection e with _ e; cases e
theorem pairsL_map : ∀ {ts : List Str} {L : List PP}, ts.map pD = L.map Dt.pairD → pairsL ts = some L
  | [], [], _ => rfl
  | [], _ :: _, e => by cases e
  | _ :: _, [], e => by cases e
  | t :: ts, p :: L, e => by
    rw [List.map_cons, List.map_cons] at e
    injection e with e1 e2
    rw [pairsL, pD_back e1, pairsL_map e2]
theorem pairsL_some : ∀ {ts : List Str} {L : List PP}, pairsL ts = some L → ts.map pD = L.map Dt.pairD ∧ ts = L.map pairT ∧ ∀ p ∈ L, Sml p
  | [], L, e => by cases e; exact ⟨rfl, rfl, fun _ h => nomatch h⟩
  | t :: ts, L, e => by
    rw [pairsL] at e
    cases e1 : pairL t with
    | none => rw [e1] at e; cases e
    | some p =>
      cases e2 : pairsL ts with
      | none => rw [e1, e2] at e; cases e
      | some M =>
        rw [e1, e2] at e
        cases e
        obtain ⟨a, b, c⟩ := pairsL_some e2
        obtain ⟨hs, rfl⟩ := pairL_some e1
        refine ⟨by rw [List.map_cons, List.map_cons, a, pD_pair hs], by rw [List.map_cons, ← b], fun x hx => ?_⟩
        rcases List.mem_cons.mp hx with rfl | hx
        · exact hs
        · exact c x hx
theorem load_eq (n m : Nat) (t : Str) : loadOf n m (lD t) = loadOf n m (lLD t) := by
  unfold lD lLD loadL
  by_cases c : t = "."
  · rw [if_pos c, if_pos c]
    rfl
  · rw [if_neg c, if_neg c]
    cases e : pairsL (Txt.split t ",") with
    | some L =>
      rw [(pairsL_some e).1]
      rfl
    | none =>
      show _ = none
      cases q : loadOf n m (.tup ((Txt.split t ",").map pD)) with
      | none => rfl
      | some L =>
        obtain ⟨e1, _⟩ := loadOf_some q
        injection e1 with e1
        rw [pairsL_map e1] at e
        cases e
theorem loads_eq (n m : Nat) : ∀ ts : List Str, loadsOf n m (ts.map lD) = loadsOf n m (ts.map lLD)
  | [] => rfl
  | t :: ts => by rw [List.map_cons, List.map_cons, loadsOf, loadsOf, load_eq, loads_eq n m ts]
theorem sta_eq (ds es : List Int) (m : Int) (t : Str) : staOf ds es m (sD t) = staOf ds es m (sLD t) := by
  unfold sD sLD staOf
  dsimp only
  rw [List.length_map, List.length_map, loads_eq]
theorem staOf_some {ds es : List Int} {m : Int} {d : Dt.D} {S : List (List PP)} (h : staOf ds es m d = some S) : d = stD S ∧ ((S.length : Nat) : Int) = m ∧ ∀ L ∈ S, LoadOk ds.length es.length L := by
  unfold staOf at h
  split at h
  · rename_i xs
    split at h
    · rename_i c
      cases e : loadsOf ds.length es.length xs with
      | none => rw [e] at h; cases h
      | some M =>
        rw [e] at h
        have h : (if doorB ds es M = true then some M else none) = some S := h
        obtain ⟨rfl, h1⟩ := loadsOf_some e
        split at h
        · injection h with h
          subst h
          exact ⟨rfl, by rw [List.length_map] at c; exact c, h1⟩
        · cases h
    · cases h
  · cases h
theorem staOf_st {ds es : List Int} {m : Int} {S : List (List PP)} (h : StdOk ds es m S) : staOf ds es m (stD S) = some S := by
  have e := isSta_ok h
  unfold isStaD at e
  cases q : staOf ds es m (stD S) with
  | none => rw [q] at e; cases e
  | some M =>
    obtain ⟨e1, _⟩ := staOf_some q
    have e1 : Dt.D.tup (S.map ldD) = .tup (M.map ldD) := e1
    injection e1 with e1
    have e2 := loadsOf_map h.ld
    have e3 := loadsOf_map (staOf_some q).2.2
    rw [e1, e3] at e2
    exact e2
theorem load_chr {L : List PP} (h : ∀ p ∈ L, Sml p) : ∀ c ∈ TL.tl (loadT L), c ≠ 47 ∧ c < 128 := by
  unfold loadT
  split
  · decide +kernel
  · refine join_chr (by decide +kernel) fun t ht => ?_
    obtain ⟨p, hp, rfl⟩ := List.mem_map.mp ht
    obtain ⟨a, b, c, d⟩ := h p hp
    rw [pair_tl (h p hp)]
    intro c hc
    have hc : c = 48 + p.1.toNat ∨ c = 45 ∨ c = 48 + p.2.toNat := by simpa using hc
    omega
theorem lD_load {L : List PP} (h : ∀ p ∈ L, Sml p) : lD (loadT L) = ldD L := by
  unfold lD loadT
  by_cases c : L = []
  · subst c
    rfl
  · rw [if_neg c]
    have e : Txt.split (Str.join "," (L.map pairT)) "," = L.map pairT := by
      rw [← join_glued]
      refine TL.split_join comma_s.1 comma_s.2 (fun z => c (List.map_eq_nil_iff.mp z)) fun q hq => ?_
      obtain ⟨p, hp, rfl⟩ := List.mem_map.mp hq
      obtain ⟨a, b, c, d⟩ := h p hp
      rw [pair_tl (h p hp)]
      intro hc
      have hc : (44 : Nat) = 48 + p.1.toNat ∨ (44 : Nat) = 45 ∨ (44 : Nat) = 48 + p.2.toNat := by simpa using hc
      omega
    have ne : ¬ Str.join "," (L.map pairT) = "." := fun z => by
      rw [z] at e
      have e0 : Txt.split "." "," = (["."] : List Str) := by decide +kernel
      rw [e0] at e
      match L, e, c with
      | p :: L, e, _ =>
        rw [List.map_cons] at e
        injection e with e1 _
        have := congrArg TL.tl e1
        rw [pair_tl (h p (by simp))] at this
        have e2 : TL.tl ("." : Str) = [46] := by decide +kernel
        rw [e2] at this
        injection this with _ this
        cases this
    rw [if_neg ne, e, List.map_map]
    show Dt.D.tup _ = Dt.D.tup _
    congr 1
    exact List.map_congr_left fun p hp => pD_pair (h p hp)
theorem sD_sta {S : List (List PP)} (hne : S ≠ []) (h : ∀ L ∈ S, ∀ p ∈ L, Sml p) : sD (staT S) = stD S := by
  have e : Txt.split (staT S) "/" = S.map loadT := by
    unfold staT
    rw [← join_glued]
    refine TL.split_join slash_s.1 slash_s.2 (fun z => hne (List.map_eq_nil_iff.mp z)) fun q hq => ?_
    obtain ⟨L, hL, rfl⟩ := List.mem_map.mp hq
    exact fun hc => (load_chr (h L hL) _ hc).1 rfl
  unfold sD
  rw [e, List.map_map]
  show Dt.D.tup _ = Dt.D.tup _
  congr 1
  exact List.map_congr_left fun L hL => lD_load (h L hL)
theorem pair_ok {p : PP} (h : Sml p) : OkT 3 (pairT p) := by
  refine ⟨?_, fun c hc => ?_⟩
  · rw [TL.len_tl, pair_tl h]
    exact Nat.le_refl _
  · have hc : c ∈ TL.tl (pairT p) := hc
    rw [pair_tl h] at hc
    obtain ⟨a, b, d, e⟩ := h
    have hc : c = 48 + p.1.toNat ∨ c = 45 ∨ c = 48 + p.2.toNat := by simpa using hc
    omega
theorem load_ok {L : List PP} (l : L.length ≤ 4) (h : ∀ p ∈ L, Sml p) : OkT 16 (loadT L) := by
  unfold loadT
  split
  · exact ⟨by decide, by decide +kernel⟩
  · refine (join_ok (k := 3) (one_ok comma_s (by decide)) fun t ht => ?_).mono (by rw [List.length_map]; omega)
    obtain ⟨p, hp, rfl⟩ := List.mem_map.mp ht
    exact pair_ok (h p hp)
theorem sta_ok {S : List (List PP)} (l : S.length ≤ 7) (h : ∀ L ∈ S, L.length ≤ 4 ∧ ∀ p ∈ L, Sml p) : OkT 119 (staT S) := by
  unfold staT
  refine (join_ok (k := 16) (one_ok slash_s (by decide)) fun t ht => ?_).mono (by rw [List.length_map]; omega)
  obtain ⟨L, hL, rfl⟩ := List.mem_map.mp ht
  exact load_ok (h L hL).1 (h L hL).2
theorem log_small {k : Int} (h0 : 0 ≤ k) (h1 : k < 10) : k.natAbs.log2 < 1920 := Nat.lt_of_le_of_lt (Nat.log2_le_self _) (by omega)
end K39
set_option Elab.async false
set_option linter.all false
set_option maxRecDepth 100000
set_option maxHeartbeats 4000000
namespace K39
open PySem PySem.Spec PyProof.Rows L2 Com Sd StV Gn Ext Dt
section
variable {P : Program} {w : World} {K : PySem.W.Frag} {mg : Str → Option Value} {base : Heap} {C CS CB fS fB : Addr}
/-- what is no text -/
def oddD (K : PySem.W.Frag) (d : Dt.D) : Prop := clsOk K d ∧ isiD "str" d = false
abbrev s_parts : Stmt := top 29
abbrev N_parts : List Str := ["text", "separator"]
theorem sc_parts : FnScope N_parts ["text", "separator"] (defScope s_parts) := ⟨rfl, rfl, rfl, by decide +kernel, rfl, by decide +kernel, by decide +kernel⟩
def sdParts (K : PySem.W.Frag) : SpD := fun xs q _ => ∃ d b c, xs = [d, .str b] ∧ SepT b c ∧ ((∃ t, d = .str t ∧ t.length ≤ 500 ∧ q (.lst ((Txt.split t b).map .str))) ∨ (oddD K (er1 d) ∧ q (.lst [])))
theorem SepT.nz {b : Str} {c : Nat} (h : SepT b c) : (b.length == 0) = false := by
  have e : b.length = 1 := by rw [TL.len_tl, h.1]; rfl
  rw [e]
  rfl
theorem ok_parts_fn (T : Blt mg) {f : Addr} {fd : FuncData} (FF : Fun K "_parts" "_parts" s_parts f fd) : FnOk P w K mg base CX0 1 f fd ["text", "separator"] (spOf (sdParts K)) := by
  refine FunD.ok FF sc_parts (fun ds q e h => by obtain ⟨_, _, _, rfl, _⟩ := h; rfl) (fun cdv A outer s H E hr => ⟨_, _, (pss_cons (ps_if (pt_not (pt_val (pe_callB (cl_isi K) (by rfl) T.z_isinstance (by decide +kernel) (pa_cons (pv 0) (pa_cons (pe_bltn (v := .ty "str") (by rfl) T.z_str (by decide +kernel) rfl) pa_nil)))))
      (pss_one (ps_ret (pe_lst pa_nil)))
      pss_nil)
    (pss_one (ps_ret (pe_spl (pv 0) (pv 1))))), (ss_seq (ss_if (si_not (si_B (si_isiE (.ty "str") si_var)))
      (ss_ret (si_lst si_nil))
      ss_nx)
    (ss_ret (si_spl si_var si_var))), fun ds q e h => ?_⟩)
  obtain ⟨d, b, c, rfl, hb, h⟩ := h
  rcases h with ⟨t, rfl, ht, h⟩ | ⟨ho, h⟩
  · exact ⟨_, rfl, isi_go (K := K) (d := .str t) trivial ⟨_, rfl, ifFF ⟨_, rfl, t, rfl, _, rfl, _, rfl, hb.nz, Nat.le_trans (Nat.add_le_add_right ht 2) (by decide), h⟩⟩⟩
  · refine ⟨_, rfl, isi_go ho.1 ⟨_, rfl, ?_⟩⟩
    rw [ho.2]
    exact ifTT ⟨(by show 0 ≤ sizeLine; decide), h⟩
abbrev s_read_number : Stmt := top 31
abbrev N_read_number : List Str := ["text", "low", "high", "number"]
theorem sc_read_number : FnScope N_read_number ["text", "low", "high"] (defScope s_read_number) := ⟨rfl, rfl, rfl, by decide +kernel, rfl, by decide +kernel, by decide +kernel⟩
def sdReadN : SpD := fun xs q _ => ∃ (t : Str), xs = [.str t, .int 0, .int 3] ∧ t.length ≤ 1000 ∧ q (numD t)
theorem ok_read_number (T : Blt mg) (Df : DefAt K mg "_read_number" s_read_number ["text", "low", "high"]) : DefOk P w K mg base CX0 1 "_read_number" (spOf sdReadN) := by
  refine DefAtD.ok Df sc_read_number (fun ds q e h => by obtain ⟨_, rfl, _⟩ := h; rfl) (fun f cdv A outer s H E hr => ?_)
  have hu := hr.units
  refine ⟨_, _, (pss_cons (ps_if (PW.pt (pw_or (pt_not (pt_val (pe_asc (pv 0)))) (pw_or (pt_not (pt_val (pe_dig (pv 0)))) (pw_or1 (pt_cmpR op_gt (pe_callB cl_lenS (by rfl) T.z_len (by decide +kernel) (pa_cons (pv 0) pa_nil)) (pe_callB cl_lenS (by rfl) T.z_len (by decide +kernel) (pa_cons (pe_callTy cl_strI (by rfl) T.z_str (by decide +kernel) (pa_cons (pv 2) pa_nil)) pa_nil)) (nomark _))))))
      (pss_one (ps_ret pe_non))
      pss_nil)
    (pss_cons (ps_set (i := 3) sc_read_number.nd rfl (Or.inl rfl) (pe_callTy cl_intS (by rfl) T.z_int (by decide +kernel) (pa_cons (pv 0) pa_nil)))
    (pss_one (ps_ret (pe_ifExp (PW.pt (pw_and (pt_cmpR (eqD K hu) (pe_callTy cl_strI (by rfl) T.z_str (by decide +kernel) (pa_cons (pv 3) pa_nil)) (pv 0) (nomark _)) (pw_and1 (pt_chain op_le op_le (pv 1) (pv 3) (pv 2))))) (pv 3) pe_non))))), (ss_seq (ss_if (si_or (si_not (si_B (si_asc si_var))) (si_or (si_not (si_B (si_dig si_var))) (si_test (si_op (si_cb (si_cons si_var si_nil) sc_lenS) (si_cb (si_cons (si_cb (si_cons si_var si_nil) sc_strI) si_nil) sc_lenS) sr_B0))))
      (ss_ret si_non)
      ss_nx)
    (ss_seq (ss_asg (si_cb (si_cons si_var si_nil) sc_intS) sg_name)
    (ss_ret (si_if (si_and (si_test (si_op (si_cb (si_cons si_var si_nil) sc_strI) si_var sr_eq)) (si_test (si_chain si_var si_var si_var sr_B0 sr_B0))) si_var si_non)))), fun ds q e h => ?_⟩
  obtain ⟨t, rfl, hl, h⟩ := h
  have hno : (∀ k < 10, t ≠ digT k) → q .non := fun hn => by
    unfold numD at h
    rw [num3_no hn] at h
    exact h
  refine ⟨_, rfl, t, rfl, _, rfl, ?_⟩
  cases c1 : Txt.isascii t with
  | false => exact ifTT (ifTT (hno fun k hk z => by rw [z, (dig_facts k hk).1] at c1; cases c1))
  | true =>
    refine ifFF ⟨_, rfl, t, rfl, _, rfl, ?_⟩
    cases c2 : Txt.isdigit t with
    | false => exact ifTT (ifTT (hno fun k hk z => by rw [z, (dig_facts k hk).2.1] at c2; cases c2))
    | true =>
      have hm1 : (digT 3).length = 1 := (dig_facts 3 (by decide)).2.2.1
      have h3 : (toString (3 : Int) : Str) = digT 3 := (dig_facts 3 (by decide)).2.2.2.2
      refine ifFF ⟨_, rfl, t, rfl, Nat.le_trans hl (by decide), _, rfl, _, rfl, by decide, ?_⟩
      rw [h3]
      refine ⟨_, rfl, by rw [hm1]; decide, trivial, _, rfl, ?_⟩
      rw [hm1]
      by_cases c3 : t.length ≤ 1
      · rw [decide_eq_false (show ¬ ((1 : Nat) : Int) < ((t.length : Nat) : Int) by omega)]
        obtain ⟨k, hk, rfl⟩ := dig_of c1 c2 c3
        obtain ⟨_, _, k1, k2, k3⟩ := dig_facts k hk
        refine ifFF ⟨_, rfl, _, _, rfl, k2, by rw [k1]; decide, ?_⟩
        refine ⟨_, rfl, _, rfl, Nat.lt_of_le_of_lt (Nat.log2_le_self _) (by show (k : Int).natAbs < 1920; omega), ?_⟩
        rw [k3]
        obtain ⟨s1, s2⟩ := dig_shaped k hk
        refine ⟨_, rfl, _, _, rfl, rfl, s1, s1, _, rfl, ?_⟩
        show if (PyData.eqv (.str (digT k)) (.str (digT k))) = true then _ else _
        rw [s2]
        unfold numD at h
        rw [num3_dig k hk] at h
        refine ifTT ⟨_, rfl, _, rfl, trivial, _, rfl, ?_⟩
        rw [decide_eq_true (show (0 : Int) ≤ (k : Int) by omega)]
        refine ifTT ⟨_, rfl, trivial, _, rfl, ?_⟩
        by_cases a2 : k < 4
        · rw [decide_eq_true (show (k : Int) ≤ (3 : Int) by omega)]
          rw [if_pos a2] at h
          exact ifTT ⟨_, rfl, h⟩
        · rw [decide_eq_false (show ¬ (k : Int) ≤ (3 : Int) by omega)]
          rw [if_neg a2] at h
          exact ifFF h
      · rw [decide_eq_true (show ((1 : Nat) : Int) < ((t.length : Nat) : Int) by omega)]
        exact ifTT (hno fun k hk z => by rw [z, (dig_facts k hk).2.2.1] at c3; exact c3 (Nat.le_refl 1))
abbrev s_read_pair : Stmt := top 34
abbrev N_read_pair : List Str := ["text", "part"]
theorem sc_read_pair : FnScope N_read_pair ["text"] (defScope s_read_pair) := ⟨rfl, rfl, rfl, by decide +kernel, rfl, by decide +kernel, by decide +kernel⟩
def sdReadP : SpD := fun xs q _ => ∃ t, xs = [.str t] ∧ OkT 500 t ∧ q (pD t)
theorem ok_read_pair (T : Blt mg) (D_read_number : DefOk P w K mg base CX0 1 "_read_number" (spOf sdReadN)) (Df : DefAt K mg "_read_pair" s_read_pair ["text"]) : DefOk P w K mg base CX0 2 "_read_pair" (spOf sdReadP) := by
  refine DefAtD.ok Df sc_read_pair (fun ds q e h => by obtain ⟨_, rfl, _⟩ := h; rfl) (fun f cdv A outer s H E hr => ?_)
  have hu := hr.units
  obtain ⟨t1, c_MOST_SWITCHES⟩ := T.c_MOST_SWITCHES
  refine ⟨_, _, (pss_one (ps_ret (pe_callTy (cl_tuple K) (by rfl) T.z_tuple (by decide +kernel) (pa_cons (pe_lc (own := [("part", 1)]) (g := gName 1) (tt := tYes) rfl sc_read_pair.nd (pi_seq K (pe_spl (pv 0) pe_str)) (blkOk_by (N := N_read_pair) (sc := defScope s_read_pair) (by decide +kernel)) (fun _ _ _ _ _ => (pg_name (i := 1) sc_read_pair.nd rfl (Or.inl rfl))) (fun _ _ _ _ _ => pts_nil) (fun _ _ _ _ _ => (pe_def D_read_number hr (by decide) passE (pa_cons (pv 1) (pa_cons pe_int (pa_cons (pe_op op_sub (pe_gint (by rfl) c_MOST_SWITCHES) pe_int) pa_nil)))))) pa_nil)))), (ss_ret (si_cb (si_cons (si_lc (si_seq (si_spl si_var si_str)) sg_name si_yes (si_def (si_cons si_var (si_cons si_int (si_cons (si_op si_int si_int sr_I0) si_nil)))) (by decide)) si_nil) sc_tuple)), fun ds q e h => ?_⟩
  obtain ⟨t, rfl, ht, h⟩ := h
  obtain ⟨sp, sn⟩ := split_ok dash_s.ne dash_s.2 ht
  have hsz : (Txt.split t "-").length ≤ 501 := split_len dash_s.ne dash_s.2 ht
  refine ⟨_, rfl, t, rfl, "-", rfl, by decide +kernel, Nat.le_trans (Nat.add_le_add_right ht.1 2) (by decide), _, .inr rfl, ?_⟩
  refine lcL_map (fun d => match d with | .str x => numD x | _ => .non) _ [] (by rw [List.length_map]; show 0 + _ ≤ _; omega) (fun d hd Q hQ => ?_) ?_
  · obtain ⟨p, hp, rfl⟩ := List.mem_map.mp hd
    have := (sp p hp).1
    exact ⟨_, rfl, trivial, p, rfl, by omega, hQ⟩
  · rw [List.nil_append, List.map_map]
    exact ⟨_, .inr rfl, h⟩
abbrev s_read_load : Stmt := top 33
abbrev N_read_load : List Str := ["text", "part"]
theorem sc_read_load : FnScope N_read_load ["text"] (defScope s_read_load) := ⟨rfl, rfl, rfl, by decide +kernel, rfl, by decide +kernel, by decide +kernel⟩
def sdReadL : SpD := fun xs q _ => ∃ t, xs = [.str t] ∧ OkT 500 t ∧ q (lD t)
theorem eqv_str (a b : Str) : PyData.eqv (.str a) (.str b) = decide (a = b) := Et.eqv_str a b
theorem go_eqT {n : Nat} {a b : Str} {q : KD} (ha : OkT n a) (hb : OkT n b) (h : q (.bl (decide (a = b)))) : fEq false (.str a) (.str b) q := ⟨_, _, rfl, rfl, txt_shaped ha, txt_shaped hb, by
  show q (.bl (PyData.eqv (.str a) (.str b)))
  rw [eqv_str]; exact h⟩
theorem go_neT {n : Nat} {a b : Str} {q : KD} (ha : OkT n a) (hb : OkT n b) (h : q (.bl (!decide (a = b)))) : fEq true (.str a) (.str b) q := ⟨_, _, rfl, rfl, txt_shaped ha, txt_shaped hb, by
  show q (.bl (!PyData.eqv (.str a) (.str b)))
  rw [eqv_str]; exact h⟩
theorem lit_ok : OkT 500 "." ∧ OkT 500 "-" ∧ OkT 500 "," ∧ OkT 500 "/" ∧ OkT 500 "told" ∧ OkT 500 "bad" ∧ OkT 500 "standing" := by
  refine ⟨⟨by decide, by decide +kernel⟩, ⟨by decide, by decide +kernel⟩, ⟨by decide, by decide +kernel⟩, ⟨by decide, by decide +kernel⟩, ⟨by decide, by decide +kernel⟩, ⟨by decide, by decide +kernel⟩, ⟨by decide, by decide +kernel⟩⟩
theorem ok_read_load (T : Blt mg) (D_read_pair : DefOk P w K mg base CX0 2 "_read_pair" (spOf sdReadP)) (Df : DefAt K mg "_read_load" s_read_load ["text"]) : DefOk P w K mg base CX0 3 "_read_load" (spOf sdReadL) := by
  refine DefAtD.ok Df sc_read_load (fun ds q e h => by obtain ⟨_, rfl, _⟩ := h; rfl) (fun f cdv A outer s H E hr => ?_)
  have hu := hr.units
  refine ⟨_, _, (pss_cons (ps_if (pt_cmpR (eqD K hu) (pv 0) pe_str (nomark _))
      (pss_one (ps_ret (pe_tup pa_nil)))
      pss_nil)
    (pss_one (ps_ret (pe_callTy (cl_tuple K) (by rfl) T.z_tuple (by decide +kernel) (pa_cons (pe_lc (own := [("part", 1)]) (g := gName 1) (tt := tYes) rfl sc_read_load.nd (pi_seq K (pe_spl (pv 0) pe_str)) (blkOk_by (N := N_read_load) (sc := defScope s_read_load) (by decide +kernel)) (fun _ _ _ _ _ => (pg_name (i := 1) sc_read_load.nd rfl (Or.inl rfl))) (fun _ _ _ _ _ => pts_nil) (fun _ _ _ _ _ => (pe_def D_read_pair hr (by decide) passE (pa_cons (pv 1) pa_nil)))) pa_nil))))), (ss_seq (ss_if (si_test (si_op si_var si_str sr_eq))
      (ss_ret (si_tup si_nil))
      ss_nx)
    (ss_ret (si_cb (si_cons (si_lc (si_seq (si_spl si_var si_str)) sg_name si_yes (si_def (si_cons si_var si_nil)) (by decide)) si_nil) sc_tuple))), fun ds q e h => ?_⟩
  obtain ⟨t, rfl, ht, h⟩ := h
  obtain ⟨sp, sn⟩ := split_ok comma_s.ne comma_s.2 ht
  have hsz : (Txt.split t ",").length ≤ 501 := split_len comma_s.ne comma_s.2 ht
  unfold lD at h
  refine ⟨_, rfl, go_eqT ht lit_ok.1 ⟨_, rfl, ?_⟩⟩
  by_cases c : t = "."
  · rw [decide_eq_true c]
    rw [if_pos c] at h
    exact ifTT ⟨(by show 0 ≤ sizeLine; decide), h⟩
  · rw [decide_eq_false c]
    rw [if_neg c] at h
    refine ifFF ⟨_, rfl, t, rfl, ",", rfl, by decide +kernel, Nat.le_trans (Nat.add_le_add_right ht.1 2) (by decide), _, .inr rfl, ?_⟩
    refine lcL_map (fun d => match d with | .str x => pD x | _ => .non) _ [] (by rw [List.length_map]; show 0 + _ ≤ _; omega) (fun d hd Q hQ => ?_) ?_
    · obtain ⟨p, hp, rfl⟩ := List.mem_map.mp hd
      exact ⟨_, rfl, p, rfl, sp p hp, hQ⟩
    · rw [List.nil_append, List.map_map]
      exact ⟨_, .inr rfl, h⟩
theorem cls_numD (t : Str) : clsA K (numD t) := by unfold numD; cases num3 t <;> simp [clsA]
theorem cls_pD (t : Str) : clsA K (pD t) := clsA.tup.mpr fun d hd => by
  obtain ⟨x, _, rfl⟩ := List.mem_map.mp hd
  exact cls_numD x
theorem cls_lD (t : Str) : clsA K (lD t) := by
  unfold lD
  split
  · exact clsA.tup.mpr fun _ h => nomatch h
  · exact clsA.tup.mpr fun d hd => by
      obtain ⟨x, _, rfl⟩ := List.mem_map.mp hd
      exact cls_pD x
theorem cls_sD (t : Str) : clsA K (sD t) := clsA.tup.mpr fun d hd => by
  obtain ⟨x, _, rfl⟩ := List.mem_map.mp hd
  exact cls_lD x
abbrev s_read_standing : Stmt := top 32
abbrev N_read_standing : List Str := ["exchange", "text", "standing", "part"]
theorem sc_read_standing : FnScope N_read_standing ["exchange", "text"] (defScope s_read_standing) := ⟨rfl, rfl, rfl, by decide +kernel, rfl, by decide +kernel, by decide +kernel⟩
def sdReadS (K : PySem.W.Frag) (C CB : Addr) : SpD := fun xs q e => ∃ ds es m d, xs = [exD C ds es m, d] ∧ GE ds es m ∧ ((∃ t, d = .str t ∧ OkT 500 t ∧ (staOf ds es m (sD t) = none → e CB "thing" d) ∧ ∀ S, staOf ds es m (sD t) = some S → q (stD S)) ∨ (oddD K (er1 d) ∧ e CB "thing" d))
theorem ok_read_standing (T : Blt mg) (X : ExC K mg C) (TB : PySem.Exo_thing.Txt P K mg "BadText" CB fB) (D_parts_texts : DefOk P w K mg base CX0 1 "parts_texts" (spOf (sdParts K))) (D_read_load : DefOk P w K mg base CX0 3 "_read_load" (spOf sdReadL)) (D_is_standing : DefOk P w K mg base CX0 5 "is_standing" (spOf (sdIsSta K C)))
    (Df : DefAt K mg "read_standing" s_read_standing ["exchange", "text"]) : DefOk P w K mg base (L2.CX P w) 6 "read_standing" (spOf (sdReadS K C CB)) := by
  refine DefAtX.ok Df sc_read_standing (fun ds q e h => by obtain ⟨_, _, _, _, rfl, _⟩ := h; rfl) (fun f cdv A outer s H E hr => ?_)
  have hu := hr.units
  refine ⟨_, _, (pss_cons (ps_set (i := 2) sc_read_standing.nd rfl (Or.inl rfl) (pe_callTy (cl_tuple K) (by rfl) T.z_tuple (by decide +kernel) (pa_cons (pe_lc (own := [("part", 3)]) (g := gName 3) (tt := tYes) rfl sc_read_standing.nd (pi_seq K (pe_def D_parts_texts hr (by decide) passE (pa_cons (pv 1) (pa_cons pe_str pa_nil)))) (blkOk_by (N := N_read_standing) (sc := defScope s_read_standing) (by decide +kernel)) (fun _ _ _ _ _ => (pg_name (i := 3) sc_read_standing.nd rfl (Or.inl rfl))) (fun _ _ _ _ _ => pts_nil) (fun _ _ _ _ _ => (pe_def D_read_load hr (by decide) passE (pa_cons (pv 3) pa_nil)))) pa_nil)))
    (pss_cons (ps_if (pt_not (pt_val (pe_def D_is_standing hr (by decide) passE (pa_cons (pv 0) (pa_cons (pv 2) pa_nil)))))
      (pss_one (Com_thing.ps_raiseE TB hr (takes_of rfl rfl rfl rfl) (by exact (pa_cons (pv 1) pa_nil))))
      pss_nil)
    (pss_one (ps_ret (pv 2))))), (ss_seq (ss_asg (si_cb (si_cons (si_lc (si_seq (si_def (si_cons si_var (si_cons si_str si_nil)))) sg_name si_yes (si_def (si_cons si_var si_nil)) (by decide)) si_nil) sc_tuple) sg_name)
    (ss_seq (ss_if (si_not (si_B (si_def (si_cons si_var (si_cons si_var si_nil)))))
      (ss_raise (F := "thing") (si_cons si_var si_nil))
      ss_nx)
    (ss_ret si_var))), fun ds q e h => ?_⟩
  obtain ⟨ds, es, m, d, rfl, g, h⟩ := h
  have d1 := g.gi.1
  have d2 := g.gi.2.1
  have e1 := g.go.1
  have e2 := g.go.2.1
  have m1 := g.m1
  have m2 := g.m2
  rcases h with ⟨t, rfl, ht, hx, h⟩ | ⟨ho, hx⟩
  · obtain ⟨sp, sn⟩ := split_ok slash_s.ne slash_s.2 ht
    have hsz : (Txt.split t "/").length ≤ 501 := split_len slash_s.ne slash_s.2 ht
    refine ⟨_, rfl, _, _, _, rfl, slash_s, .inl ⟨t, rfl, ht.1, _, .inr rfl, ?_⟩⟩
    refine lcL_map (fun d => match d with | .str x => lD x | _ => .non) _ [] (by rw [List.length_map]; show 0 + _ ≤ _; omega) (fun d hd Q hQ => ?_) ?_
    · obtain ⟨p, hp, rfl⟩ := List.mem_map.mp hd
      exact ⟨_, rfl, p, rfl, sp p hp, hQ⟩
    · rw [List.nil_append, List.map_map]
      refine ⟨_, .inr rfl, ?_⟩
      refine ⟨_, rfl, _, rfl, ds, es, m, sD t, rfl, by omega, by omega, by omega, by omega, by omega, cls_sD t, ?_⟩
      unfold isStaD
      cases q1 : staOf ds es m (sD t) with
      | none => exact ⟨_, rfl, ifTT ⟨_, rfl, _, rfl, hx q1⟩⟩
      | some S =>
        refine ⟨_, rfl, ifFF ⟨_, rfl, ?_⟩⟩
        have := h S q1
        rw [← (staOf_some q1).1] at this
        exact this
  · refine ⟨_, rfl, _, _, _, rfl, slash_s, .inr ⟨ho, _, .inr rfl, ?_⟩⟩
    refine ⟨_, .inr rfl, ?_⟩
    refine ⟨_, rfl, _, rfl, ds, es, m, .tup [], rfl, by omega, by omega, by omega, by omega, by omega, (clsA.tup.mpr fun _ h => nomatch h), ?_⟩
    have e0 : isStaD ds es m (.tup []) = false := by
      rw [isStaD_tup, decide_eq_false (by show ¬ ((0 : Nat) : Int) = m; omega)]
      rfl
    rw [e0]
    exact ⟨_, rfl, ifTT ⟨_, rfl, _, rfl, hx⟩⟩
end
end K39
set_option Elab.async false
set_option linter.all false
set_option maxRecDepth 100000
set_option maxHeartbeats 4000000
namespace K39
open PySem PySem.Spec PyProof.Rows L2 Com Sd StV Gn Ext Dt
section
variable {P : Program} {w : World} {K : PySem.W.Frag} {mg : Str → Option Value} {base : Heap} {C : Addr}
abbrev s_is_integer : Stmt := top 43
abbrev N_is_integer : List Str := ["_law_actual"]
theorem sc_is_integer : FnScope N_is_integer ["_law_actual"] (defScope s_is_integer) := ⟨rfl, rfl, rfl, by decide +kernel, rfl, by decide +kernel, by decide +kernel⟩
theorem ok_is_integer (T : Blt mg) (D : DefAt K mg "_law_is_integer" s_is_integer ["_law_actual"]) : DefOk P w K mg base CX0 1 "_law_is_integer" (spOf (sdPlain K)) := by
  refine DefAtD.ok D sc_is_integer (fun ds q e h => by obtain ⟨d, rfl, _⟩ := h; rfl) (fun f cdv A outer s H E hr => ⟨_, _, (pss_one (ps_ret (pe_and (pe_callB (cl_isi K) (by rfl) T.z_isinstance (by decide +kernel) (pa_cons (pv 0) (pa_cons (pe_bltn (v := .ty "int") (by rfl) T.z_int (by decide +kernel) rfl) pa_nil))) (pe_one (pe_not (pe_callB (cl_isi K) (by rfl) T.z_isinstance (by decide +kernel) (pa_cons (pv 0) (pa_cons (pe_bltn (v := .ty "bool") (by rfl) T.z_bool (by decide +kernel) rfl) pa_nil)))))))), (ss_ret (si_andV (si_isi (.ty "int") si_var) (si_notV (si_isi (.ty "bool") si_var)))), fun ds q e h => ?_⟩)
  obtain ⟨d, rfl, hc, h⟩ := h
  refine ⟨d, rfl, isi_go hc ⟨_, rfl, ?_⟩⟩
  have e1 := plain_isi d
  cases c : isiD "int" d with
  | true =>
    refine ⟨d, rfl, isi_go hc ⟨_, rfl, ?_⟩⟩
    rw [c, Bool.true_and] at e1
    rw [e1]
    exact h
  | false =>
    rw [c, Bool.false_and] at e1
    show q (.bl false)
    rw [e1]
    exact h
abbrev s_doors : Stmt := top 44
abbrev N_doors : List Str := ["_law_flow_here", "_law_most", "_law_doors_here", "_law_k"]
theorem sc_doors : FnScope N_doors ["_law_flow_here", "_law_most", "_law_doors_here"] (defScope s_doors) := ⟨rfl, rfl, rfl, by decide +kernel, rfl, by decide +kernel, by decide +kernel⟩
def sdDoors : SpD := fun xs q _ => ∃ a most many, xs = [.flow a, .int most, .int many] ∧ 1 ≤ most ∧ most ≤ 4 ∧ 1 ≤ many ∧ many ≤ 4 ∧ ∀ ds, Good ds → q (intsD ds)
theorem ok_doors (T : Blt mg) (D_pick : DefOk P w K mg base CX0 1 "_law_pick" (spOf spPickD)) (Df : DefAt K mg "_law_doors" s_doors ["_law_flow_here", "_law_most", "_law_doors_here"]) : DefOk P w K mg base CX0 2 "_law_doors" (spOf sdDoors) := by
  refine DefAtD.ok Df sc_doors (fun ds q e h => by obtain ⟨_, _, _, rfl, _⟩ := h; rfl) (fun f cdv A outer s H E hr => ⟨_, _, (pss_one (ps_ret (pe_callTy (cl_tuple K) (by rfl) T.z_tuple (by decide +kernel) (pa_cons (pe_lc (own := [("_law_k", 3)]) (g := gName 3) (tt := tYes) rfl sc_doors.nd (pi_range1 (by rfl) T.z_range (pa_cons (pe_op op_plus pe_int (pe_def D_pick hr (by decide) passE (pa_cons (pv 0) (pa_cons (pv 1) pa_nil)))) pa_nil)) (blkOk_by (N := N_doors) (sc := defScope s_doors) (by decide +kernel)) (fun _ _ _ _ _ => (pg_name (i := 3) sc_doors.nd rfl (Or.inl rfl))) (fun _ _ _ _ _ => pts_nil) (fun _ _ _ _ _ => (pe_op op_plus pe_int (pe_def D_pick hr (by decide) passE (pa_cons (pv 0) (pa_cons (pv 2) pa_nil)))))) pa_nil)))), (ss_ret (si_cb (si_cons (si_lc (si_rng1 (si_cons (si_op si_int (si_def (si_cons si_var (si_cons si_var si_nil))) sr_plus) si_nil)) sg_name si_yes (si_op si_int (si_def (si_cons si_var (si_cons si_var si_nil))) sr_plus) (by decide)) si_nil) sc_tuple)), fun ds q e h => ?_⟩)
  obtain ⟨a, most, many, rfl, h1, h2, h3, h4, h⟩ := h
  refine ⟨_, rfl, _, rfl, a, most, rfl, by omega, by omega, fun n n0 n1 => ⟨_, rfl, by omega, by omega, ?_⟩⟩
  refine lcL_step (fun i acc => ∃ ns : List Int, acc = ns.map .int ∧ ns.length = i ∧ ∀ k ∈ ns, 1 ≤ k ∧ k ≤ 4) _ 0 [] ⟨[], rfl, rfl, fun _ h => nomatch h⟩ ?_ ?_
  · rintro j d acc N hj ⟨ns, rfl, hl, hb⟩ hN
    have hj' := (List.getElem?_eq_some_iff.mp hj).1
    rw [List.length_map, List.length_range] at hj'
    refine ifTT ⟨_, rfl, _, rfl, a, many, rfl, by omega, by omega, fun x x0 x1 => ⟨by rw [List.length_map]; exact szl (by omega), hN _ ⟨ns ++ [1 + x], by rw [List.map_append]; rfl, by rw [List.length_append, hl]; rfl, fun k hk => ?_⟩⟩⟩
    rcases List.mem_append.mp hk with hk | hk
    · exact hb k hk
    · rw [List.mem_singleton.mp hk]; omega
  · rintro acc ⟨ns, rfl, hl, hb⟩
    rw [List.length_map, List.length_range] at hl
    refine ⟨_, .inr rfl, h ns ⟨?_, ?_, hb⟩⟩ <;> omega
abbrev s_exchange : Stmt := top 47
abbrev N_exchange : List Str := ["_law_flow_here", "_law_most", "_law_doors_here", "_law_middles", "_law_ins", "_law_outs"]
theorem sc_exchange : FnScope N_exchange ["_law_flow_here", "_law_most", "_law_doors_here", "_law_middles"] (defScope s_exchange) := ⟨rfl, rfl, rfl, by decide +kernel, rfl, by decide +kernel, by decide +kernel⟩
def sdExch (C : Addr) : SpD := fun xs q _ => ∃ a most many mids, xs = [.flow a, .int most, .int many, .int mids] ∧ (1 ≤ most ∧ most ≤ 4) ∧ (1 ≤ many ∧ many ≤ 4) ∧ (1 ≤ mids ∧ mids ≤ 7) ∧ ∀ ds es m, GE ds es m → q (exD C ds es m)
theorem ok_exchange (T : Blt mg) (D_pick : DefOk P w K mg base CX0 1 "_law_pick" (spOf spPickD)) (D_doors : DefOk P w K mg base CX0 2 "_law_doors" (spOf sdDoors)) (M_Exchange : NewOk P w K mg base CX0 4 "Exchange" C (spInit C)) (Df : DefAt K mg "_law_exchange" s_exchange ["_law_flow_here", "_law_most", "_law_doors_here", "_law_middles"]) : DefOk P w K mg base CX0 6 "_law_exchange" (spOf (sdExch C)) := by
  refine DefAtD.ok Df sc_exchange (fun ds q e h => by obtain ⟨_, _, _, _, rfl, _⟩ := h; rfl) (fun f cdv A outer s H E hr => ⟨_, _, (pss_cons (ps_set (i := 4) sc_exchange.nd rfl (Or.inl rfl) (pe_def D_doors hr (by decide) passE (pa_cons (pv 0) (pa_cons (pv 1) (pa_cons (pv 2) pa_nil)))))
    (pss_cons (ps_set (i := 5) sc_exchange.nd rfl (Or.inl rfl) (pe_def D_doors hr (by decide) passE (pa_cons (pv 0) (pa_cons (pv 1) (pa_cons (pv 2) pa_nil)))))
    (pss_one (ps_ret (pe_new M_Exchange hr (by decide) passE (pa_cons (pv 4) (pa_cons (pv 5) (pa_cons (pe_op op_plus pe_int (pe_def D_pick hr (by decide) passE (pa_cons (pv 0) (pa_cons (pv 3) pa_nil)))) pa_nil)))))))), (ss_seq (ss_asg (si_def (si_cons si_var (si_cons si_var (si_cons si_var si_nil)))) sg_name)
    (ss_seq (ss_asg (si_def (si_cons si_var (si_cons si_var (si_cons si_var si_nil)))) sg_name)
    (ss_ret (si_newEx (si_cons si_var (si_cons si_var (si_cons (si_op si_int (si_def (si_cons si_var (si_cons si_var si_nil))) sr_plus) si_nil))))))), fun ds q e h => ?_⟩)
  obtain ⟨a, most, many, mids, rfl, ⟨a1, a2⟩, ⟨b1, b2⟩, ⟨c1, c2⟩, h⟩ := h
  refine ⟨_, rfl, _, rfl, _, rfl, a, most, many, rfl, a1, a2, b1, b2, fun ds gi => ?_⟩
  refine ⟨_, rfl, _, rfl, _, rfl, a, most, many, rfl, a1, a2, b1, b2, fun es go => ?_⟩
  exact ⟨_, rfl, _, rfl, _, rfl, _, rfl, a, mids, rfl, by omega, by omega, fun x x0 x1 => ⟨ds, es, _, rfl, gi, go, by omega, by omega, h ds es _ ⟨gi, go, by omega, by omega⟩⟩⟩
end
section
variable {P : Program} {w : World} {K : PySem.W.Frag} {mg : Str → Option Value} {base : Heap} {C : Addr}
abbrev s_lis_pair : Stmt := top 48
abbrev N_lis_pair : List Str := ["_law_exchange_here", "_law_thing"]
theorem sc_lis_pair : FnScope N_lis_pair ["_law_exchange_here", "_law_thing"] (defScope s_lis_pair) := ⟨rfl, rfl, rfl, by decide +kernel, rfl, by decide +kernel, by decide +kernel⟩
theorem len2 {xs : List Dt.D} (c : ((xs.length : Nat) : Int) = 2) : ∃ a b, xs = [a, b] := by
  match xs, c with
  | [a, b], _ => exact ⟨a, b, rfl⟩
  | [], c => simp at c
  | [a], c => simp at c
  | a :: b :: c :: r, h => simp only [List.length_cons] at h; omega
theorem isPair_ints {n m : Nat} {i o : Int} : isPairD n m (.tup [.int i, .int o]) = ((decide (0 ≤ i) && decide (i < (n : Int))) && (decide (0 ≤ o) && decide (o < (m : Int)))) := by
  show (if 0 ≤ i ∧ i < (n : Int) ∧ 0 ≤ o ∧ o < (m : Int) then some (i, o) else none).isSome = _
  by_cases c : 0 ≤ i ∧ i < (n : Int) ∧ 0 ≤ o ∧ o < (m : Int)
  · rw [if_pos c, decide_eq_true c.1, decide_eq_true c.2.1, decide_eq_true c.2.2.1, decide_eq_true c.2.2.2]
    rfl
  · rw [if_neg c]
    symm
    show _ = false
    rw [Bool.eq_false_iff]
    intro h
    simp only [Bool.and_eq_true, decide_eq_true_eq] at h
    omega
theorem isPair_no {n m : Nat} {a b : Dt.D} (h : (plainD a && plainD b) = false) : isPairD n m (.tup [a, b]) = false := by
  unfold isPairD
  cases a with
  | int i =>
    cases b with
    | int o => simp [plainD] at h
    | _ => simp [pairOf]
  | _ => simp [pairOf]
theorem ok_jis_pair (T : Blt mg) (X : ExC K mg C) (D_is_integer : DefOk P w K mg base CX0 1 "_law_is_integer" (spOf (sdPlain K))) (Df : DefAt K mg "_law_is_pair" s_lis_pair ["_law_exchange_here", "_law_thing"]) : DefOk P w K mg base CX0 2 "_law_is_pair" (spOf (sdIsPair K C)) := by
  refine DefAtD.ok Df sc_lis_pair (fun ds q e h => by obtain ⟨_, _, _, _, rfl, _⟩ := h; rfl) (fun f cdv A outer s H E hr => ?_)
  have hu := hr.units
  refine ⟨_, _, (pss_cons (ps_if (PW.pt (pw_or (pt_not (pt_val (pe_callB (cl_isi K) (by rfl) T.z_isinstance (by decide +kernel) (pa_cons (pv 1) (pa_cons (pe_bltn (v := .ty "tuple") (by rfl) T.z_tuple (by decide +kernel) rfl) pa_nil))))) (pw_or1 (pt_cmpR (neD K hu) (pe_callB (cl_len K) (by rfl) T.z_len (by decide +kernel) (pa_cons (pv 1) pa_nil)) pe_int (nomark _)))))
      (pss_one (ps_ret pe_bl))
      pss_nil)
    (pss_cons (ps_if (PW.pt (pw_or (pt_not (pt_val (pe_def D_is_integer hr (by decide) passE (pa_cons (pe_ix (ixU K) (pv 1) pe_int (fun _ _ => rfl)) pa_nil)))) (pw_or1 (pt_not (pt_val (pe_def D_is_integer hr (by decide) passE (pa_cons (pe_ix (ixU K) (pv 1) pe_int (fun _ _ => rfl)) pa_nil)))))))
      (pss_one (ps_ret pe_bl))
      pss_nil)
    (pss_one (ps_ret (pe_and (pe_chain op_le op_lt pe_int (pe_ix (ixU K) (pv 1) pe_int (fun _ _ => rfl)) (pe_callB (cl_len K) (by rfl) T.z_len (by decide +kernel) (pa_cons (pe_fldK K (pv 0)) pa_nil))) (pe_one (pe_chain op_le op_lt pe_int (pe_ix (ixU K) (pv 1) pe_int (fun _ _ => rfl)) (pe_callB (cl_len K) (by rfl) T.z_len (by decide +kernel) (pa_cons (pe_fldK K (pv 0)) pa_nil))))))))), (ss_seq (ss_if (si_or (si_not (si_B (si_isi (.ty "tuple") si_var))) (si_test (si_op (si_cb (si_cons si_var si_nil) sc_len) si_int sr_ne)))
      (ss_ret si_bl)
      ss_nx)
    (ss_seq (ss_if (si_or (si_not (si_B (si_def (si_cons (si_op si_var si_int sr_ix) si_nil)))) (si_not (si_B (si_def (si_cons (si_op si_var si_int sr_ix) si_nil)))))
      (ss_ret si_bl)
      ss_nx)
    (ss_ret (si_andV (si_chain si_int (si_op si_var si_int sr_ix) (si_cb (si_cons (si_fld X.t.cl X.nI si_var) si_nil) sc_len) sr_B0 sr_B0) (si_chain si_int (si_op si_var si_int sr_ix) (si_cb (si_cons (si_fld X.t.cl X.nO si_var) si_nil) sc_len) sr_B0 sr_B0))))), fun ds q e h => ?_⟩
  obtain ⟨is, os, m, d, rfl, hc, h⟩ := h
  refine ⟨d, rfl, isi_go hc.ok ⟨_, rfl, ?_⟩⟩
  cases d with
  | tup xs =>
    refine ifFF ⟨_, rfl, go_lenT (go_neI ⟨_, rfl, ?_⟩)⟩
    by_cases c : ((xs.length : Nat) : Int) = 2
    · rw [decide_eq_true c]
      obtain ⟨a, b, rfl⟩ := len2 c
      have ca := clsA.tup.mp hc a (by simp)
      have cb := clsA.tup.mp hc b (by simp)
      refine ifFF ⟨_, rfl, go_ixT (i := 0) rfl ⟨_, rfl, ca.ok, _, rfl, ?_⟩⟩
      cases pa : plainD a with
      | false =>
        rw [isPair_no (by rw [pa]; rfl)] at h
        exact ifTT (ifTT h)
      | true =>
        refine ifFF ⟨_, rfl, go_ixT (i := 1) rfl ⟨_, rfl, cb.ok, _, rfl, ?_⟩⟩
        cases pb : plainD b with
        | false =>
          rw [isPair_no (by rw [pa, pb]; rfl)] at h
          exact ifTT h
        | true =>
          cases a with
          | int i =>
            cases b with
            | int o =>
              rw [isPair_ints] at h
              refine ifFF ⟨_, rfl, go_ixT (i := 0) rfl ⟨trivial, _, rfl, ?_⟩⟩
              cases c1 : decide (0 ≤ i) with
              | false =>
                rw [c1] at h
                exact ifFF ⟨_, rfl, ifFF h⟩
              | true =>
                refine ifTT ⟨_, rfl, _, _, _, rfl, rfl, go_lenT ⟨trivial, _, rfl, ?_⟩⟩
                rw [List.length_map]
                rw [c1] at h
                cases c2 : decide (i < ((is.length : Nat) : Int)) with
                | false =>
                  rw [c2] at h
                  exact ifFF h
                | true =>
                  rw [c2, Bool.true_and, Bool.true_and] at h
                  refine ifTT ⟨_, rfl, go_ixT (i := 1) rfl ⟨trivial, _, rfl, ?_⟩⟩
                  cases c3 : decide (0 ≤ o) with
                  | false =>
                    rw [c3] at h
                    exact ifFF h
                  | true =>
                    rw [c3, Bool.true_and] at h
                    refine ifTT ⟨_, rfl, _, _, _, rfl, rfl, go_lenT ⟨trivial, ?_⟩⟩
                    rw [List.length_map]
                    exact h
            | _ => cases pb
          | _ => cases pa
    · rw [decide_eq_false c]
      have e : isPairD is.length os.length (.tup xs) = false := by
        unfold isPairD pairOf
        split
        · rename_i e
          cases e
          simp at c
        · rfl
      rw [e] at h
      exact ifTT h
  | _ => exact ifTT h
end
end K39
set_option Elab.async false
set_option linter.all false
set_option maxRecDepth 100000
set_option maxHeartbeats 4000000
namespace K39
open PySem PySem.Spec PyProof.Rows L2 Com Sd StV Gn Ext Dt
section
variable {P : Program} {w : World} {K : PySem.W.Frag} {mg : Str → Option Value} {base : Heap} {C : Addr}
theorem any_int (l : List Int) (x : Int) : (l.map PyData.int).any (fun z => PyData.eqv z (.int x)) = decide (x ∈ l) := by
  induction l with
  | nil => rfl
  | cons y l ih =>
    rw [List.map_cons, List.any_cons, ih, eqv_int]
    by_cases h : y = x
    · simp [h]
    · have h2 : ¬ x = y := fun z => h z.symm
      simp [h, h2]
theorem go_inIL {l : List Int} {x : Int} {q : KD} (h : q (.bl (decide (x ∈ l)))) : fIn false (.int x) (.lst (l.map .int)) q := ⟨_, _, _, rfl, .inr rfl, toPyA_ints l, rfl, shaped_lI l, by
  show q (.bl _)
  rw [any_int]; exact h⟩
/-- a load, call by call -/
def chk (n m : Nat) : List Dt.D → Int → List Int → Bool
  | [], _, _ => true
  | d :: ds, z, os => match pairOf n m d with
    | none => false
    | some p => if p.1 < z ∨ p.2 ∈ os then false else chk n m ds (p.1 + 1) (os ++ [p.2])
theorem chk_iff {n m : Nat} : ∀ {ds : List Dt.D} {z : Int} {os : List Int}, chk n m ds z os = true ↔ ∃ L : List PP, ds = L.map Dt.pairD ∧ (∀ p ∈ L, InP n m p) ∧ (∀ p ∈ L, z ≤ p.1) ∧ (L.map (·.1)).Pairwise (· < ·) ∧ (L.map (·.2)).Nodup ∧ ∀ p ∈ L, ¬ p.2 ∈ os
  | [], z, os => ⟨fun _ => ⟨[], rfl, (fun _ h => nomatch h), (fun _ h => nomatch h), .nil, .nil, fun _ h => nomatch h⟩, fun _ => rfl⟩
  | d :: ds, z, os => by
    rw [chk]
    cases e : pairOf n m d with
    | none =>
      refine ⟨(fun h => by cases h), fun ⟨L, e1, h1, _⟩ => ?_⟩
      cases L with
      | nil => cases e1
      | cons p L =>
        rw [List.map_cons] at e1
        injection e1 with e1 _
        rw [e1, pairOf_pair (h1 p (List.mem_cons_self ..))] at e
        cases e
    | some p =>
      obtain ⟨rfl, hp⟩ := pairOf_some e
      show (if p.1 < z ∨ p.2 ∈ os then false else chk n m ds (p.1 + 1) (os ++ [p.2])) = true ↔ _
      by_cases c : p.1 < z ∨ p.2 ∈ os
      · rw [if_pos c]
        refine ⟨(fun h => by cases h), fun ⟨L, e1, h1, h2, _, _, h5⟩ => ?_⟩
        cases L with
        | nil => cases e1
        | cons p' L =>
          rw [List.map_cons] at e1
          injection e1 with e1 _
          have ep : p = p' := by
            injection e1 with e1
            injection e1 with a b
            injection a with a
            injection b with b _
            injection b with b
            exact Prod.ext a b
          subst ep
          have := h2 p (List.mem_cons_self ..)
          rcases c with c | c
          · omega
          · exact absurd c (h5 p (List.mem_cons_self ..))
      · rw [if_neg c, chk_iff]
        constructor
        · rintro ⟨L, rfl, h1, h2, h3, h4, h5⟩
          refine ⟨p :: L, rfl, fun r hr => ?_, fun r hr => ?_, ?_, ?_, fun r hr => ?_⟩
          · rcases List.mem_cons.mp hr with rfl | hr
            · exact hp
            · exact h1 r hr
          · rcases List.mem_cons.mp hr with rfl | hr
            · exact Int.not_lt.mp fun z => c (.inl z)
            · have := h2 r hr
              have : ¬ p.1 < z := fun z => c (.inl z)
              omega
          · rw [List.map_cons, List.pairwise_cons]
            refine ⟨fun x hx => ?_, h3⟩
            obtain ⟨r, hr, rfl⟩ := List.mem_map.mp hx
            have := h2 r hr
            omega
          · rw [List.map_cons, List.nodup_cons]
            refine ⟨fun hx => ?_, h4⟩
            obtain ⟨r, hr, e2⟩ := List.mem_map.mp hx
            exact h5 r hr (List.mem_append.mpr (.inr (by rw [e2]; exact List.mem_singleton.mpr rfl)))
          · rcases List.mem_cons.mp hr with rfl | hr
            · exact fun z => c (.inr z)
            · exact fun z => h5 r hr (List.mem_append.mpr (.inl z))
        · rintro ⟨L, e1, h1, h2, h3, h4, h5⟩
          cases L with
          | nil => cases e1
          | cons p' L =>
            rw [List.map_cons] at e1
            injection e1 with e1 e2
            have ep : p = p' := by
              injection e1 with e1
              injection e1 with a b
              injection a with a
              injection b with b _
              injection b with b
              exact Prod.ext a b
            subst ep
            subst e2
            rw [List.map_cons, List.pairwise_cons] at h3
            rw [List.map_cons, List.nodup_cons] at h4
            refine ⟨L, rfl, fun r hr => h1 r (List.mem_cons_of_mem _ hr), fun r hr => ?_, h3.2, h4.2, fun r hr hx => ?_⟩
            · have := h3.1 r.1 (List.mem_map_of_mem hr)
              omega
            · rcases List.mem_append.mp hx with hx | hx
              · exact h5 r (List.mem_cons_of_mem _ hr) hx
              · rw [List.mem_singleton] at hx
                exact h4.1 (by rw [← hx]; exact List.mem_map_of_mem (f := (·.2)) hr)
theorem chk_load {n m : Nat} (xs : List Dt.D) : chk n m xs 0 [] = isLoadD n m (.tup xs) := by
  rw [Bool.eq_iff_iff, chk_iff]
  constructor
  · rintro ⟨L, rfl, h1, _, h3, h4, _⟩
    unfold isLoadD
    rw [show Dt.D.tup (L.map Dt.pairD) = ldD L from rfl, loadOf_ld ⟨h1, h3, h4⟩]
    rfl
  · intro h
    unfold isLoadD at h
    cases e : loadOf n m (.tup xs) with
    | none => rw [e] at h; cases h
    | some L =>
      obtain ⟨e1, lo⟩ := loadOf_some e
      injection e1 with e1
      exact ⟨L, e1, lo.rng, fun p hp => (lo.rng p hp).1, lo.asc, lo.nd, fun _ _ h => nomatch h⟩
abbrev s_lis_load : Stmt := top 49
abbrev N_lis_load : List Str := ["_law_exchange_here", "_law_thing", "_law_outs", "_law_least", "_law_pair"]
theorem sc_lis_load : FnScope N_lis_load ["_law_exchange_here", "_law_thing"] (defScope s_lis_load) := ⟨rfl, rfl, rfl, by decide +kernel, rfl, by decide +kernel, by decide +kernel⟩
theorem ok_jis_load (T : Blt mg) (X : ExC K mg C) (D_lis_pair : DefOk P w K mg base CX0 2 "_law_is_pair" (spOf (sdIsPair K C))) (Df : DefAt K mg "_law_is_load" s_lis_load ["_law_exchange_here", "_law_thing"]) : DefOk P w K mg base CX0 3 "_law_is_load" (spOf (sdIsLoad K C)) := by
  refine DefAtD.ok Df sc_lis_load (fun ds q e h => by obtain ⟨_, _, _, _, rfl, _⟩ := h; rfl) (fun f cdv A outer s H E hr => ?_)
  have hu := hr.units
  have hu5 := r65 hr
  refine ⟨_, _, (pss_cons (ps_if (pt_not (pt_val (pe_callB (cl_isi K) (by rfl) T.z_isinstance (by decide +kernel) (pa_cons (pv 1) (pa_cons (pe_bltn (v := .ty "tuple") (by rfl) T.z_tuple (by decide +kernel) rfl) pa_nil)))))
      (pss_one (ps_ret pe_bl))
      pss_nil)
    (pss_cons (ps_set (i := 2) sc_lis_load.nd rfl (Or.inl rfl) (pe_lst pa_nil))
    (pss_cons (ps_set (i := 3) sc_lis_load.nd rfl (Or.inl rfl) pe_int)
    (pss_cons (ps_for PassesOwn.never rfl (pi_seq K (pv 1)) (pg_name (i := 4) sc_lis_load.nd rfl (Or.inl rfl))
      (pss_cons (ps_if (PW.pt (pw_or (pt_not (pt_val (pe_def D_lis_pair hr (by decide) passE (pa_cons (pv 0) (pa_cons (pv 4) pa_nil))))) (pw_or (pt_cmpR op_lt (pe_ix (ixU K) (pv 4) pe_int (fun _ _ => rfl)) (pv 3) (nomark _)) (pw_or1 (pt_cmpR (op_inU K hu5) (pe_ix (ixU K) (pv 4) pe_int (fun _ _ => rfl)) (pv 2) rfl)))))
        (pss_one (ps_ret pe_bl))
        pss_nil)
      (pss_cons (ps_expr (pe_bm PySem.F.plainAttrs_list PySem.F.slot_list_append PySem.F.type_list_append mt_append (pv 2) (pa_cons (pe_ix (ixU K) (pv 4) pe_int (fun _ _ => rfl)) pa_nil)))
      (pss_one (ps_set (i := 3) sc_lis_load.nd rfl (Or.inl rfl) (pe_op op_plus (pe_ix (ixU K) (pv 4) pe_int (fun _ _ => rfl)) pe_int))))))
    (pss_one (ps_ret pe_bl)))))), (ss_seq (ss_if (si_not (si_B (si_isi (.ty "tuple") si_var)))
      (ss_ret si_bl)
      ss_nx)
    (ss_seq (ss_own (sn_lst si_nil))
    (ss_seq (ss_asg si_int sg_name)
    (ss_seq (ss_for (si_seq si_var) sg_name
      (ss_seq (ss_if (si_or (si_not (si_B (si_def (si_cons si_var (si_cons si_var si_nil))))) (si_or (si_test (si_op (si_op si_var si_int sr_ix) si_var sr_B0)) (si_test (si_peek (i := 2) (si_op (si_op si_var si_int sr_ix) si_var sr_in)))))
        (ss_ret si_bl)
        ss_nx)
      (ss_seq (ss_app (si_op si_var si_int sr_ix))
      (ss_asg (si_op (si_op si_var si_int sr_ix) si_int sr_plus) sg_name))))
    (ss_ret si_bl))))), fun ds q e h => ?_⟩
  obtain ⟨is, os, m, d, rfl, h6, hc, h⟩ := h
  refine ⟨_, rfl, isi_go hc.ok ⟨_, rfl, ?_⟩⟩
  cases d with
  | tup xs =>
    refine ifFF ?_
    rw [← chk_load] at h
    refine ⟨(by show 0 ≤ sizeLine; decide), _, rfl, _, .inl rfl, loop_inv (fun i ρ => ∃ (w1 : Option En) (z : Int) (ls : List Int), ρ = [some (.d (exD C is os m)), some (.d (.tup xs)), some (.own (ls.map .int)), some (.d (.int z)), w1] ∧ (ls.length : Int) ≤ z ∧ 0 ≤ z ∧ chk is.length os.length xs 0 [] = chk is.length os.length (xs.drop i) z ls) _ 0 _ ⟨none, 0, [], rfl, by decide, by decide, rfl⟩ ?_ ?_⟩
    · rintro k x ρ N hk ⟨w1, z, ls, rfl, hz, z0, hch⟩ hN
      rw [Nat.zero_add] at hch hN
      have hkl := (List.getElem?_eq_some_iff.mp hk).1
      rw [List.drop_eq_getElem_cons hkl, (List.getElem?_eq_some_iff.mp hk).2] at hch
      refine ⟨_, rfl, _, rfl, is, os, m, x, rfl, clsA.tup.mp hc x (List.mem_of_getElem? hk), _, rfl, ?_⟩
      cases e : pairOf is.length os.length x with
      | none =>
        rw [chk, e] at hch
        have e1 : isPairD is.length os.length x = false := by unfold isPairD; rw [e]; rfl
        rw [e1]
        refine ifTT (ifTT ?_)
        rw [hch] at h
        exact h
      | some p =>
        have e1 : isPairD is.length os.length x = true := by unfold isPairD; rw [e]; rfl
        rw [e1]
        obtain ⟨rfl, hp⟩ := pairOf_some e
        rw [chk, e] at hch
        have hch : chk is.length os.length xs 0 [] = (if p.1 < z ∨ p.2 ∈ ls then false else chk is.length os.length (xs.drop (k + 1)) (p.1 + 1) (ls ++ [p.2])) := hch
        refine ifFF ⟨_, rfl, go_p0 ⟨_, rfl, trivial, _, rfl, ?_⟩⟩
        by_cases c1 : p.1 < z
        · rw [decide_eq_true c1]
          rw [if_pos (.inl c1)] at hch
          refine ifTT (ifTT ?_)
          rw [hch] at h
          exact h
        · rw [decide_eq_false c1]
          refine ifFF ⟨_, rfl, _, rfl, go_p1 ⟨_, rfl, go_inIL ⟨rfl, _, rfl, ?_⟩⟩⟩
          by_cases c2 : p.2 ∈ ls
          · rw [decide_eq_true c2]
            rw [if_pos (.inr c2)] at hch
            refine ifTT ?_
            rw [hch] at h
            exact h
          · rw [decide_eq_false c2]
            rw [if_neg (fun z => z.elim c1 c2)] at hch
            refine ifFF ?_
            have r2 := hp.2.1
            refine ⟨_, rfl, _, rfl, go_p1 ⟨by rw [List.length_map]; exact szl (by omega), _, rfl, go_p0 (hN _ ⟨some (.d (Dt.pairD p)), p.1 + 1, ls ++ [p.2], ?_, ?_, by omega, hch⟩)⟩⟩
            · rw [List.map_append]
              rfl
            · rw [List.length_append]
              show (((ls.length + 1 : Nat)) : Int) ≤ _
              omega
    · rintro ρ ⟨w1, z, ls, rfl, hz, z0, hch⟩
      rw [Nat.zero_add, List.drop_length] at hch
      rw [hch] at h
      exact h
  | _ => exact ifTT h
abbrev s_lis_standing : Stmt := top 50
abbrev N_lis_standing : List Str := ["_law_exchange_here", "_law_thing", "_law_ins", "_law_outs", "_law_load", "_law_pair"]
theorem sc_lis_standing : FnScope N_lis_standing ["_law_exchange_here", "_law_thing"] (defScope s_lis_standing) := ⟨rfl, rfl, rfl, by decide +kernel, rfl, by decide +kernel, by decide +kernel⟩
theorem ok_jis_standing (T : Blt mg) (X : ExC K mg C) (D_lis_load : DefOk P w K mg base CX0 3 "_law_is_load" (spOf (sdIsLoad K C))) (Df : DefAt K mg "_law_is_standing" s_lis_standing ["_law_exchange_here", "_law_thing"]) : DefOk P w K mg base CX0 4 "_law_is_standing" (spOf (sdIsSta K C)) := by
  refine DefAtD.ok Df sc_lis_standing (fun ds q e h => by obtain ⟨_, _, _, _, rfl, _⟩ := h; rfl) (fun f cdv A outer s H E hr => ?_)
  have hu := hr.units
  refine ⟨_, _, (pss_cons (ps_if (PW.pt (pw_or (pt_not (pt_val (pe_callB (cl_isi K) (by rfl) T.z_isinstance (by decide +kernel) (pa_cons (pv 1) (pa_cons (pe_bltn (v := .ty "tuple") (by rfl) T.z_tuple (by decide +kernel) rfl) pa_nil))))) (pw_or1 (pt_cmpR (neD K hu) (pe_callB (cl_len K) (by rfl) T.z_len (by decide +kernel) (pa_cons (pv 1) pa_nil)) (pe_fldK K (pv 0)) (nomark _)))))
      (pss_one (ps_ret pe_bl))
      pss_nil)
    (pss_cons (ps_set (i := 2) sc_lis_standing.nd rfl (Or.inl rfl) (pe_callTy (cl_list K) (by rfl) T.z_list (by decide +kernel) (pa_cons (pe_fldK K (pv 0)) pa_nil)))
    (pss_cons (ps_set (i := 3) sc_lis_standing.nd rfl (Or.inl rfl) (pe_callTy (cl_list K) (by rfl) T.z_list (by decide +kernel) (pa_cons (pe_fldK K (pv 0)) pa_nil)))
    (pss_cons (ps_for PassesOwn.never rfl (pi_seq K (pv 1)) (pg_name (i := 4) sc_lis_standing.nd rfl (Or.inl rfl))
      (pss_cons (ps_if (pt_not (pt_val (pe_def D_lis_load hr (by decide) passE (pa_cons (pv 0) (pa_cons (pv 4) pa_nil)))))
        (pss_one (ps_ret pe_bl))
        pss_nil)
      (pss_one (ps_for PassesOwn.never rfl (pi_seq K (pv 4)) (pg_name (i := 5) sc_lis_standing.nd rfl (Or.inl rfl))
        (pss_cons (ps_augS (pv 2) (pe_ix (ixU K) (pv 5) pe_int (fun _ _ => rfl)) (getL K) pe_int ip_sub set_list)
        (pss_one (ps_augS (pv 3) (pe_ix (ixU K) (pv 5) pe_int (fun _ _ => rfl)) (getL K) pe_int ip_sub set_list)))))))
    (pss_one (ps_ret (pe_and (pe_cmpR op_ge (pe_callB (cr_min rfl) (by rfl) T.z_min (by decide +kernel) (pa_cons (pv 2) pa_nil)) pe_int (nomark _)) (pe_one (pe_cmpR op_ge (pe_callB (cr_min rfl) (by rfl) T.z_min (by decide +kernel) (pa_cons (pv 3) pa_nil)) pe_int (nomark _)))))))))), (ss_seq (ss_if (si_or (si_not (si_B (si_isi (.ty "tuple") si_var))) (si_test (si_op (si_cb (si_cons si_var si_nil) sc_len) (si_fld X.t.cl X.nM si_var) sr_ne)))
      (ss_ret si_bl)
      ss_nx)
    (ss_seq (ss_own (sn_cb (si_cons (si_fld X.t.cl X.nI si_var) si_nil) scn_list))
    (ss_seq (ss_own (sn_cb (si_cons (si_fld X.t.cl X.nO si_var) si_nil) scn_list))
    (ss_seq (ss_for (si_seq si_var) sg_name
      (ss_seq (ss_if (si_not (si_B (si_def (si_cons si_var (si_cons si_var si_nil)))))
        (ss_ret si_bl)
        ss_nx)
      (ss_for (si_seq si_var) sg_name
        (ss_seq (ss_augS si_int (si_op si_var si_int sr_ix) ip_I)
        (ss_augS si_int (si_op si_var si_int sr_ix) ip_I)))))
    (ss_frz (i := 3) (ss_frz (i := 2) (ss_ret (si_andV (si_op (si_cb (si_cons si_var si_nil) sc_min) si_int sr_B0) (si_op (si_cb (si_cons si_var si_nil) sc_min) si_int sr_B0))))))))), fun ds q e h => ?_⟩
  obtain ⟨ds, es, m, d, rfl, d1, d2, e1, e2, m1, hc, h⟩ := h
  refine ⟨_, rfl, isi_go hc.ok ⟨_, rfl, ?_⟩⟩
  cases d with
  | tup xs =>
    rw [isStaD_tup] at h
    refine ifFF ⟨_, rfl, go_lenT ⟨_, rfl, _, _, _, rfl, rfl, go_neI ⟨_, rfl, ?_⟩⟩⟩
    by_cases c : ((xs.length : Nat) : Int) = m
    · rw [decide_eq_true c] at h ⊢
      rw [Bool.true_and] at h
      refine ifFF ?_
      refine ⟨_, rfl, _, _, _, rfl, rfl, ds.map Dt.D.int, .inl rfl, _, rfl, _, _, _, rfl, rfl, es.map Dt.D.int, .inl rfl, ?_⟩
      refine ⟨_, rfl, xs, .inl rfl, loop_inv (fun i ρ => ∃ S w1 w2, xs.take i = S.map ldD ∧ (∀ L ∈ S, LoadOk ds.length es.length L) ∧ ρ = [some (.d (exD C ds es m)), some (.d (.tup xs)), some (.own ((left ds (fs S)).map .int)), some (.own ((left es (sn S)).map .int)), w1, w2]) _ 0 _ ⟨[], none, none, rfl, (fun _ h => nomatch h), ?_⟩ ?_ ?_⟩
      · rw [show fs [] = [] from rfl, show sn [] = [] from rfl, left_nil, left_nil]
        rfl
      · rintro k x ρ N hk ⟨S, w1, w2, hS, hL, rfl⟩ hN
        rw [Nat.zero_add] at hS hN
        refine ⟨_, rfl, _, rfl, ds, es, m, x, rfl, d2, clsA.tup.mp hc x (List.mem_of_getElem? hk), _, rfl, ?_⟩
        cases e : loadOf ds.length es.length x with
        | none =>
          have e3 : isLoadD ds.length es.length x = false := by unfold isLoadD; rw [e]; rfl
          rw [e3]
          refine ifTT ?_
          cases e4 : loadsOf ds.length es.length xs with
          | none =>
            rw [e4] at h
            exact h
          | some S2 =>
            obtain ⟨rfl, h2⟩ := loadsOf_some e4
            rw [List.getElem?_map] at hk
            cases e5 : S2[k]? with
            | none => rw [e5] at hk; cases hk
            | some L =>
              rw [e5] at hk
              cases hk
              rw [loadOf_ld (h2 L (List.mem_of_getElem? e5))] at e
              cases e
        | some L =>
          obtain ⟨rfl, lo⟩ := loadOf_some e
          have e3 : isLoadD ds.length es.length (ldD L) = true := by unfold isLoadD; rw [e]; rfl
          rw [e3]
          refine ifFF ?_
          refine ⟨_, rfl, L.map Dt.pairD, .inl rfl, loop_inv (fun j ρ => ∃ w1 w2, ρ = [some (.d (exD C ds es m)), some (.d (.tup xs)), some (.own ((left ds (fs S ++ (L.take j).map (·.1))).map .int)), some (.own ((left es (sn S ++ (L.take j).map (·.2))).map .int)), w1, w2]) _ 0 _ ⟨some (.d (ldD L)), w2, ?_⟩ ?_ ?_⟩
          · simp
          · rintro j y ρ N2 hj ⟨w1, w2, rfl⟩ hN2
            rw [Nat.zero_add] at hN2 ⊢
            rw [List.getElem?_map] at hj
            cases hp : L[j]? with
            | none => rw [hp] at hj; cases hj
            | some p =>
              rw [hp] at hj
              cases hj
              obtain ⟨r1, r2, r3, r4⟩ := lo.rng p (List.mem_of_getElem? hp)
              have eL : L.take (j + 1) = L.take j ++ [p] := by
                rw [List.take_add_one, hp]
                rfl
              refine ⟨_, rfl, _, rfl, go_p0 (dl_step r1 r2 (ρ := [some (.d (exD C ds es m)), some (.d (.tup xs)), some (.own ((left ds (fs S ++ (L.take j).map (·.1))).map .int)), some (.own ((left es (sn S ++ (L.take j).map (·.2))).map .int)), w1, some (.d (Dt.pairD p))]) ?_)⟩
              refine ⟨_, rfl, _, rfl, go_p1 (dl_step r3 r4 (ρ := [some (.d (exD C ds es m)), some (.d (.tup xs)), some (.own ((left ds (fs S ++ (L.take j).map (·.1) ++ [p.1])).map .int)), some (.own ((left es (sn S ++ (L.take j).map (·.2))).map .int)), w1, some (.d (Dt.pairD p))]) ?_)⟩
              refine hN2 _ ⟨w1, some (.d (Dt.pairD p)), ?_⟩
              rw [eL, List.map_append, List.map_append, List.append_assoc, List.append_assoc]
              rfl
          · rintro ρ ⟨w1, w2, rfl⟩
            have f1 : fs (S ++ [L]) = fs S ++ L.map (·.1) := by simp [fs]
            have f2 : sn (S ++ [L]) = sn S ++ L.map (·.2) := by simp [sn]
            refine hN _ ⟨S ++ [L], w1, w2, ?_, fun M hM => ?_, ?_⟩
            · rw [List.take_add_one, hk, hS, List.map_append]
              rfl
            · rcases List.mem_append.mp hM with hM | hM
              · exact hL M hM
              · rw [List.mem_singleton.mp hM]; exact lo
            · rw [Nat.zero_add, List.length_map, List.take_length, f1, f2]
      · rintro ρ ⟨S, w1, w2, hS, hL, rfl⟩
        rw [Nat.zero_add, List.take_length] at hS
        subst hS
        rw [loadsOf_map hL] at h
        have h : q (.bl (doorB ds es S)) := h
        refine ⟨_, rfl, _, rfl, _, rfl, left ds (fs S), rfl, by rw [left_len]; omega, fun a ha hm => ⟨trivial, _, rfl, ?_⟩⟩
        have eq1 : decide (∀ d ∈ left ds (fs S), 0 ≤ d) = decide (0 ≤ a) := decide_eq_decide.mpr ⟨fun z => z a ha, fun z d hd => by have := hm d hd; omega⟩
        unfold doorB at h
        rw [eq1] at h
        cases c1 : decide (0 ≤ a) with
        | false =>
          rw [c1, Bool.false_and] at h
          exact ifFF h
        | true =>
          rw [c1, Bool.true_and] at h
          refine ifTT ⟨_, rfl, left es (sn S), rfl, by rw [left_len]; omega, fun b hb hm2 => ⟨trivial, ?_⟩⟩
          have eq2 : decide (∀ d ∈ left es (sn S), 0 ≤ d) = decide (0 ≤ b) := decide_eq_decide.mpr ⟨fun z => z b hb, fun z d hd => by have := hm2 d hd; omega⟩
          rw [eq2] at h
          exact h
    · rw [decide_eq_false c] at h ⊢
      exact ifTT h
  | _ => exact ifTT (ifTT h)
end
end K39
set_option Elab.async false
set_option linter.all false
set_option maxRecDepth 100000
set_option maxHeartbeats 4000000
namespace K39
open PySem PySem.Spec PyProof.Rows L2 Com Sd StV Gn Ext Dt
section
variable {P : Program} {w : World} {K : PySem.W.Frag} {mg : Str → Option Value} {base : Heap} {C CS CB fS fB : Addr}
theorem small_of {ds es : List Int} {m : Int} {S : List (List PP)} (g : GE ds es m) (h : StdOk ds es m S) : S.length ≤ 7 ∧ S ≠ [] ∧ ∀ L ∈ S, L.length ≤ 4 ∧ ∀ p ∈ L, Sml p := by
  have hl := h.len
  have h1 := g.m1
  have h2 := g.m2
  refine ⟨by omega, fun z => by rw [z] at hl; simp at hl; omega, fun L hL => ⟨?_, fun p hp => ?_⟩⟩
  · have := (h.ld L hL).len
    have := g.gi.2.1
    omega
  · obtain ⟨a, b, c, d⟩ := (h.ld L hL).rng p hp
    have := g.gi.2.1
    have := g.go.2.1
    exact ⟨a, by omega, c, by omega⟩
abbrev s_pair_text : Stmt := top 28
abbrev N_pair_text : List Str := ["pair"]
theorem sc_pair_text : FnScope N_pair_text ["pair"] (defScope s_pair_text) := ⟨rfl, rfl, rfl, by decide +kernel, rfl, by decide +kernel, by decide +kernel⟩
def sdPairT : SpD := fun xs q _ => ∃ p, xs = [Dt.pairD p] ∧ Sml p ∧ q (.str (pairT p))
theorem ok_pair_text (T : Blt mg) (Df : DefAt K mg "_pair_text" s_pair_text ["pair"]) : DefOk P w K mg base CX0 1 "_pair_text" (spOf sdPairT) := by
  refine DefAtD.ok Df sc_pair_text (fun ds q e h => by obtain ⟨_, rfl, _⟩ := h; rfl) (fun f cdv A outer s H E hr => ⟨_, _, (pss_one (ps_ret (pe_joined (.cons (pe_fmt (pe_ix (ixU K) (pv 0) pe_int (fun _ _ => rfl))) (.cons pe_str (.cons (pe_fmt (pe_ix (ixU K) (pv 0) pe_int (fun _ _ => rfl))) .nil)))))), (ss_ret (si_fstr (.cons (si_fmt (si_op si_var si_int sr_ix)) (.cons si_str (.cons (si_fmt (si_op si_var si_int sr_ix)) .nil))))), fun ds q e h => ?_⟩)
  obtain ⟨p, rfl, hp, h⟩ := h
  have l1 := str_dig hp.1 (by have := hp.2.1; omega)
  have l2 := str_dig hp.2.2.1 (by have := hp.2.2.2; omega)
  have n1 := (dig_facts p.1.toNat (by have := hp.1; have := hp.2.1; omega)).2.2.1
  have n2 := (dig_facts p.2.toNat (by have := hp.2.2.1; have := hp.2.2.2; omega)).2.2.1
  have b1 : ("-" : Str).length = 1 := by decide
  have em : ∀ x : Str, Str.empty ++ x = x := fun x => by
    show (⟨#[] ++ x.cps⟩ : Str) = x
    simp
  refine ⟨_, rfl, go_p0 ⟨log_small hp.1 (by have := hp.2.1; omega), _, rfl, ?_, ?_⟩⟩
  · rw [em, l1, n1]; decide
  rw [em]
  refine ⟨_, rfl, by rw [str_len, l1, n1, b1]; decide, _, rfl, go_p1 ⟨log_small hp.2.2.1 (by have := hp.2.2.2; omega), _, rfl, ?_, h⟩⟩
  rw [str_len, str_len, l1, l2, n1, n2, b1]
  decide
theorem len_sum {k : Nat} : ∀ {ts : List Str}, (∀ t ∈ ts, OkT k t) → (ts.map (·.length)).sum ≤ k * ts.length
  | [], _ => by simp
  | t :: ts, h => by
    have := (h t (by simp)).1
    have := len_sum (k := k) (ts := ts) fun x hx => h x (List.mem_cons_of_mem _ hx)
    rw [List.map_cons, List.sum_cons, List.length_cons, Nat.mul_add]
    omega
/-- a join of a few short texts -/
theorem go_join {b : Str} {ts : List Str} {k : Nat} {q : KD} (hb : OkT 1 b) (hk : k ≤ 1000) (hl : ts.length ≤ 1000) (ht : ∀ t ∈ ts, OkT k t) (h : q (.str (Str.join b ts))) : fJoin b (.lst (ts.map .str)) q := by
  refine ⟨ts, rfl, ?_, by rw [join_glued]; exact h⟩
  have h1 := len_sum ht
  have h2 : k * ts.length ≤ 1000 * 1000 := Nat.mul_le_mul hk hl
  have h3 : ts.length * b.length ≤ 1000 * 1 := Nat.mul_le_mul hl hb.1
  omega
abbrev s_load_text : Stmt := top 27
abbrev N_load_text : List Str := ["load", "pair"]
theorem sc_load_text : FnScope N_load_text ["load"] (defScope s_load_text) := ⟨rfl, rfl, rfl, by decide +kernel, rfl, by decide +kernel, by decide +kernel⟩
def sdLoadT : SpD := fun xs q _ => ∃ L, xs = [ldD L] ∧ L.length ≤ 4 ∧ (∀ p ∈ L, Sml p) ∧ q (.str (loadT L))
theorem ok_load_text (T : Blt mg) (D_pair_text : DefOk P w K mg base CX0 1 "_pair_text" (spOf sdPairT)) (Df : DefAt K mg "_load_text" s_load_text ["load"]) : DefOk P w K mg base CX0 2 "_load_text" (spOf sdLoadT) := by
  refine DefAtD.ok Df sc_load_text (fun ds q e h => by obtain ⟨_, rfl, _⟩ := h; rfl) (fun f cdv A outer s H E hr => ?_)
  have hu := hr.units
  refine ⟨_, _, (pss_cons (ps_if (pt_cmpR (eqD K hu) (pv 0) (pe_tup pa_nil) (nomark _))
      (pss_one (ps_ret pe_str))
      pss_nil)
    (pss_one (ps_ret (pe_jn K pe_str (pe_lc (own := [("pair", 1)]) (g := gName 1) (tt := tYes) rfl sc_load_text.nd (pi_seq K (pv 0)) (blkOk_by (N := N_load_text) (sc := defScope s_load_text) (by decide +kernel)) (fun _ _ _ _ _ => (pg_name (i := 1) sc_load_text.nd rfl (Or.inl rfl))) (fun _ _ _ _ _ => pts_nil) (fun _ _ _ _ _ => (pe_def D_pair_text hr (by decide) passE (pa_cons (pv 1) pa_nil)))))))), (ss_seq (ss_if (si_test (si_op si_var (si_tup si_nil) sr_eq))
      (ss_ret si_str)
      ss_nx)
    (ss_ret (si_jn si_str (si_lc (si_seq si_var) sg_name si_yes (si_def (si_cons si_var si_nil)) (by decide))))), fun ds q e h => ?_⟩
  obtain ⟨L, rfl, hl, hp, h⟩ := h
  unfold loadT at h
  refine ⟨_, rfl, (by show 0 ≤ sizeLine; decide), Et.EqE.eq (a := L) (b := []) Et.EqE.ld (by decide) ⟨_, rfl, ?_⟩⟩
  by_cases c : L = []
  · rw [decide_eq_true c]
    rw [if_pos c] at h
    exact ifTT h
  · rw [decide_eq_false c]
    rw [if_neg c] at h
    refine ifFF ⟨_, rfl, _, rfl, _, .inl rfl, ?_⟩
    refine lcL_map (fun d => match d with | .tup [.int i, .int j] => .str (pairT (i, j)) | _ => .non) _ [] (by rw [List.length_map]; show 0 + _ ≤ _; omega) (fun d hd Q hQ => ?_) ?_
    · obtain ⟨p, hp1, rfl⟩ := List.mem_map.mp hd
      exact ⟨_, rfl, p, rfl, hp p hp1, hQ⟩
    · rw [List.nil_append, List.map_map]
      have e1 : (L.map ((fun d => match d with | Dt.D.tup [.int i, .int j] => .str (pairT (i, j)) | _ => .non) ∘ Dt.pairD)) = (L.map pairT).map Dt.D.str := by rw [List.map_map]; rfl
      rw [e1]
      refine go_join (k := 3) (one_ok comma_s (by decide)) (by decide) (by rw [List.length_map]; omega) (fun t ht => ?_) h
      obtain ⟨p, hp1, rfl⟩ := List.mem_map.mp ht
      exact pair_ok (hp p hp1)
abbrev s_check_standing : Stmt := top 24
abbrev N_check_standing : List Str := ["exchange", "standing"]
theorem sc_check_standing : FnScope N_check_standing ["exchange", "standing"] (defScope s_check_standing) := ⟨rfl, rfl, rfl, by decide +kernel, rfl, by decide +kernel, by decide +kernel⟩
def sdCheckG (C : Addr) : SpD := fun xs q _ => ∃ ds es m S, xs = [exD C ds es m, stD S] ∧ GE ds es m ∧ StdOk ds es m S ∧ q .non
def sdCheckB (K : PySem.W.Frag) (C CS : Addr) : SpD := fun xs _ e => ∃ ds es m d, xs = [exD C ds es m, d] ∧ GE ds es m ∧ clsA K (er1 d) ∧ isStaD ds es m (er1 d) = false ∧ e CS "thing" d
theorem ok_check_good (T : Blt mg) (X : ExC K mg C) (D_is_standing : DefOk P w K mg base CX0 5 "is_standing" (spOf (sdIsSta K C))) (Df : DefAt K mg "check_standing" s_check_standing ["exchange", "standing"]) : DefOk P w K mg base CX0 6 "check_standing" (spOf (sdCheckG C)) := by
  refine DefAtD.ok Df sc_check_standing (fun ds q e h => by obtain ⟨_, _, _, _, rfl, _⟩ := h; rfl) (fun f cdv A outer s H E hr => ⟨_, _, (pss_one (ps_if (pt_not (pt_val (pe_def D_is_standing hr (by decide) passE (pa_cons (pv 0) (pa_cons (pv 1) pa_nil))))) (pss_one ps_never) pss_nil)), (ss_if (si_not (si_B (si_def (si_cons si_var (si_cons si_var si_nil))))) ss_never ss_nx), fun ds q e h => ?_⟩)
  obtain ⟨ds, es, m, S, rfl, g, hS, h⟩ := h
  have d1 := g.gi.1
  have d2 := g.gi.2.1
  have e1 := g.go.1
  have e2 := g.go.2.1
  have m2 := g.m2
  refine ⟨_, rfl, _, rfl, ds, es, m, _, rfl, by omega, by omega, by omega, by omega, by omega, cls_st, ?_⟩
  rw [isSta_ok hS]
  exact ⟨_, rfl, ifFF h⟩
theorem ok_check_bad (T : Blt mg) (X : ExC K mg C) (TS : PySem.Exo_thing.Txt P K mg "NoStanding" CS fS) (D_is_standing : DefOk P w K mg base CX0 5 "is_standing" (spOf (sdIsSta K C))) (Df : DefAt K mg "check_standing" s_check_standing ["exchange", "standing"]) : DefOk P w K mg base (L2.CX P w) 6 "check_standing" (spOf (sdCheckB K C CS)) := by
  refine DefAtX.ok Df sc_check_standing (fun ds q e h => by obtain ⟨_, _, _, _, rfl, _⟩ := h; rfl) (fun f cdv A outer s H E hr => ⟨_, _, (pss_one (ps_if (pt_not (pt_val (pe_def D_is_standing hr (by decide) passE (pa_cons (pv 0) (pa_cons (pv 1) pa_nil)))))
      (pss_one (Com_thing.ps_raiseE TS hr (takes_of rfl rfl rfl rfl) (by exact (pa_cons (pv 1) pa_nil))))
      pss_nil)), (ss_if (si_not (si_B (si_defE (si_cons si_var (si_cons si_var si_nil)))))
      (ss_raise (F := "thing") (si_cons si_var si_nil))
      ss_nx), fun ds q e h => ?_⟩)
  obtain ⟨ds, es, m, d, rfl, g, hc, hs, h⟩ := h
  have d1 := g.gi.1
  have d2 := g.gi.2.1
  have e1 := g.go.1
  have e2 := g.go.2.1
  have m2 := g.m2
  refine ⟨_, rfl, _, rfl, ds, es, m, er1 d, rfl, by omega, by omega, by omega, by omega, by omega, hc, ?_⟩
  rw [hs]
  exact ⟨_, rfl, ifTT ⟨_, rfl, _, rfl, h⟩⟩
abbrev s_standing_text : Stmt := top 26
abbrev N_standing_text : List Str := ["exchange", "standing", "load"]
theorem sc_standing_text : FnScope N_standing_text ["exchange", "standing"] (defScope s_standing_text) := ⟨rfl, rfl, rfl, by decide +kernel, rfl, by decide +kernel, by decide +kernel⟩
def sdTextG (C : Addr) : SpD := fun xs q _ => ∃ ds es m S, xs = [exD C ds es m, stD S] ∧ GE ds es m ∧ StdOk ds es m S ∧ q (.str (staT S))
theorem ok_text_fn (T : Blt mg) (D_check_standing : DefOk P w K mg base CX0 6 "check_standing" (spOf (sdCheckG C))) (D_load_text : DefOk P w K mg base CX0 2 "_load_text" (spOf sdLoadT)) {f : Addr} {fd : FuncData} (FF : Fun K "standing_text" "standing_text" s_standing_text f fd) : FnOk P w K mg base CX0 7 f fd ["exchange", "standing"] (spOf (sdTextG C)) := by
  refine FunD.ok FF sc_standing_text (fun ds q e h => by obtain ⟨_, _, _, _, rfl, _⟩ := h; rfl) (fun cdv A outer s H E hr => ?_)
  have passX : ∀ {X : Cx} {E : XK}, Passes CX0 X E := passE
  refine ⟨_, _, (pss_cons (ps_expr (pe_def D_check_standing hr (by decide) passX (pa_cons (pv 0) (pa_cons (pv 1) pa_nil))))
    (pss_one (ps_ret (pe_jn K pe_str (pe_lc (own := [("load", 2)]) (g := gName 2) (tt := tYes) rfl sc_standing_text.nd (pi_seq K (pv 1)) (blkOk_by (N := N_standing_text) (sc := defScope s_standing_text) (by decide +kernel)) (fun _ _ _ _ _ => (pg_name (i := 2) sc_standing_text.nd rfl (Or.inl rfl))) (fun _ _ _ _ _ => pts_nil) (fun _ _ _ _ _ => (pe_def D_load_text hr (by decide) passE (pa_cons (pv 2) pa_nil)))))))), (ss_seq (ss_exp (si_def (si_cons si_var (si_cons si_var si_nil))))
    (ss_ret (si_jn si_str (si_lc (si_seq si_var) sg_name si_yes (si_def (si_cons si_var si_nil)) (by decide))))), fun ds q e h => ?_⟩
  obtain ⟨ds, es, m, S, rfl, g, hS, h⟩ := h
  obtain ⟨s1, s2, s3⟩ := small_of g hS
  refine ⟨_, rfl, _, rfl, ds, es, m, S, rfl, g, hS, ?_⟩
  refine ⟨_, rfl, _, rfl, _, .inl rfl, ?_⟩
  refine lcL_step (fun i acc => acc = ((S.take i).map loadT).map Dt.D.str) _ 0 [] rfl ?_ ?_
  · rintro j d acc N hj rfl hN
    rw [Nat.zero_add] at hN
    rw [List.getElem?_map] at hj
    cases hL : S[j]? with
    | none => rw [hL] at hj; cases hj
    | some L =>
      rw [hL] at hj
      cases hj
      have hm := List.mem_of_getElem? hL
      have hj' := (List.getElem?_eq_some_iff.mp hL).1
      refine ifTT ⟨_, rfl, L, rfl, (s3 L hm).1, (s3 L hm).2, ?_, hN _ ?_⟩
      · rw [Nat.zero_add, List.length_map, List.length_map, List.length_take]
        exact szl (by omega)
      · rw [Nat.zero_add, List.take_add_one, hL]
        simp
  · rintro acc rfl
    rw [Nat.zero_add, List.length_map, List.take_length]
    refine go_join (k := 16) (one_ok slash_s (by decide)) (by decide) (by rw [List.length_map]; omega) (fun t ht => ?_) h
    obtain ⟨L, hL, rfl⟩ := List.mem_map.mp ht
    exact load_ok (s3 L hL).1 (s3 L hL).2
theorem ok_text_bad (T : Blt mg) (D_check_standing : DefOk P w K mg base (L2.CX P w) 6 "check_standing" (spOf (sdCheckB K C CS))) (D_load_text : DefOk P w K mg base CX0 2 "_load_text" (spOf sdLoadT)) (Df : DefAt K mg "standing_text" s_standing_text ["exchange", "standing"]) : DefOk P w K mg base (L2.CX P w) 7 "standing_text" (spOf (sdCheckB K C CS)) := by
  refine DefAtX.ok Df sc_standing_text (fun ds q e h => by obtain ⟨_, _, _, _, rfl, _⟩ := h; rfl) (fun f cdv A outer s H E hr => ?_)
  have passX := passC (P := P) (w := w) (K := K) (mg := mg) (base := base) (N := N_standing_text) (qual := "standing_text") (scope := defScope s_standing_text) (f := f) (cd := cdv) (A := A) (outer := outer) (s := s) (H := H) (E := E)
  refine ⟨_, _, (pss_cons (ps_expr (pe_def D_check_standing hr (by decide) passX (pa_cons (pv 0) (pa_cons (pv 1) pa_nil))))
    (pss_one (ps_ret (pe_jn K pe_str (pe_lc (own := [("load", 2)]) (g := gName 2) (tt := tYes) rfl sc_standing_text.nd (pi_seq K (pv 1)) (blkOk_by (N := N_standing_text) (sc := defScope s_standing_text) (by decide +kernel)) (fun _ _ _ _ _ => (pg_name (i := 2) sc_standing_text.nd rfl (Or.inl rfl))) (fun _ _ _ _ _ => pts_nil) (fun _ _ _ _ _ => (pe_def D_load_text hr (by decide) passE (pa_cons (pv 2) pa_nil)))))))), (ss_seq (ss_exp (si_def (si_cons si_var (si_cons si_var si_nil))))
    (ss_ret (si_jn si_str (si_lc (si_seq si_var) sg_name si_yes (si_def (si_cons si_var si_nil)) (by decide))))), fun ds q e h => ?_⟩
  obtain ⟨ds, es, m, d, rfl, g, hc, hs, h⟩ := h
  exact ⟨_, rfl, _, rfl, ds, es, m, d, rfl, g, hc, hs, h⟩
end
end K39
set_option Elab.async false
set_option linter.all false
set_option maxRecDepth 100000
set_option maxHeartbeats 4000000
namespace K39
open PySem PySem.Spec PyProof.Rows L2 Com Sd StV Gn Ext Dt
section
variable {P : Program} {w : World} {K : PySem.W.Frag} {mg : Str → Option Value} {base : Heap} {C CS CB fS fB : Addr}
theorem OkT.cut {n : Nat} {z : Str} {lo hi : Option Int} (h : OkT n z) : OkT n (cutS z lo hi) := ⟨Nat.le_trans (cutS_length z lo hi) h.1, fun c hc => by
  have hc : c ∈ (((z.cps.toList.drop (HT.sIx z.length 0 lo)).take (HT.sIx z.length z.length hi - HT.sIx z.length 0 lo)).toArray).toList := hc
  rw [List.toList_toArray] at hc
  exact h.2 c (List.mem_of_mem_drop (List.mem_of_mem_take hc))⟩
theorem chr_ok {c : Nat} (h : c < 128) : OkT 1 (⟨#[c]⟩ : Str) := ⟨Nat.le_refl _, fun x hx => by
  have e : x = c := by simpa using hx
  omega⟩
theorem go_chr {z : Str} {i : Int} {q : KD} (h0 : 0 ≤ i) (h1 : i < z.length) (hz : z.length ≤ 1000) (hc : ∀ c ∈ z.cps.toList, c < 128) (h : ∀ c, c < 128 → q (.str ⟨#[c]⟩)) : fIxS (.str z) (.int i) q := by
  obtain ⟨n, rfl⟩ := Int.eq_ofNat_of_zero_le h0
  have hl : z.length = z.cps.toList.length := by simp [Str.length]
  have e : z.cps.toList[n]? = some z.cps.toList[n] := List.getElem?_eq_getElem (by omega)
  exact ⟨z, _, _, rfl, rfl, Nat.le_trans hz (by decide), atI_of e, h _ (hc _ (List.mem_of_getElem? e))⟩
abbrev s_sign : Stmt := top 51
abbrev N_sign : List Str := ["_law_flow_here", "_law_near", "_law_signs"]
theorem sc_sign : FnScope N_sign ["_law_flow_here", "_law_near"] (defScope s_sign) := ⟨rfl, rfl, rfl, by decide +kernel, rfl, by decide +kernel, by decide +kernel⟩
def sdSign : SpD := fun xs q _ => ∃ a z, xs = [.flow a, .str z] ∧ 1 ≤ z.length ∧ OkT 500 z ∧ ∀ c, c < 128 → q (.str ⟨#[c]⟩)
theorem ok_sign (T : Blt mg) (D_pick : DefOk P w K mg base CX0 1 "_law_pick" (spOf spPickD)) (Df : DefAt K mg "_law_sign" s_sign ["_law_flow_here", "_law_near"]) : DefOk P w K mg base CX0 2 "_law_sign" (spOf sdSign) := by
  refine DefAtD.ok Df sc_sign (fun ds q e h => by obtain ⟨_, _, rfl, _⟩ := h; rfl) (fun f cdv A outer s H E hr => ?_)
  have hu := hr.units
  refine ⟨_, _, (pss_cons (ps_set (i := 2) sc_sign.nd rfl (Or.inl rfl) pe_str)
    (pss_cons (ps_set (i := 2) sc_sign.nd rfl (Or.inl rfl) (pe_op op_plus (pv 2) pe_str))
    (pss_cons (ps_if (pt_cmpR (eqD K hu) (pe_def D_pick hr (by decide) passE (pa_cons (pv 0) (pa_cons pe_int pa_nil))) pe_int (nomark _))
      (pss_one (ps_ret (pe_ix ix_str (pv 1) (pe_def D_pick hr (by decide) passE (pa_cons (pv 0) (pa_cons (pe_callB cl_lenS (by rfl) T.z_len (by decide +kernel) (pa_cons (pv 1) pa_nil)) pa_nil))) (fun _ _ => rfl))))
      pss_nil)
    (pss_one (ps_ret (pe_ix ix_str (pv 2) (pe_def D_pick hr (by decide) passE (pa_cons (pv 0) (pa_cons (pe_callB cl_lenS (by rfl) T.z_len (by decide +kernel) (pa_cons (pv 2) pa_nil)) pa_nil))) (fun _ _ => rfl))))))), (ss_seq (ss_asg si_str sg_name)
    (ss_seq (ss_asg (si_op si_var si_str sr_plus) sg_name)
    (ss_seq (ss_if (si_test (si_op (si_def (si_cons si_var (si_cons si_int si_nil))) si_int sr_eq))
      (ss_ret (si_op si_var (si_def (si_cons si_var (si_cons (si_cb (si_cons si_var si_nil) sc_lenS) si_nil))) sr_ixS))
      ss_nx)
    (ss_ret (si_op si_var (si_def (si_cons si_var (si_cons (si_cb (si_cons si_var si_nil) sc_lenS) si_nil))) sr_ixS))))), fun ds q e h => ?_⟩
  obtain ⟨a, z, rfl, z1, hz, h⟩ := h
  have z2 := hz.1
  refine ⟨_, rfl, by decide +kernel, _, rfl, a, 2, rfl, by decide, by decide, fun b b0 b1 => go_eqI ⟨_, rfl, ?_⟩⟩
  by_cases c : b = 0
  · rw [decide_eq_true c]
    refine ifTT ⟨_, rfl, _, rfl, _, rfl, _, rfl, hz.sz (by decide), a, _, rfl, by omega, ?_, fun i i0 i1 => go_chr i0 i1 (by omega) hz.2 h⟩
    have : (z.length : Int) ≤ 500 := by omega
    exact Int.lt_of_le_of_lt this (by decide)
  · rw [decide_eq_false c]
    exact ifFF ⟨_, rfl, _, rfl, _, rfl, _, rfl, by decide +kernel, a, _, rfl, by decide +kernel, by decide +kernel, fun i i0 i1 => go_chr i0 i1 (by decide +kernel) (by decide +kernel) h⟩
abbrev s_changed : Stmt := top 52
abbrev N_changed : List Str := ["_law_flow_here", "_law_text_here", "_law_near", "_law_place", "_law_way", "_law_sign_here"]
theorem sc_changed : FnScope N_changed ["_law_flow_here", "_law_text_here", "_law_near"] (defScope s_changed) := ⟨rfl, rfl, rfl, by decide +kernel, rfl, by decide +kernel, by decide +kernel⟩
def sdChanged : SpD := fun xs q _ => ∃ a t z, xs = [.flow a, .str t, .str z] ∧ OkT 119 t ∧ 1 ≤ z.length ∧ OkT 500 z ∧ ∀ u, OkT 500 u → q (.str u)
theorem ok_changed (T : Blt mg) (D_pick : DefOk P w K mg base CX0 1 "_law_pick" (spOf spPickD)) (D_sign : DefOk P w K mg base CX0 2 "_law_sign" (spOf sdSign)) (Df : DefAt K mg "_law_changed" s_changed ["_law_flow_here", "_law_text_here", "_law_near"]) : DefOk P w K mg base CX0 3 "_law_changed" (spOf sdChanged) := by
  refine DefAtD.ok Df sc_changed (fun ds q e h => by obtain ⟨_, _, _, rfl, _⟩ := h; rfl) (fun f cdv A outer s H E hr => ?_)
  have hu := hr.units
  refine ⟨_, _, (pss_cons (ps_set (i := 3) sc_changed.nd rfl (Or.inl rfl) (pe_def D_pick hr (by decide) passE (pa_cons (pv 0) (pa_cons (pe_op op_plus (pe_callB cl_lenS (by rfl) T.z_len (by decide +kernel) (pa_cons (pv 1) pa_nil)) pe_int) pa_nil))))
    (pss_cons (ps_set (i := 4) sc_changed.nd rfl (Or.inl rfl) (pe_def D_pick hr (by decide) passE (pa_cons (pv 0) (pa_cons pe_int pa_nil))))
    (pss_cons (ps_set (i := 5) sc_changed.nd rfl (Or.inl rfl) (pe_def D_sign hr (by decide) passE (pa_cons (pv 0) (pa_cons (pv 2) pa_nil))))
    (pss_cons (ps_if (pt_cmpR (eqD K hu) (pv 4) pe_int (nomark _))
      (pss_one (ps_ret (pe_op op_plus (pe_slice sl_str (pv 1) po_none (po_some (pv 3))) (pe_slice sl_str (pv 1) (po_some (pe_op op_plus (pv 3) pe_int)) po_none))))
      pss_nil)
    (pss_cons (ps_if (pt_cmpR (eqD K hu) (pv 4) pe_int (nomark _))
      (pss_one (ps_ret (pe_op op_plus (pe_op op_plus (pe_slice sl_str (pv 1) po_none (po_some (pv 3))) (pv 5)) (pe_slice sl_str (pv 1) (po_some (pv 3)) po_none))))
      pss_nil)
    (pss_one (ps_ret (pe_op op_plus (pe_op op_plus (pe_slice sl_str (pv 1) po_none (po_some (pv 3))) (pv 5)) (pe_slice sl_str (pv 1) (po_some (pe_op op_plus (pv 3) pe_int)) po_none))))))))), (ss_seq (ss_asg (si_def (si_cons si_var (si_cons (si_op (si_cb (si_cons si_var si_nil) sc_lenS) si_int sr_plus) si_nil))) sg_name)
    (ss_seq (ss_asg (si_def (si_cons si_var (si_cons si_int si_nil))) sg_name)
    (ss_seq (ss_asg (si_def (si_cons si_var (si_cons si_var si_nil))) sg_name)
    (ss_seq (ss_if (si_test (si_op si_var si_int sr_eq))
      (ss_ret (si_op (si_sl si_var si_noP (si_part si_var) sl_S) (si_sl si_var (si_part (si_op si_var si_int sr_plus)) si_noP sl_S) sr_plus))
      ss_nx)
    (ss_seq (ss_if (si_test (si_op si_var si_int sr_eq))
      (ss_ret (si_op (si_op (si_sl si_var si_noP (si_part si_var) sl_S) si_var sr_plus) (si_sl si_var (si_part si_var) si_noP sl_S) sr_plus))
      ss_nx)
    (ss_ret (si_op (si_op (si_sl si_var si_noP (si_part si_var) sl_S) si_var sr_plus) (si_sl si_var (si_part (si_op si_var si_int sr_plus)) si_noP sl_S) sr_plus))))))), fun ds q e h => ?_⟩
  obtain ⟨a, t, z, rfl, ht, z1, hz, h⟩ := h
  have t2 := ht.1
  refine ⟨_, rfl, _, rfl, _, rfl, ht.sz (by decide), a, _, rfl, by omega, ?_, fun p p0 p1 => ?_⟩
  · have : (t.length : Int) + 1 ≤ 120 := by omega
    exact Int.lt_of_le_of_lt this (by decide)
  refine ⟨_, rfl, a, 4, rfl, by decide, by decide, fun wy y0 y1 => ?_⟩
  refine ⟨_, rfl, _, rfl, a, z, rfl, z1, hz, fun c hc => ?_⟩
  have k2 : ∀ lo hi, OkT 119 (cutS t lo hi) := fun lo hi => ht.cut
  have k1 := k2 none (some p)
  refine ⟨_, rfl, go_eqI ⟨_, rfl, ?_⟩⟩
  by_cases c0 : wy = 0
  · rw [decide_eq_true c0]
    exact ifTT ⟨_, rfl, _, rfl, _, rfl, _, rfl, ht.sz (by decide), _, rfl, _, rfl, _, rfl, _, rfl, ht.sz (by decide), by rw [← str_len]; exact (k1.app (k2 _ _)).sz (by decide), h _ ((k1.app (k2 _ _)).mono (by decide))⟩
  rw [decide_eq_false c0]
  refine ifFF ⟨_, rfl, go_eqI ⟨_, rfl, ?_⟩⟩
  have k3 := k1.app (chr_ok hc)
  by_cases c1 : wy = 1
  · rw [decide_eq_true c1]
    exact ifTT ⟨_, rfl, _, rfl, _, rfl, _, rfl, ht.sz (by decide), _, rfl, by rw [← str_len]; exact k3.sz (by decide), _, rfl, _, rfl, _, rfl, _, rfl, ht.sz (by decide), by rw [← str_len]; exact (k3.app (k2 _ _)).sz (by decide), h _ ((k3.app (k2 _ _)).mono (by decide))⟩
  rw [decide_eq_false c1]
  exact ifFF ⟨_, rfl, _, rfl, _, rfl, _, rfl, ht.sz (by decide), _, rfl, by rw [← str_len]; exact k3.sz (by decide), _, rfl, _, rfl, _, rfl, _, rfl, ht.sz (by decide), by rw [← str_len]; exact (k3.app (k2 _ _)).sz (by decide), h _ ((k3.app (k2 _ _)).mono (by decide))⟩
abbrev s_text : Stmt := top 53
abbrev N_text : List Str := ["_law_standing", "_law_parts", "_law_load", "_law_pair"]
theorem sc_text : FnScope N_text ["_law_standing"] (defScope s_text) := ⟨rfl, rfl, rfl, by decide +kernel, rfl, by decide +kernel, by decide +kernel⟩
def sdText : SpD := fun xs q _ => ∃ S, xs = [stD S] ∧ S.length ≤ 7 ∧ (∀ L ∈ S, L.length ≤ 4 ∧ ∀ p ∈ L, Sml p) ∧ q (.str (staT S))
theorem ok_ltext (T : Blt mg) (Df : DefAt K mg "_law_text" s_text ["_law_standing"]) : DefOk P w K mg base CX0 1 "_law_text" (spOf sdText) := by
  refine DefAtD.ok Df sc_text (fun ds q e h => by obtain ⟨_, rfl, _⟩ := h; rfl) (fun f cdv A outer s H E hr => ?_)
  have hu := hr.units
  refine ⟨_, _, (pss_cons (ps_set (i := 1) sc_text.nd rfl (Or.inl rfl) (pe_lst pa_nil))
    (pss_cons (ps_for PassesOwn.never rfl (pi_seq K (pv 0)) (pg_name (i := 2) sc_text.nd rfl (Or.inl rfl))
      (pss_one (ps_if (pt_cmpR (eqD K hu) (pv 2) (pe_tup pa_nil) (nomark _))
        (pss_one (ps_expr (pe_bm PySem.F.plainAttrs_list PySem.F.slot_list_append PySem.F.type_list_append mt_append (pv 1) (pa_cons pe_str pa_nil))))
        (pss_one (ps_expr (pe_bm PySem.F.plainAttrs_list PySem.F.slot_list_append PySem.F.type_list_append mt_append (pv 1) (pa_cons (pe_jn K pe_str (pe_lc (own := [("_law_pair", 3)]) (g := gName 3) (tt := tYes) rfl sc_text.nd (pi_seq K (pv 2)) (blkOk_by (N := N_text) (sc := defScope s_text) (by decide +kernel)) (fun _ _ _ _ _ => (pg_name (i := 3) sc_text.nd rfl (Or.inl rfl))) (fun _ _ _ _ _ => pts_nil) (fun _ _ _ _ _ => (pe_op op_plus (pe_op op_plus (pe_callTy cl_strI (by rfl) T.z_str (by decide +kernel) (pa_cons (pe_ix (ixU K) (pv 3) pe_int (fun _ _ => rfl)) pa_nil)) pe_str) (pe_callTy cl_strI (by rfl) T.z_str (by decide +kernel) (pa_cons (pe_ix (ixU K) (pv 3) pe_int (fun _ _ => rfl)) pa_nil)))))) pa_nil)))))))
    (pss_one (ps_ret (pe_jn K pe_str (pv 1)))))), (ss_seq (ss_own (sn_lst si_nil))
    (ss_seq (ss_for (si_seq si_var) sg_name
      (ss_if (si_test (si_op si_var (si_tup si_nil) sr_eq))
        (ss_app si_str)
        (ss_app (si_jn si_str (si_lc (si_seq si_var) sg_name si_yes (si_op (si_op (si_cb (si_cons (si_op si_var si_int sr_ix) si_nil) sc_strI) si_str sr_plus) (si_cb (si_cons (si_op si_var si_int sr_ix) si_nil) sc_strI) sr_plus) (by decide))))))
    (ss_frz (i := 1) (ss_ret (si_jn si_str si_var))))), fun ds q e h => ?_⟩
  obtain ⟨S, rfl, s1, s3, h⟩ := h
  refine ⟨(by show 0 ≤ sizeLine; decide), _, rfl, _, .inl rfl, ?_⟩
  refine loop_inv (fun i ρ => ∃ w2, ρ = [some (.d (stD S)), some (.own (((S.take i).map loadT).map Dt.D.str)), w2, none]) _ 0 _ ⟨none, rfl⟩ ?_ ?_
  · rintro j x ρ N hj ⟨w2, rfl⟩ hN
    rw [Nat.zero_add] at hN ⊢
    rw [List.getElem?_map] at hj
    cases hL : S[j]? with
    | none => rw [hL] at hj; cases hj
    | some L =>
      rw [hL] at hj
      cases hj
      have hm := List.mem_of_getElem? hL
      have hj' := (List.getElem?_eq_some_iff.mp hL).1
      obtain ⟨l4, lp⟩ := s3 L hm
      have e1 : ((S.take (j + 1)).map loadT).map Dt.D.str = ((S.take j).map loadT).map Dt.D.str ++ [.str (loadT L)] := by
        rw [List.take_add_one, hL]
        simp
      have hsz : (((S.take j).map loadT).map Dt.D.str).length < sizeLine := by
        rw [List.length_map, List.length_map, List.length_take]
        exact szl (by omega)
      refine ⟨_, rfl, (by show 0 ≤ sizeLine; decide), Et.EqE.eq (a := L) (b := []) Et.EqE.ld (by decide) ⟨_, rfl, ?_⟩⟩
      by_cases c : L = []
      · rw [decide_eq_true c]
        refine ifTT ⟨_, rfl, hsz, hN _ ⟨some (.d (ldD L)), ?_⟩⟩
        rw [e1]
        unfold loadT
        rw [if_pos c]
        rfl
      · rw [decide_eq_false c]
        refine ifFF ⟨_, rfl, _, rfl, _, rfl, _, .inl rfl, ?_⟩
        refine lcL_map (fun d => match d with | .tup [.int i, .int j] => .str (pairT (i, j)) | _ => .non) _ [] (by rw [List.length_map]; show 0 + _ ≤ _; omega) (fun d hd Q hQ => ?_) ?_
        · obtain ⟨p, hp1, rfl⟩ := List.mem_map.mp hd
          have hp := lp p hp1
          have l1 := str_dig hp.1 (by have := hp.2.1; omega)
          have l2 := str_dig hp.2.2.1 (by have := hp.2.2.2; omega)
          have n1 := (dig_facts p.1.toNat (by have := hp.1; have := hp.2.1; omega)).2.2.1
          have n2 := (dig_facts p.2.toNat (by have := hp.2.2.1; have := hp.2.2.2; omega)).2.2.1
          have b1 : ("-" : Str).length = 1 := by decide
          exact ⟨_, rfl, go_p0 ⟨_, rfl, log_small hp.1 (by have := hp.2.1; omega), by rw [l1, n1, b1]; decide, _, rfl, go_p1 ⟨_, rfl, log_small hp.2.2.1 (by have := hp.2.2.2; omega), by rw [str_len, l1, l2, n1, n2, b1]; decide, hQ⟩⟩⟩
        · have e2 : (L.map Dt.pairD).map (fun d => match d with | Dt.D.tup [.int i, .int j] => .str (pairT (i, j)) | _ => .non) = (L.map pairT).map Dt.D.str := by rw [List.map_map, List.map_map]; rfl
          rw [List.nil_append, e2]
          refine go_join (k := 3) (one_ok comma_s (by decide)) (by decide) (by rw [List.length_map]; omega) (fun t ht => ?_) ⟨hsz, hN _ ⟨some (.d (ldD L)), ?_⟩⟩
          · obtain ⟨p, hp1, rfl⟩ := List.mem_map.mp ht
            exact pair_ok (lp p hp1)
          · rw [e1]
            unfold loadT
            rw [if_neg c]
            rfl
  · rintro ρ ⟨w2, rfl⟩
    rw [Nat.zero_add, List.length_map, List.take_length]
    refine ⟨_, rfl, _, rfl, _, rfl, ?_⟩
    refine go_join (k := 16) (one_ok slash_s (by decide)) (by decide) (by rw [List.length_map]; omega) (fun t ht => ?_) h
    obtain ⟨L, hL, rfl⟩ := List.mem_map.mp ht
    exact load_ok (s3 L hL).1 (s3 L hL).2
/-! ### reading as the law does -/
theorem pairL_len {t : Str} (h : ¬ t.length = 3) : pairL t = none := by
  unfold pairL
  split
  · rename_i a b q
    exact absurd (by rw [TL.len_tl]; show t.cps.toList.length = 3; rw [q]; rfl) h
  · rfl
theorem pairL_three {t : Str} {a b c : Nat} (e : t.cps.toList = [a, b, c]) : pairL t = if b = 45 ∧ (48 ≤ a ∧ a < 52) ∧ (48 ≤ c ∧ c < 52) then some (((a - 48 : Nat) : Int), ((c - 48 : Nat) : Int)) else none := by
  unfold pairL
  rw [e]
  by_cases hb : b = 45
  · subst hb
    show (if 48 ≤ a ∧ a < 52 ∧ 48 ≤ c ∧ c < 52 then some (((a - 48 : Nat) : Int), ((c - 48 : Nat) : Int)) else none) = _
    by_cases h : 48 ≤ a ∧ a < 52 ∧ 48 ≤ c ∧ c < 52
    · rw [if_pos h, if_pos (by omega)]
    · rw [if_neg h, if_neg (by omega)]
  · rw [if_neg (by omega)]
    split
    · rename_i a' b' q
      injection q with _ q
      injection q with q _
      exact absurd q hb
    · rfl
theorem four_tl : ("0123" : Str).cps.toList = [48, 49, 50, 51] := by decide +kernel
theorem in_four {c : Nat} : c ∈ ("0123" : Str).cps.toList ↔ 48 ≤ c ∧ c < 52 := by
  rw [four_tl]
  constructor
  · intro h
    have h : c = 48 ∨ c = 49 ∨ c = 50 ∨ c = 51 := by simpa using h
    omega
  · intro h
    have : c = 48 ∨ c = 49 ∨ c = 50 ∨ c = 51 := by omega
    simpa using this
theorem chr_dash {b : Nat} : ((⟨#[b]⟩ : Str) = "-") ↔ b = 45 := by
  constructor
  · intro h
    have := congrArg TL.tl h
    rw [dash_s.1] at this
    injection this
  · intro h
    subst h
    exact TL.ext_tl dash_s.1.symm
theorem chr_int {a : Nat} (h : 48 ≤ a ∧ a < 52) : PySem.intText? (⟨#[a]⟩ : Str) = some ((a - 48 : Nat) : Int) := by
  have e := (dig_facts (a - 48) (by omega)).2.2.2.1
  unfold digT at e
  rw [show 48 + (a - 48) = a by omega] at e
  exact e
abbrev s_load_of : Stmt := top 54
abbrev N_load_of : List Str := ["_law_text_here", "_law_pairs", "_law_part"]
theorem sc_load_of : FnScope N_load_of ["_law_text_here"] (defScope s_load_of) := ⟨rfl, rfl, rfl, by decide +kernel, rfl, by decide +kernel, by decide +kernel⟩
def sdLoadOf : SpD := fun xs q _ => ∃ t, xs = [.str t] ∧ OkT 500 t ∧ q (lLD t)
theorem ok_load_of (T : Blt mg) (Df : DefAt K mg "_law_load_of" s_load_of ["_law_text_here"]) : DefOk P w K mg base CX0 1 "_law_load_of" (spOf sdLoadOf) := by
  refine DefAtD.ok Df sc_load_of (fun ds q e h => by obtain ⟨_, rfl, _⟩ := h; rfl) (fun f cdv A outer s H E hr => ?_)
  have hu := hr.units
  refine ⟨_, _, (pss_cons (ps_set (i := 1) sc_load_of.nd rfl (Or.inl rfl) (pe_lst pa_nil))
    (pss_cons (ps_if (pt_cmpR (eqD K hu) (pv 0) pe_str (nomark _))
      (pss_one (ps_ret (pe_tup pa_nil)))
      pss_nil)
    (pss_cons (ps_for PassesOwn.never rfl (pi_seq K (pe_spl (pv 0) pe_str)) (pg_name (i := 2) sc_load_of.nd rfl (Or.inl rfl))
      (pss_cons (ps_if (PW.pt (pw_or (pt_cmpR (neD K hu) (pe_callB cl_lenS (by rfl) T.z_len (by decide +kernel) (pa_cons (pv 2) pa_nil)) pe_int (nomark _)) (pw_or (pt_cmpR (neD K hu) (pe_ix ix_str (pv 2) pe_int (fun _ _ => rfl)) pe_str (nomark _)) (pw_or (pt_cmpR op_notInS (pe_ix ix_str (pv 2) pe_int (fun _ _ => rfl)) pe_str rfl) (pw_or1 (pt_cmpR op_notInS (pe_ix ix_str (pv 2) pe_int (fun _ _ => rfl)) pe_str rfl))))))
        (pss_one (ps_ret pe_non))
        pss_nil)
      (pss_one (ps_expr (pe_bm PySem.F.plainAttrs_list PySem.F.slot_list_append PySem.F.type_list_append mt_append (pv 1) (pa_cons (pe_tup (pa_cons (pe_callTy cl_intS (by rfl) T.z_int (by decide +kernel) (pa_cons (pe_ix ix_str (pv 2) pe_int (fun _ _ => rfl)) pa_nil)) (pa_cons (pe_callTy cl_intS (by rfl) T.z_int (by decide +kernel) (pa_cons (pe_ix ix_str (pv 2) pe_int (fun _ _ => rfl)) pa_nil)) pa_nil))) pa_nil))))))
    (pss_one (ps_ret (pe_callTy (cl_tuple K) (by rfl) T.z_tuple (by decide +kernel) (pa_cons (pv 1) pa_nil))))))), (ss_seq (ss_own (sn_lst si_nil))
    (ss_seq (ss_if (si_test (si_op si_var si_str sr_eq))
      (ss_ret (si_tup si_nil))
      ss_nx)
    (ss_seq (ss_for (si_seq (si_spl si_var si_str)) sg_name
      (ss_seq (ss_if (si_or (si_test (si_op (si_cb (si_cons si_var si_nil) sc_lenS) si_int sr_ne)) (si_or (si_test (si_op (si_op si_var si_int sr_ixS) si_str sr_ne)) (si_or (si_test (si_op (si_op si_var si_int sr_ixS) si_str sr_notInS)) (si_test (si_op (si_op si_var si_int sr_ixS) si_str sr_notInS)))))
        (ss_ret si_non)
        ss_nx)
      (ss_app (si_tup (si_cons (si_cb (si_cons (si_op si_var si_int sr_ixS) si_nil) sc_intS) (si_cons (si_cb (si_cons (si_op si_var si_int sr_ixS) si_nil) sc_intS) si_nil))))))
    (ss_frz (i := 1) (ss_ret (si_cb (si_cons si_var si_nil) sc_tuple)))))), fun ds q e h => ?_⟩
  obtain ⟨t, rfl, ht, h⟩ := h
  obtain ⟨sp, sn⟩ := split_ok comma_s.ne comma_s.2 ht
  have hsz : (Txt.split t ",").length ≤ 501 := split_len comma_s.ne comma_s.2 ht
  unfold lLD loadL at h
  refine ⟨(by show 0 ≤ sizeLine; decide), _, rfl, go_eqT ht lit_ok.1 ⟨_, rfl, ?_⟩⟩
  by_cases c : t = "."
  · rw [decide_eq_true c]
    rw [if_pos c] at h
    exact ifTT ⟨(by show 0 ≤ sizeLine; decide), h⟩
  rw [decide_eq_false c]
  rw [if_neg c] at h
  refine ifFF ⟨_, rfl, t, rfl, _, rfl, by decide +kernel, Nat.le_trans (Nat.add_le_add_right ht.1 2) (by decide), _, .inr rfl, ?_⟩
  refine loop_inv (fun i ρ => ∃ w2 M, ρ = [some (.d (.str t)), some (.own (M.map Dt.pairD)), w2] ∧ M.length = i ∧ pairsL (Txt.split t ",") = (pairsL ((Txt.split t ",").drop i)).map (M ++ ·)) _ 0 _ ⟨none, [], rfl, rfl, by rw [List.drop_zero]; cases pairsL (Txt.split t ",") <;> rfl⟩ ?_ ?_
  · rintro k x ρ N hk ⟨w2, M, rfl, hl, hn⟩ hN
    rw [Nat.zero_add] at hl hn hN
    rw [List.getElem?_map] at hk
    cases hp : (Txt.split t ",")[k]? with
    | none => rw [hp] at hk; cases hk
    | some p =>
      rw [hp] at hk
      cases hk
      have hkl := (List.getElem?_eq_some_iff.mp hp).1
      have hpm := sp p (List.mem_of_getElem? hp)
      rw [List.drop_eq_getElem_cons hkl, (List.getElem?_eq_some_iff.mp hp).2, pairsL] at hn
      have hno : pairL p = none → q .non := fun e => by
        rw [e] at hn
        have hn : pairsL (Txt.split t ",") = none := hn
        rw [hn] at h
        exact h
      have hz : p.length ≤ 1000 := Nat.le_trans hpm.1 (by decide)
      refine ⟨_, rfl, _, rfl, hpm.sz (by decide), go_neI ⟨_, rfl, ?_⟩⟩
      by_cases c3 : p.length = 3
      · rw [decide_eq_true (show ((p.length : Nat) : Int) = 3 by omega)]
        obtain ⟨a, b, d, e3⟩ : ∃ a b d, p.cps.toList = [a, b, d] := by
          have e : p.cps.toList.length = 3 := by rw [← c3, TL.len_tl]
          match hh : p.cps.toList, e with
          | [a, b, d], _ => exact ⟨a, b, d, rfl⟩
        have hpl := pairL_three e3
        have cb : b < 128 := hpm.2 b (by rw [e3]; simp)
        refine ifFF ⟨_, rfl, go_sign (i := 1) (c := b) hz (by rw [e3]; rfl) (go_neT ((chr_ok cb).mono (by decide)) lit_ok.2.1 ⟨_, rfl, ?_⟩)⟩
        by_cases cd : b = 45
        · rw [decide_eq_true (chr_dash.mpr cd)]
          refine ifFF ⟨_, rfl, go_sign (i := 0) (c := a) hz (by rw [e3]; rfl) ⟨a, _, rfl, rfl, _, rfl, ?_⟩⟩
          by_cases ca : 48 ≤ a ∧ a < 52
          · rw [decide_eq_true (in_four.mpr ca)]
            refine ifFF ⟨_, rfl, go_sign (i := 2) (c := d) hz (by rw [e3]; rfl) ⟨d, _, rfl, rfl, _, rfl, ?_⟩⟩
            by_cases ce : 48 ≤ d ∧ d < 52
            · rw [decide_eq_true (in_four.mpr ce)]
              rw [if_pos ⟨cd, ca, ce⟩] at hpl
              refine ifFF ⟨_, rfl, _, rfl, go_sign (i := 0) (c := a) hz (by rw [e3]; rfl) ⟨_, _, rfl, chr_int ca, by show 1 ≤ 640; decide, _, rfl, go_sign (i := 2) (c := d) hz (by rw [e3]; rfl) ⟨_, _, rfl, chr_int ce, by show 1 ≤ 640; decide, (by show 2 ≤ sizeLine; decide), by rw [List.length_map]; exact szl (by omega), hN _ ⟨some (.d (.str p)), M ++ [(((a - 48 : Nat) : Int), ((d - 48 : Nat) : Int))], ?_, ?_, ?_⟩⟩⟩⟩
              · rw [List.map_append]
                rfl
              · rw [List.length_append, hl]
                rfl
              · rw [hn, hpl]
                cases pairsL ((Txt.split t ",").drop (k + 1)) with
                | none => rfl
                | some l =>
                  show some (M ++ _ :: l) = some ((M ++ [_]) ++ l)
                  rw [List.append_assoc]
                  rfl
            · rw [decide_eq_false (fun z => ce (in_four.mp z))]
              rw [if_neg (by omega)] at hpl
              exact ifTT (hno hpl)
          · rw [decide_eq_false (fun z => ca (in_four.mp z))]
            rw [if_neg (by omega)] at hpl
            exact ifTT (ifTT (hno hpl))
        · rw [decide_eq_false (fun z => cd (chr_dash.mp z))]
          rw [if_neg (by omega)] at hpl
          exact ifTT (ifTT (hno hpl))
      · rw [decide_eq_false (show ¬ ((p.length : Nat) : Int) = 3 by omega)]
        exact ifTT (ifTT (hno (pairL_len c3)))
  · rintro ρ ⟨w2, M, rfl, hl, hn⟩
    rw [Nat.zero_add, List.length_map] at hl hn
    rw [List.drop_length] at hn
    have hn : pairsL (Txt.split t ",") = some (M ++ []) := hn
    rw [List.append_nil] at hn
    rw [hn] at h
    exact ⟨_, rfl, _, rfl, _, .inr rfl, h⟩
theorem cls_lLD (t : Str) : clsA K (lLD t) := by
  unfold lLD
  cases loadL t with
  | none => simp [clsA]
  | some L => exact cls_ld
theorem cls_sLD (t : Str) : clsA K (sLD t) := clsA.tup.mpr fun d hd => by
  obtain ⟨x, _, rfl⟩ := List.mem_map.mp hd
  exact cls_lLD x
abbrev s_due : Stmt := top 55
abbrev N_due : List Str := ["_law_exchange_here", "_law_text_here", "_law_loads_here", "_law_part"]
theorem sc_due : FnScope N_due ["_law_exchange_here", "_law_text_here"] (defScope s_due) := ⟨rfl, rfl, rfl, by decide +kernel, rfl, by decide +kernel, by decide +kernel⟩
def sdDue (C : Addr) : SpD := fun xs q _ => ∃ ds es m t, xs = [exD C ds es m, .str t] ∧ GE ds es m ∧ OkT 500 t ∧ (staOf ds es m (sD t) = none → q (.tup [.str "bad", .str t])) ∧ ∀ S, staOf ds es m (sD t) = some S → q (.tup [.str "told", stD S])
theorem ok_due (T : Blt mg) (D_load_of : DefOk P w K mg base CX0 1 "_law_load_of" (spOf sdLoadOf)) (D_lis_standing : DefOk P w K mg base CX0 4 "_law_is_standing" (spOf (sdIsSta K C))) (Df : DefAt K mg "_law_due" s_due ["_law_exchange_here", "_law_text_here"]) : DefOk P w K mg base CX0 5 "_law_due" (spOf (sdDue C)) := by
  refine DefAtD.ok Df sc_due (fun ds q e h => by obtain ⟨_, _, _, _, rfl, _⟩ := h; rfl) (fun f cdv A outer s H E hr => ?_)
  have hu := hr.units
  refine ⟨_, _, (pss_cons (ps_set (i := 2) sc_due.nd rfl (Or.inl rfl) (pe_callTy (cl_tuple K) (by rfl) T.z_tuple (by decide +kernel) (pa_cons (pe_lc (own := [("_law_part", 3)]) (g := gName 3) (tt := tYes) rfl sc_due.nd (pi_seq K (pe_spl (pv 1) pe_str)) (blkOk_by (N := N_due) (sc := defScope s_due) (by decide +kernel)) (fun _ _ _ _ _ => (pg_name (i := 3) sc_due.nd rfl (Or.inl rfl))) (fun _ _ _ _ _ => pts_nil) (fun _ _ _ _ _ => (pe_def D_load_of hr (by decide) passE (pa_cons (pv 3) pa_nil)))) pa_nil)))
    (pss_cons (ps_if (pt_val (pe_def D_lis_standing hr (by decide) passE (pa_cons (pv 0) (pa_cons (pv 2) pa_nil))))
      (pss_one (ps_ret (pe_tup (pa_cons pe_str (pa_cons (pv 2) pa_nil)))))
      pss_nil)
    (pss_one (ps_ret (pe_tup (pa_cons pe_str (pa_cons (pv 1) pa_nil))))))), (ss_seq (ss_asg (si_cb (si_cons (si_lc (si_seq (si_spl si_var si_str)) sg_name si_yes (si_def (si_cons si_var si_nil)) (by decide)) si_nil) sc_tuple) sg_name)
    (ss_seq (ss_if (si_B (si_def (si_cons si_var (si_cons si_var si_nil))))
      (ss_ret (si_tup (si_cons si_str (si_cons si_var si_nil))))
      ss_nx)
    (ss_ret (si_tup (si_cons si_str (si_cons si_var si_nil)))))), fun ds q e h => ?_⟩
  obtain ⟨ds, es, m, t, rfl, g, ht, h0, h1⟩ := h
  have d1 := g.gi.1
  have d2 := g.gi.2.1
  have e1 := g.go.1
  have e2 := g.go.2.1
  have m2 := g.m2
  obtain ⟨sp, sn⟩ := split_ok slash_s.ne slash_s.2 ht
  have hsz : (Txt.split t "/").length ≤ 501 := split_len slash_s.ne slash_s.2 ht
  refine ⟨_, rfl, t, rfl, _, rfl, by decide +kernel, Nat.le_trans (Nat.add_le_add_right ht.1 2) (by decide), _, .inr rfl, ?_⟩
  refine lcL_map (fun d => match d with | .str x => lLD x | _ => .non) _ [] (by rw [List.length_map]; show 0 + _ ≤ _; omega) (fun d hd Q hQ => ?_) ?_
  · obtain ⟨p, hp, rfl⟩ := List.mem_map.mp hd
    exact ⟨_, rfl, p, rfl, sp p hp, hQ⟩
  rw [List.nil_append, List.map_map]
  refine ⟨_, .inr rfl, ?_⟩
  refine ⟨_, rfl, _, rfl, ds, es, m, sLD t, rfl, by omega, by omega, by omega, by omega, by omega, cls_sLD t, ?_⟩
  unfold isStaD
  rw [← sta_eq]
  cases q1 : staOf ds es m (sD t) with
  | none => exact ⟨_, rfl, ifFF ⟨_, rfl, (by show 2 ≤ sizeLine; decide), h0 q1⟩⟩
  | some S =>
    refine ⟨_, rfl, ifTT ⟨_, rfl, (by show 2 ≤ sizeLine; decide), ?_⟩⟩
    have := h1 S q1
    have e3 : staOf ds es m (sLD t) = some S := by rw [← sta_eq]; exact q1
    rw [← (staOf_some e3).1] at this
    exact this
end
end K39
set_option Elab.async false
set_option linter.all false
set_option maxRecDepth 100000
set_option maxHeartbeats 4000000
namespace K39
open PySem PySem.Spec PyProof.Rows L2 Com Sd StV Gn Ext Dt
section
variable {te : WX → TE} {tb : WX → TS} {mb ms : MS} {ts : TS}
theorem one_exm {K : PySem.W.Frag} {CB : Addr} {f : Str} {t : Option Str} (h : PySem.W.exmOne K (.ref CB) (.ref CB) = some true) : ExmT K ([(⟨CB, f, t⟩ : ClD)].map ClD.C) := fun i j C1 C2 h1 h2 => by
  have l1 := (List.getElem?_eq_some_iff.mp h1).1
  have l2 := (List.getElem?_eq_some_iff.mp h2).1
  have e1 : i = 0 := by simpa using l1
  have e2 : j = 0 := by simpa using l2
  subst e1 e2
  cases h1
  cases h2
  exact h
end
section
variable {P : Program} {w : World} {K : PySem.W.Frag} {mg : Str → Option Value} {base : Heap} {C CS CB fS fB : Addr}
abbrev s_read : Stmt := top 56
abbrev N_read : List Str := ["_law_exchange_here", "_law_text_here", "_law_answer", "e"]
theorem sc_read : FnScope N_read ["_law_exchange_here", "_law_text_here"] (defScope s_read) := ⟨rfl, rfl, rfl, by decide +kernel, rfl, by decide +kernel, by decide +kernel⟩
def sdLRead (K : PySem.W.Frag) (C : Addr) : SpD := fun xs q _ => ∃ ds es m d, xs = [exD C ds es m, d] ∧ GE ds es m ∧ ((∃ t, d = .str t ∧ OkT 500 t ∧ (staOf ds es m (sD t) = none → q (.tup [.str "bad", .str t])) ∧ ∀ S, staOf ds es m (sD t) = some S → q (.tup [.str "told", stD S])) ∨ (oddD K (er1 d) ∧ q (.tup [.str "bad", d])))
theorem ok_lread (T : Blt mg) (TB : PySem.Exo_thing.Txt P K mg "BadText" CB fB) (D_read_standing : DefOk P w K mg base (L2.CX P w) 6 "read_standing" (spOf (sdReadS K C CB))) (Df : DefAt K mg "_law_read" s_read ["_law_exchange_here", "_law_text_here"]) : DefOk P w K mg base CX0 8 "_law_read" (spOf (sdLRead K C)) := by
  refine DefAtD.ok Df sc_read (fun ds q e h => by obtain ⟨_, _, _, _, rfl, _⟩ := h; rfl) (fun f cdv A outer s H E hr => ?_)
  have hE : ExmT K ([⟨CB, "thing", some "bad"⟩].map ClD.C) := one_exm TB.te
  refine ⟨_, _, (pss_cons (ps_set (i := 2) sc_read.nd rfl (Or.inl rfl) pe_non)
    (pss_cons (ps_tryAs (tb := fun W => tAsg (tTup (tCons (tC (.str "told")) (tCons (tDefS (spOf (sdReadS K C CB)) (WE W) (tCons (tVar 0) (tCons (tVar 1) tNil))) tNil))) (gName 2)) (l := [ClD.cl 3 2 ⟨CB, "thing", some "bad"⟩]) sc_read.nd takes0
      (fun W pn xe tk _ => pss_one (ps_set (i := 2) sc_read.nd rfl (Or.inl rfl) (by exact (pe_tup (pa_cons pe_str (pa_cons (pe_defS D_read_standing hr (by decide) (fun σ => passAt tk σ) (by exact (pa_cons (pv 0) (pa_cons (pv 1) pa_nil)))) pa_nil))))))
      (HdsAs.cons rfl rfl ⟨rfl, by decide, .inl TB.gC⟩ (fun a oe cls d pn hz hf => pss_one (ps_set (i := 2) sc_read.nd rfl (Or.inl rfl) (by exact (pe_tup (pa_cons pe_str (pa_cons (pe_xf (Com_thing.xf_of TB) TB.noN hz hf (pv 3)) pa_nil)))))) .nil))
    (pss_one (ps_ret (pv 2))))),
    (ss_seq (ss_asg si_non sg_name) (ss_seq (ss_try [⟨CB, "thing", some "bad"⟩] (sb_asg (sew_told (sew_def fun E => si_cons si_var (si_cons si_var si_nil)))) hE) (ss_ret si_var))), fun ds q e h => ?_⟩
  obtain ⟨ds, es, m, d, rfl, g, h⟩ := h
  refine ⟨(by show 3 < 4; decide), _, rfl, _, rfl, ds, es, m, d, rfl, g, ?_⟩
  rcases h with ⟨t, rfl, ht, h1, h2⟩ | ⟨ho, h⟩
  · exact .inl ⟨t, rfl, ht, fun hn => ⟨0, _, rfl, rfl, rfl, _, rfl, h1 hn⟩, fun S hS => ⟨_, rfl, h2 S hS⟩⟩
  · exact .inr ⟨ho, 0, _, rfl, rfl, rfl, _, rfl, h⟩
abbrev s_refused : Stmt := top 57
abbrev N_refused : List Str := ["_law_exchange_here", "_law_thing", "_law_answer", "e"]
theorem sc_refused : FnScope N_refused ["_law_exchange_here", "_law_thing"] (defScope s_refused) := ⟨rfl, rfl, rfl, by decide +kernel, rfl, by decide +kernel, by decide +kernel⟩
def sdRef (K : PySem.W.Frag) (C : Addr) : SpD := fun xs q _ => ∃ ds es m d, xs = [exD C ds es m, d] ∧ GE ds es m ∧ clsA K (er1 d) ∧ isStaD ds es m (er1 d) = false ∧ q (.tup [.str "standing", d])
theorem ok_refused (T : Blt mg) (TS : PySem.Exo_thing.Txt P K mg "NoStanding" CS fS) (D_standing_text : DefOk P w K mg base (L2.CX P w) 7 "standing_text" (spOf (sdCheckB K C CS))) (Df : DefAt K mg "_law_refused" s_refused ["_law_exchange_here", "_law_thing"]) : DefOk P w K mg base CX0 9 "_law_refused" (spOf (sdRef K C)) := by
  refine DefAtD.ok Df sc_refused (fun ds q e h => by obtain ⟨_, _, _, _, rfl, _⟩ := h; rfl) (fun f cdv A outer s H E hr => ?_)
  have hE : ExmT K ([⟨CS, "thing", some "standing"⟩].map ClD.C) := one_exm TS.te
  refine ⟨_, _, (pss_cons (ps_set (i := 2) sc_refused.nd rfl (Or.inl rfl) pe_non)
    (pss_cons (ps_tryAs (tb := fun W => tDrop (tDefS (spOf (sdCheckB K C CS)) (WE W) (tCons (tVar 0) (tCons (tVar 1) tNil)))) (l := [ClD.cl 3 2 ⟨CS, "thing", some "standing"⟩]) sc_refused.nd takes0
      (fun W pn xe tk _ => pss_one (ps_expr (by exact (pe_defS D_standing_text hr (by decide) (fun σ => passAt tk σ) (by exact (pa_cons (pv 0) (pa_cons (pv 1) pa_nil)))))))
      (HdsAs.cons rfl rfl ⟨rfl, by decide, .inl TS.gC⟩ (fun a oe cls d pn hz hf => pss_one (ps_set (i := 2) sc_refused.nd rfl (Or.inl rfl) (by exact (pe_tup (pa_cons pe_str (pa_cons (pe_xf (Com_thing.xf_of TS) TS.noN hz hf (pv 3)) pa_nil)))))) .nil))
    (pss_one (ps_ret (pv 2))))),
    (ss_seq (ss_asg si_non sg_name) (ss_seq (ss_try [⟨CS, "thing", some "standing"⟩] (sb_exp (sew_def fun E => si_cons si_var (si_cons si_var si_nil))) hE) (ss_ret si_var))), fun ds q e h => ?_⟩
  obtain ⟨ds, es, m, d, rfl, g, hc, hs, h⟩ := h
  exact ⟨(by show 3 < 4; decide), _, rfl, _, rfl, ds, es, m, d, rfl, g, hc, hs, 0, _, rfl, rfl, rfl, _, rfl, h⟩
end
end K39
set_option Elab.async false
set_option linter.all false
set_option maxRecDepth 100000
set_option maxHeartbeats 4000000
namespace K39
open PySem PySem.Spec PyProof.Rows L2 Com Sd StV Gn Ext Dt
/-- data that are equal to themselves -/
def EqS (d : Dt.D) : Prop := ∃ p, toPy d = some p ∧ PyData.canLay0 p = true ∧ PyData.depth p ≤ 60 ∧ PyData.eqv p p = true
theorem EqS.str {n : Nat} {t : Str} (h : OkT n t) : EqS (.str t) := ⟨.str t, rfl, txt_lay h, by show 0 ≤ 60; decide, by rw [eqv_str]; simp⟩
theorem EqS.st {S : List (List PP)} : EqS (stD S) := by
  obtain ⟨py, h1, h2, h3⟩ := Et.EqE.st.ex
  exact ⟨py S, h1 S, (h2 S).1, Nat.le_trans (h2 S).2 (by decide), by rw [h3]; simp⟩
theorem go_neS {n : Nat} {s : Str} {d : Dt.D} {q : KD} (hs : OkT n s) (h : EqS d) (hq : q (.bl false)) : fEq true (.tup [.str s, d]) (.tup [.str s, d]) q := by
  obtain ⟨p, h1, h2, h3, h4⟩ := h
  have e1 : toPy (.tup [.str s, d]) = some (.tuple [.str s, p]) := by
    rw [toPy, toPyA, toPyA, h1]
    rfl
  have e2 : SeqAt.shaped (.tuple [.str s, p]) = true := by
    refine Et.shaped_of ?_ ?_
    · rw [PyData.canLay0, PyData.canLayAll0, PyData.canLayAll0, PyData.canLayAll0, txt_lay hs, h2]
      rfl
    · rw [PyData.depth, PyData.depthAll, PyData.depthAll, PyData.depthAll]
      have : PyData.depth (.str s) = 0 := rfl
      omega
  refine ⟨_, _, e1, e1, e2, e2, ?_⟩
  have e3 : PyData.eqv (.tuple [.str s, p]) (.tuple [.str s, p]) = true := by
    rw [PyData.eqv, PyData.eqvAll, PyData.eqvAll, PyData.eqvAll, eqv_str, h4]
    simp
  show q (.bl (!PyData.eqv (.tuple [.str s, p]) (.tuple [.str s, p])))
  rw [e3]
  exact hq
/-- one of a list -/
theorem go_one {xs : List Dt.D} {i : Int} {q : KD} (Pr : Dt.D → Prop) (h0 : 0 ≤ i) (h1 : i < xs.length) (hc : ∀ d ∈ xs, Pr d) (h : ∀ d, Pr d → q d) : fIx (.lst xs) (.int i) q := by
  obtain ⟨n, rfl⟩ := Int.eq_ofNat_of_zero_le h0
  have e : xs[n]? = some xs[n] := List.getElem?_eq_getElem (by omega)
  exact go_ixL e (h _ (hc _ (List.mem_of_getElem? e)))
section
variable {P : Program} {w : World} {K : PySem.W.Frag} {mg : Str → Option Value} {base : Heap} {C C2 : Addr}
abbrev s_law : Stmt := top 58
abbrev N_law : List Str := ["_law_script", "_law_exchange_here", "_law_at", "_law_flow_here", "_law_standing", "_law_text_here", "_law_turn", "_law_changed_here", "_law_one", "_law_odd", "_law_thing", "_law_none"]
theorem sc_law : FnScope N_law ["_law_script"] (defScope s_law) := ⟨rfl, rfl, rfl, by decide +kernel, rfl, by decide +kernel, by decide +kernel⟩
def sdLaw (K : PySem.W.Frag) : SpD := fun xs q _ => ∃ ns : List Int, xs = [.scr K ns] ∧ ns.length ≤ 63 ∧ q (.bl true)
theorem ok_law_fn (T : Blt mg) (X : ExC K mg C) (TC : ClsT K C2) (D_flow : DefOk P w K mg base CX0 1 "_law_flow" (spOf (spFlowD K))) (D_pick : DefOk P w K mg base CX0 1 "_law_pick" (spOf spPickD)) (D_exchange : DefOk P w K mg base CX0 6 "_law_exchange" (spOf (sdExch C)))
    (D_loads : DefOk P w K mg base CX0 2 "_law_loads" (spOf sdLoads)) (D_text : DefOk P w K mg base CX0 1 "_law_text" (spOf sdText)) (KW_standing_text : KwD P w K mg base CX0 7 "standing_text" 1 ["standing"] app (spOf (sdTextG C)))
    (D_read : DefOk P w K mg base CX0 8 "_law_read" (spOf (sdLRead K C))) (D_changed : DefOk P w K mg base CX0 3 "_law_changed" (spOf sdChanged)) (D_due : DefOk P w K mg base CX0 5 "_law_due" (spOf (sdDue C))) (D_refused : DefOk P w K mg base CX0 9 "_law_refused" (spOf (sdRef K C)))
    (M_Share : NewOk P w K mg base CX0 2 "Share" C2 (spSh1 C2))
    {f : Addr} {fd : FuncData} (FF : Fun K "law" "law" s_law f fd) : FnOk P w K mg base CX0 10 f fd ["_law_script"] (spOf (sdLaw K)) := by
  refine FunD.ok FF sc_law (fun ds q e h => by obtain ⟨_, rfl, _⟩ := h; rfl) (fun cdv A outer s H E hr => ?_)
  have hu := hr.units
  refine ⟨_, _, (pss_cons (ps_set (i := 1) sc_law.nd rfl (Or.inl rfl) (pe_def D_exchange hr (by decide) passE (pa_cons (pe_def D_flow hr (by decide) passE (pa_cons (pv 0) (pa_cons pe_int pa_nil))) (pa_cons pe_int (pa_cons pe_int (pa_cons pe_int pa_nil))))))
    (pss_cons (ps_for PassesOwn.never rfl (pi_range2 (by rfl) T.z_range (pa_cons pe_int (pa_cons (pe_callB (call_max2 rfl) (by rfl) T.z_max (by decide +kernel) (pa_cons pe_int (pa_cons (pe_callB (call_min2 rfl) (by rfl) T.z_min (by decide +kernel) (pa_cons (pe_callB (cl_len K) (by rfl) T.z_len (by decide +kernel) (pa_cons (pv 0) pa_nil)) (pa_cons pe_int pa_nil))) pa_nil))) pa_nil))) (pg_name (i := 2) sc_law.nd rfl (Or.inl rfl))
      (pss_cons (ps_set (i := 3) sc_law.nd rfl (Or.inl rfl) (pe_def D_flow hr (by decide) passE (pa_cons (pv 0) (pa_cons (pv 2) pa_nil))))
      (pss_cons (ps_set (i := 4) sc_law.nd rfl (Or.inl rfl) (pe_def D_loads hr (by decide) passE (pa_cons (pv 3) (pa_cons (pe_fldK K (pv 1)) (pa_cons (pe_fldK K (pv 1)) (pa_cons (pe_fldK K (pv 1)) (pa_cons (pe_def D_pick hr (by decide) passE (pa_cons (pv 3) (pa_cons pe_int pa_nil))) pa_nil)))))))
      (pss_cons (ps_set (i := 5) sc_law.nd rfl (Or.inl rfl) (pe_def D_text hr (by decide) passE (pa_cons (pv 4) pa_nil)))
      (pss_cons (ps_if (PW.pt (pw_or (pt_cmpR (neD K hu) (pe_kwD KW_standing_text hr (by decide) passE (pa_cons (pv 1) pa_nil) (pk_cons (pv 4) pk_nil)) (pv 5) (nomark _)) (pw_or1 (pt_cmpR (neD K hu) (pe_def D_read hr (by decide) passE (pa_cons (pv 1) (pa_cons (pv 5) pa_nil))) (pe_tup (pa_cons pe_str (pa_cons (pv 4) pa_nil))) (nomark _)))))
        (pss_one (ps_ret pe_bl))
        pss_nil)
      (pss_cons (ps_for PassesOwn.never rfl (pi_range1 (by rfl) T.z_range (pa_cons pe_int pa_nil)) (pg_name (i := 6) sc_law.nd rfl (Or.inl rfl))
        (pss_cons (ps_set (i := 7) sc_law.nd rfl (Or.inl rfl) (pe_def D_changed hr (by decide) passE (pa_cons (pv 3) (pa_cons (pv 5) (pa_cons pe_str pa_nil)))))
        (pss_one (ps_if (pt_cmpR (neD K hu) (pe_def D_read hr (by decide) passE (pa_cons (pv 1) (pa_cons (pv 7) pa_nil))) (pe_def D_due hr (by decide) passE (pa_cons (pv 1) (pa_cons (pv 7) pa_nil))) (nomark _))
          (pss_one (ps_ret pe_bl))
          pss_nil))))
      (pss_cons (ps_set (i := 8) sc_law.nd rfl (Or.inl rfl) (pe_ix (ixU K) (pe_lst (pa_cons (pe_op op_plus (pv 5) pe_str) (pa_cons (pe_op op_plus (pv 5) pe_str) (pa_cons (pe_op op_plus pe_str (pv 5)) (pa_cons pe_str (pa_cons (pe_op op_plus (pv 5) pe_str) (pa_cons (pe_slice sl_str (pv 5) po_none (po_some (pe_un un_neg pe_int))) (pa_cons (pe_op op_plus (pv 5) pe_str) pa_nil)))))))) (pe_def D_pick hr (by decide) passE (pa_cons (pv 3) (pa_cons pe_int pa_nil))) (fun _ _ => rfl)))
      (pss_cons (ps_if (pt_cmpR (neD K hu) (pe_def D_read hr (by decide) passE (pa_cons (pv 1) (pa_cons (pv 8) pa_nil))) (pe_def D_due hr (by decide) passE (pa_cons (pv 1) (pa_cons (pv 8) pa_nil))) (nomark _))
        (pss_one (ps_ret pe_bl))
        pss_nil)
      (pss_cons (ps_set (i := 9) sc_law.nd rfl (Or.inl rfl) (pe_lst (pa_cons pe_non (pa_cons pe_int (pa_cons pe_bl (pa_cons (pe_tup (pa_cons (pv 5) pa_nil)) (pa_cons (pv 4) (pa_cons pe_dnewK (pa_cons (pe_new M_Share hr (by decide) passE (pa_cons pe_int pa_nil)) (pa_cons (pv 1) pa_nil))))))))))
      (pss_cons (ps_set (i := 10) sc_law.nd rfl (Or.inl rfl) (pe_ix (ixU K) (pv 9) (pe_def D_pick hr (by decide) passE (pa_cons (pv 3) (pa_cons (pe_callB (cl_len K) (by rfl) T.z_len (by decide +kernel) (pa_cons (pv 9) pa_nil)) pa_nil))) (fun _ _ => rfl)))
      (pss_cons (ps_if (pt_cmpR (neO K hu) (pe_def D_read hr (by decide) passE (pa_cons (pv 1) (pa_cons (pv 10) pa_nil))) (pe_tup (pa_cons pe_str (pa_cons (pv 10) pa_nil))) (nomark _))
        (pss_one (ps_ret pe_bl))
        pss_nil)
      (pss_cons (ps_set (i := 11) sc_law.nd rfl (Or.inl rfl) (pe_ix (ixU K) (pe_lst (pa_cons (pe_callTy (cl_list K) (by rfl) T.z_list (by decide +kernel) (pa_cons (pv 4) pa_nil)) (pa_cons (pe_op op_plus (pv 4) (pe_tup (pa_cons (pe_tup pa_nil) pa_nil))) (pa_cons (pv 5) (pa_cons pe_non (pa_cons pe_int (pa_cons (pe_new M_Share hr (by decide) passE (pa_cons pe_int pa_nil)) pa_nil))))))) (pe_def D_pick hr (by decide) passE (pa_cons (pv 3) (pa_cons pe_int pa_nil))) (fun _ _ => rfl)))
      (pss_one (ps_if (pt_cmpR (neO K hu) (pe_def D_refused hr (by decide) passE (pa_cons (pv 1) (pa_cons (pv 11) pa_nil))) (pe_tup (pa_cons pe_str (pa_cons (pv 11) pa_nil))) (nomark _))
        (pss_one (ps_ret pe_bl))
        pss_nil))))))))))))))
    (pss_one (ps_ret pe_bl)))), (ss_seq (ss_asg (si_def (si_cons (si_def (si_cons si_var (si_cons si_int si_nil))) (si_cons si_int (si_cons si_int (si_cons si_int si_nil))))) sg_name)
    (ss_seq (ss_for (si_rng2 (si_cons si_int (si_cons (si_cb (si_cons si_int (si_cons (si_cb (si_cons (si_cb (si_cons si_var si_nil) sc_len) (si_cons si_int si_nil)) sc_min2) si_nil)) sc_max2) si_nil))) sg_name
      (ss_seq (ss_asg (si_def (si_cons si_var (si_cons si_var si_nil))) sg_name)
      (ss_seq (ss_asg (si_def (si_cons si_var (si_cons (si_fld X.t.cl X.nI si_var) (si_cons (si_fld X.t.cl X.nO si_var) (si_cons (si_fld X.t.cl X.nM si_var) (si_cons (si_def (si_cons si_var (si_cons si_int si_nil))) si_nil)))))) sg_name)
      (ss_seq (ss_asg (si_def (si_cons si_var si_nil)) sg_name)
      (ss_seq (ss_if (si_or (si_test (si_op (si_kwD (si_cons si_var si_nil) (si_cons si_var si_nil)) si_var sr_ne)) (si_test (si_op (si_def (si_cons si_var (si_cons si_var si_nil))) (si_tup (si_cons si_str (si_cons si_var si_nil))) sr_ne)))
        (ss_ret si_bl)
        ss_nx)
      (ss_seq (ss_for (si_rng1 (si_cons si_int si_nil)) sg_name
        (ss_seq (ss_asg (si_def (si_cons si_var (si_cons si_var (si_cons si_str si_nil)))) sg_name)
        (ss_if (si_test (si_op (si_def (si_cons si_var (si_cons si_var si_nil))) (si_def (si_cons si_var (si_cons si_var si_nil))) sr_ne))
          (ss_ret si_bl)
          ss_nx)))
      (ss_seq (ss_asg (si_op (si_lst (si_cons (si_op si_var si_str sr_plus) (si_cons (si_op si_var si_str sr_plus) (si_cons (si_op si_str si_var sr_plus) (si_cons si_str (si_cons (si_op si_var si_str sr_plus) (si_cons (si_sl si_var si_noP (si_part (si_un si_int su_neg)) sl_S) (si_cons (si_op si_var si_str sr_plus) si_nil)))))))) (si_def (si_cons si_var (si_cons si_int si_nil))) sr_ix) sg_name)
      (ss_seq (ss_if (si_test (si_op (si_def (si_cons si_var (si_cons si_var si_nil))) (si_def (si_cons si_var (si_cons si_var si_nil))) sr_ne))
        (ss_ret si_bl)
        ss_nx)
      (ss_seq (ss_asg (si_lst (si_cons si_non (si_cons si_int (si_cons si_bl (si_cons (si_tup (si_cons si_var si_nil)) (si_cons si_var (si_cons si_dict0 (si_cons (si_newSh (si_cons si_int si_nil)) (si_cons si_var si_nil))))))))) sg_name)
      (ss_seq (ss_asg (si_op si_var (si_def (si_cons si_var (si_cons (si_cb (si_cons si_var si_nil) sc_len) si_nil))) sr_ix) sg_name)
      (ss_vry (i := 10) (ss_seq (ss_if (si_test (si_op (si_def (si_cons si_var (si_cons si_var si_nil))) (si_tup (si_cons si_str (si_cons si_var si_nil))) sr_neV))
        (ss_ret si_bl)
        ss_nx)
      (ss_seq (ss_asg (si_op (si_lst (si_cons (si_cb (si_cons si_var si_nil) sc_list) (si_cons (si_op si_var (si_tup (si_cons (si_tup si_nil) si_nil)) sr_plus) (si_cons si_var (si_cons si_non (si_cons si_int (si_cons (si_newSh (si_cons si_int si_nil)) si_nil))))))) (si_def (si_cons si_var (si_cons si_int si_nil))) sr_ix) sg_name)
      (ss_vry (i := 11) (ss_if (si_test (si_op (si_def (si_cons si_var (si_cons si_var si_nil))) (si_tup (si_cons si_str (si_cons si_var si_nil))) sr_neV))
        (ss_ret si_bl)
        ss_nx)))))))))))))))
    (ss_ret si_bl))), fun ds q e h => ?_⟩
  obtain ⟨ns, rfl, n63, h⟩ := h
  refine ⟨_, rfl, ns, 0, rfl, n63, by decide, fun a => ⟨a, 4, 4, 7, rfl, by decide, by decide, by decide, fun ds es m g => ?_⟩⟩
  have m1 := g.m1
  have m2 := g.m2
  refine ⟨_, rfl, .inr ⟨ns, rfl, _, _, rfl, _, _, rfl, _, _, rfl, ?_, ?_⟩⟩
  · refine ⟨by decide, by decide, ?_, ?_⟩ <;> (repeat' split) <;> omega
  have hb : (if (if (30 : Int) < ((ns.length : Nat) : Int) then (30 : Int) else ((ns.length : Nat) : Int)) > 2 then (if (30 : Int) < ((ns.length : Nat) : Int) then (30 : Int) else ((ns.length : Nat) : Int)) else 2) - 1 ≤ 29 := by (repeat' split) <;> omega
  refine loop_inv (fun i ρ => ∃ w2 w3 w4 w5 w6 w7 w8 w9 w10 w11, ρ = [some (.d (.scr K ns)), some (.d (exD C ds es m)), w2, w3, w4, w5, w6, w7, w8, w9, w10, w11]) _ 0 _ ⟨none, none, none, none, none, none, none, none, none, none, rfl⟩ ?_ ?_
  · rintro j x ρ N hj ⟨w2, w3, w4, w5, w6, w7, w8, w9, w10, w11, rfl⟩ hN
    have hj' := (List.getElem?_eq_some_iff.mp hj).1
    rw [List.length_map, List.length_range] at hj'
    rw [List.getElem?_map, List.getElem?_range hj'] at hj
    cases hj
    have hj2 : j < 29 := by omega
    refine ⟨_, rfl, _, rfl, ns, 1 + j, by rw [show ((1 + j : Nat) : Int) = 1 + (j : Int) by omega], n63, by omega, fun a2 => ?_⟩
    refine ⟨_, rfl, _, rfl, _, _, _, rfl, rfl, _, rfl, _, _, _, rfl, rfl, _, rfl, _, _, _, rfl, rfl, _, rfl, a2, 41, rfl, by decide, by decide, fun many n0 n1 => ⟨a2, ds, es, m, many, rfl, g.gi, g.go, m1, m2, n0, by omega, fun S hS => ?_⟩⟩
    obtain ⟨s1, s2, s3⟩ := small_of g hS
    have ot := sta_ok s1 s3
    have e0 : staOf ds es m (sD (staT S)) = some S := by rw [sD_sta s2 fun L hL => (s3 L hL).2]; exact staOf_st hS
    refine ⟨_, rfl, S, rfl, s1, s3, ?_⟩
    refine ⟨_, rfl, _, rfl, ds, es, m, S, rfl, g, hS, _, rfl, go_neT ot ot ⟨_, rfl, ?_⟩⟩
    rw [decide_eq_true rfl]
    refine ifFF ⟨_, rfl, _, rfl, ds, es, m, _, rfl, g, .inl ⟨_, rfl, ot.mono (by decide), (fun z => by rw [e0] at z; cases z), fun S' hS' => ?_⟩⟩
    rw [e0] at hS'
    cases hS'
    refine ⟨_, rfl, (by show 2 ≤ sizeLine; decide), go_neS lit_ok.2.2.2.2.1 EqS.st ⟨_, rfl, ifFF ?_⟩⟩
    -- a text as it is told and as it is due
    have meet : ∀ (t : Str) (q r : KD), OkT 500 t → q (.bl false) → (∀ x, sdDue C [exD C ds es m, .str t] (fun y => fEq true x y q) e → r x) → sdLRead K C [exD C ds es m, .str t] r e := fun t q r ht hq hr => by
      refine ⟨ds, es, m, _, rfl, g, .inl ⟨t, rfl, ht, fun z => hr _ ⟨ds, es, m, t, rfl, g, ht, fun _ => go_neS lit_ok.2.2.2.2.2.1 (EqS.str ht) hq, fun S' hS' => by rw [z] at hS'; cases hS'⟩, fun S' hS' => hr _ ⟨ds, es, m, t, rfl, g, ht, (fun z => by rw [z] at hS'; cases hS'), fun S2 hS2 => ?_⟩⟩⟩
      rw [hS'] at hS2
      cases hS2
      exact go_neS lit_ok.2.2.2.2.1 EqS.st hq
    refine ⟨_, rfl, by decide, by decide, ?_⟩
    refine loop_inv (fun i ρ => ∃ w6 w7, ρ = [some (.d (.scr K ns)), some (.d (exD C ds es m)), some (.d (.int (1 + (j : Int)))), some (.d (.flow a2)), some (.d (stD S)), some (.d (.str (staT S))), w6, w7, w8, w9, w10, w11]) _ 0 _ ⟨w6, w7, rfl⟩ ?_ ?_
    · rintro i x ρ N2 _ ⟨w6, w7, rfl⟩ hN2
      refine ⟨_, rfl, _, rfl, a2, staT S, "0123,-/.", rfl, ot, by decide +kernel, ⟨by decide +kernel, by decide +kernel⟩, fun u hu => ?_⟩
      exact ⟨_, rfl, _, rfl, meet u _ _ hu ⟨_, rfl, ifFF (hN2 _ ⟨some (.d x), some (.d (.str u)), rfl⟩)⟩ fun x hx => ⟨_, rfl, _, rfl, hx⟩⟩
    · rintro ρ ⟨w6, w7, rfl⟩
      have k1 : ∀ (c : Str), OkT 10 c → OkT 500 (staT S ++ c) ∧ (staT S).length + c.length ≤ sizeLine := fun c hc => ⟨(ot.app hc).mono (by decide), by rw [← str_len]; exact (ot.app hc).sz (by decide)⟩
      have k2 : OkT 500 ((" " : Str) ++ staT S) ∧ (" " : Str).length + (staT S).length ≤ sizeLine := by
        have : OkT 1 (" " : Str) := ⟨by decide, by decide +kernel⟩
        exact ⟨(this.app ot).mono (by decide), by rw [← str_len]; exact (this.app ot).sz (by decide)⟩
      have c1 : OkT 10 ("\n" : Str) := ⟨by decide, by decide +kernel⟩
      have c2 : OkT 10 ("/." : Str) := ⟨by decide, by decide +kernel⟩
      have c3 : OkT 10 ("," : Str) := ⟨by decide, by decide +kernel⟩
      have c4 : OkT 10 ("/" : Str) := ⟨by decide, by decide +kernel⟩
      refine ⟨_, rfl, (k1 _ c1).2, _, rfl, (k1 _ c2).2, _, rfl, k2.2, _, rfl, (k1 _ c3).2, _, rfl, _, rfl, _, rfl, ot.sz (by decide), _, rfl, (k1 _ c4).2, (by show 7 ≤ sizeLine; decide), ?_⟩
      refine ⟨_, rfl, a2, 7, rfl, by decide, by decide, fun i i0 i1 => go_one (fun d => ∃ t, d = .str t ∧ OkT 500 t) i0 i1 ?_ ?_⟩
      · intro d hd
        rcases List.mem_cons.mp hd with rfl | hd
        · exact ⟨_, rfl, (k1 _ c1).1⟩
        rcases List.mem_cons.mp hd with rfl | hd
        · exact ⟨_, rfl, (k1 _ c2).1⟩
        rcases List.mem_cons.mp hd with rfl | hd
        · exact ⟨_, rfl, k2.1⟩
        rcases List.mem_cons.mp hd with rfl | hd
        · exact ⟨_, rfl, by decide, by decide +kernel⟩
        rcases List.mem_cons.mp hd with rfl | hd
        · exact ⟨_, rfl, (k1 _ c3).1⟩
        rcases List.mem_cons.mp hd with rfl | hd
        · exact ⟨_, rfl, (ot.cut).mono (by decide)⟩
        rcases List.mem_cons.mp hd with rfl | hd
        · exact ⟨_, rfl, (k1 _ c4).1⟩
        cases hd
      rintro _ ⟨t1, rfl, ht1⟩
      refine ⟨_, rfl, _, rfl, meet t1 _ _ ht1 ⟨_, rfl, ifFF ?_⟩ fun x hx => ⟨_, rfl, _, rfl, hx⟩⟩
      refine ⟨_, rfl, (by show 1 ≤ sizeLine; decide), _, rfl, 1, rfl, fun sn sd => ⟨_, rfl, (by show 8 ≤ sizeLine; decide), ?_⟩⟩
      refine ⟨_, rfl, _, rfl, _, rfl, go_lenL ⟨a2, _, rfl, by show (1 : Int) ≤ 8; decide, by show (8 : Int) < _; decide, fun i i0 i1 => go_one (oddD K) i0 i1 ?_ fun d hd => ?_⟩⟩
      · intro d hd
        have hd : d = .non ∨ d = .int 0 ∨ d = .bl true ∨ d = .tup [.str (staT S)] ∨ d = stD S ∨ d = .dict0 ∨ d = .obj C2 ["top", "bottom"] [.int sn, .int sd] ∨ d = exD C ds es m := by simpa using hd
        rcases hd with rfl | rfl | rfl | rfl | rfl | rfl | rfl | rfl
        · exact ⟨trivial, rfl⟩
        · exact ⟨trivial, rfl⟩
        · exact ⟨trivial, rfl⟩
        · exact ⟨trivial, rfl⟩
        · exact ⟨trivial, rfl⟩
        · exact ⟨trivial, rfl⟩
        · exact ⟨TC, rfl⟩
        · exact ⟨X.t, rfl⟩
      refine ⟨_, rfl, fun v => ?_⟩
      refine ⟨_, rfl, _, rfl, ds, es, m, .vry v d, rfl, g, .inr ⟨hd, _, rfl, (by show 2 ≤ sizeLine; decide), .inr ⟨_, _, _, rfl, rfl, _, rfl, ifFF ?_⟩⟩⟩
      refine ⟨_, rfl, _, .inl rfl, _, rfl, (by show 0 ≤ sizeLine; decide), (by show 1 ≤ sizeLine; decide), ?_⟩
      have lS : (S.map ldD).length = S.length := List.length_map ..
      refine ⟨by rw [lS]; show _ + 1 ≤ 1000; omega, _, rfl, 1, rfl, fun sn2 sd2 => ⟨(by show 6 ≤ sizeLine; decide), ?_⟩⟩
      refine ⟨_, rfl, a2, 6, rfl, by decide, by decide, fun k k0 k1 => go_one (fun d => clsA K d ∧ isStaD ds es m d = false) k0 k1 ?_ fun d2 hd2 => ?_⟩
      · intro d hd
        have hd : d = .lst (S.map ldD) ∨ d = .tup (S.map ldD ++ [.tup []]) ∨ d = .str (staT S) ∨ d = .non ∨ d = .int 0 ∨ d = .obj C2 ["top", "bottom"] [.int sn2, .int sd2] := by simpa using hd
        have cS : ∀ x ∈ S.map ldD, clsA K x := fun x hx => by
          obtain ⟨p, _, rfl⟩ := List.mem_map.mp hx
          exact cls_ld
        rcases hd with rfl | rfl | rfl | rfl | rfl | rfl
        · exact ⟨clsA.lst.mpr cS, rfl⟩
        · refine ⟨clsA.tup.mpr fun x hx => ?_, ?_⟩
          · rcases List.mem_append.mp hx with hx | hx
            · exact cS x hx
            · rw [List.mem_singleton.mp hx]
              exact clsA.tup.mpr fun _ h => nomatch h
          · have := hS.len
            rw [isStaD_tup, decide_eq_false (by rw [List.length_append, lS]; show ¬ (((S.length + 1 : Nat)) : Int) = m; omega)]
            rfl
        · exact ⟨by simp [clsA], rfl⟩
        · exact ⟨by simp [clsA], rfl⟩
        · exact ⟨by simp [clsA], rfl⟩
        · exact ⟨by rw [clsA]; exact TC, rfl⟩
      refine ⟨_, rfl, fun v2 => ?_⟩
      exact ⟨_, rfl, _, rfl, ds, es, m, .vry v2 d2, rfl, g, hd2.1, hd2.2, _, rfl, (by show 2 ≤ sizeLine; decide), .inr ⟨_, _, _, rfl, rfl, _, rfl, ifFF (hN _ ⟨_, _, _, _, _, _, _, _, _, _, rfl⟩)⟩⟩
  · rintro ρ ⟨w2, w3, w4, w5, w6, w7, w8, w9, w10, w11, rfl⟩
    exact h
end
end K39
set_option Elab.async false
set_option linter.all false
set_option maxRecDepth 100000
set_option maxHeartbeats 4000000
namespace K39
open PySem PySem.Spec PyProof.Rows L2 Com Sd StV Gn Ext Dt
abbrev s_NoStanding___init : Stmt := inClass (top 6) 0
abbrev s_BadText___init : Stmt := inClass (top 7) 0
/-- an error of the class at S is what «except S» names -/
theorem exm_self {K : PySem.W.Frag} {S : Addr} (h1 : PySem.W.subIn K (.ref S) (.type "BaseException") = some true) (h2 : PySem.W.isClsIn K S = true) (h3 : PySem.W.typeIn K (.ref S) = some (.type "type")) (h4 : PySem.W.subIn K (.ref S) (.ref S) = some true) : PySem.W.exmOne K (.ref S) (.ref S) = some true := by
  have e1 : (PySem.W.subIn K (.ref S) (.type "BaseException") == some true) = true := by rw [h1] <;> rfl
  have e2 : ((PySem.W.clsIn K S).isSome && PySem.W.typeIn K (.ref S) == some (.type "type")) = true := by
    have h2' : (PySem.W.clsIn K S).isSome = true := h2
    rw [h2', h3] <;> rfl
  show (if (PySem.W.subIn K (.ref S) (.type "BaseException") == some true) = true then (if ((PySem.W.clsIn K S).isSome && PySem.W.typeIn K (.ref S) == some (.type "type")) = true then PySem.W.subIn K (.ref S) (.ref S) else none) else none) = some true
  rw [if_pos e1, if_pos e2]
  exact h4

theorem law_d {K : PySem.W.Frag} {vs : List V} {H : Hp} {Q : VK} {E : XK} (h : spLaw K vs H Q E) : spOf (sdLaw K) vs H Q E := by
  obtain ⟨a, ns, rfl, hS, hl, q⟩ := h
  exact ⟨⟨H, fun _ => False⟩, [.scr K ns], fun d => d = .bl true, fun _ _ _ => False, ⟨fun _ _ e => e, fun _ h => h.elim⟩, .one (.scr fun H' e => sqlS hS e), ⟨ns, rfl, hl, rfl⟩, fun W' v d H' _ hv hd => by subst hd; cases hv; exact q H', fun _ _ _ _ _ _ _ _ _ _ h => h.elim⟩
theorem sh_newd {P : Program} {w : World} {K : PySem.W.Frag} {mg : Str → Option Value} {base : Heap} {C2 : Addr} {f : Addr} {fd : FuncData} {tk : Tok} (G : FnOk P w K mg base CX0 2 f fd ["self", "top", "bottom"] (K39o.Shr.spInit C2)) (b : Binds K fd ["self", "top", "bottom"] [.int 1 tk]) (mk : Mk K C2 f) (hm : mg "Share" = some (.ref C2)) : NewOk P w K mg base CX0 2 "Share" C2 (spSh1 C2) :=
  ⟨⟨f, (G.raw (dvs := [.int 1]) b (.cons ⟨tk, rfl⟩ .nil)).imp fun vs H Q E ⟨p, dx, i, e, hp, q⟩ => ⟨p, dx, i, 1, by rw [e]; rfl, hp, by decide, B.of (k := 1) (by decide) (Nat.one_lt_two_pow (by decide)), fun H' ⟨dx', e'⟩ old => q H' dx' _ _ e' old⟩, mk⟩, hm⟩
theorem kN_of {K : PySem.W.Frag} {C : Addr} (h1 : PySem.W.subIn K (.ref C) (.type "int") = some false) (h2 : PySem.W.subIn K (.ref C) (.type "bool") = some false) (h3 : PySem.W.subIn K (.ref C) (.type "tuple") = some false) (h4 : PySem.W.subIn K (.ref C) (.type "list") = some false) (h5 : PySem.W.subIn K (.ref C) (.type "str") = some false) (h6 : PySem.W.subIn K (.ref C) (.type "dict") = some false) :
    ∀ n ∈ (["int", "bool", "tuple", "list", "str", "dict"] : List String), PySem.W.kitOne K (.ref C) (.type n) = some false := fun n hn => by
  have h : n = "int" ∨ n = "bool" ∨ n = "tuple" ∨ n = "list" ∨ n = "str" ∨ n = "dict" := by simpa using hn
  rcases h with rfl | rfl | rfl | rfl | rfl | rfl
  · exact kit_type (by decide +kernel) h1 rfl
  · exact kit_type (by decide +kernel) h2 rfl
  · exact kit_type (by decide +kernel) h3 rfl
  · exact kit_type (by decide +kernel) h4 rfl
  · exact kit_type (by decide +kernel) h5 rfl
  · exact kit_type (by decide +kernel) h6 rfl
open K39o (s_is_side s_flow s_pick s_Exchange___init s_loads s_free)
/-! ### what the top has made; the end -/
theorem all_mk {P : Program} {w : World} {K : PySem.W.Frag} {h : Heap} {mg : Str → Option Value} {fa : Addr} (X : K.In h) (G : h.Ns mainGlobals mg) (hfa : mg "law" = some (.ref fa))
    {f_is_plain_int : Addr} {od_is_plain_int an_is_plain_int : Option Addr} {sl_is_plain_int : Array (Option Value)} {oc_is_plain_int kV_is_plain_int dc_is_plain_int pm_is_plain_int cd_is_plain_int ct_is_plain_int : Value}
    {f_is_int_within : Addr} {od_is_int_within an_is_int_within : Option Addr} {sl_is_int_within : Array (Option Value)} {oc_is_int_within kV_is_int_within dc_is_int_within pm_is_int_within cd_is_int_within ct_is_int_within : Value}
    {f_is_pair : Addr} {od_is_pair an_is_pair : Option Addr} {sl_is_pair : Array (Option Value)} {oc_is_pair kV_is_pair dc_is_pair pm_is_pair cd_is_pair ct_is_pair : Value}
    {f_is_load : Addr} {od_is_load an_is_load : Option Addr} {sl_is_load : Array (Option Value)} {oc_is_load kV_is_load dc_is_load pm_is_load cd_is_load ct_is_load : Value}
    {f_is_side : Addr} {od_is_side an_is_side : Option Addr} {sl_is_side : Array (Option Value)} {oc_is_side kV_is_side dc_is_side pm_is_side cd_is_side ct_is_side : Value}
    {f_doors_left : Addr} {od_doors_left an_doors_left : Option Addr} {sl_doors_left : Array (Option Value)} {oc_doors_left kV_doors_left dc_doors_left pm_doors_left cd_doors_left ct_doors_left : Value}
    {f_is_standing : Addr} {od_is_standing an_is_standing : Option Addr} {sl_is_standing : Array (Option Value)} {oc_is_standing kV_is_standing dc_is_standing pm_is_standing cd_is_standing ct_is_standing : Value}
    {f_check_standing : Addr} {od_check_standing an_check_standing : Option Addr} {sl_check_standing : Array (Option Value)} {oc_check_standing kV_check_standing dc_check_standing pm_check_standing cd_check_standing ct_check_standing : Value}
    {f_standing_text : Addr} {od_standing_text an_standing_text : Option Addr} {sl_standing_text : Array (Option Value)} {oc_standing_text kV_standing_text dc_standing_text pm_standing_text cd_standing_text ct_standing_text : Value}
    {f_load_text : Addr} {od_load_text an_load_text : Option Addr} {sl_load_text : Array (Option Value)} {oc_load_text kV_load_text dc_load_text pm_load_text cd_load_text ct_load_text : Value}
    {f_pair_text : Addr} {od_pair_text an_pair_text : Option Addr} {sl_pair_text : Array (Option Value)} {oc_pair_text kV_pair_text dc_pair_text pm_pair_text cd_pair_text ct_pair_text : Value}
    {f_read_number : Addr} {od_read_number an_read_number : Option Addr} {sl_read_number : Array (Option Value)} {oc_read_number kV_read_number dc_read_number pm_read_number cd_read_number ct_read_number : Value}
    {f_read_standing : Addr} {od_read_standing an_read_standing : Option Addr} {sl_read_standing : Array (Option Value)} {oc_read_standing kV_read_standing dc_read_standing pm_read_standing cd_read_standing ct_read_standing : Value}
    {f_read_load : Addr} {od_read_load an_read_load : Option Addr} {sl_read_load : Array (Option Value)} {oc_read_load kV_read_load dc_read_load pm_read_load cd_read_load ct_read_load : Value}
    {f_read_pair : Addr} {od_read_pair an_read_pair : Option Addr} {sl_read_pair : Array (Option Value)} {oc_read_pair kV_read_pair dc_read_pair pm_read_pair cd_read_pair ct_read_pair : Value}
    {f_flow : Addr} {od_flow an_flow : Option Addr} {sl_flow : Array (Option Value)} {oc_flow kV_flow dc_flow pm_flow cd_flow ct_flow : Value}
    {f_pick : Addr} {od_pick an_pick : Option Addr} {sl_pick : Array (Option Value)} {oc_pick kV_pick dc_pick pm_pick cd_pick ct_pick : Value}
    {f_is_integer : Addr} {od_is_integer an_is_integer : Option Addr} {sl_is_integer : Array (Option Value)} {oc_is_integer kV_is_integer dc_is_integer pm_is_integer cd_is_integer ct_is_integer : Value}
    {f_doors : Addr} {od_doors an_doors : Option Addr} {sl_doors : Array (Option Value)} {oc_doors kV_doors dc_doors pm_doors cd_doors ct_doors : Value}
    {f_free : Addr} {od_free an_free : Option Addr} {sl_free : Array (Option Value)} {oc_free kV_free dc_free pm_free cd_free ct_free : Value}
    {f_loads : Addr} {od_loads an_loads : Option Addr} {sl_loads : Array (Option Value)} {oc_loads kV_loads dc_loads pm_loads cd_loads ct_loads : Value}
    {f_exchange : Addr} {od_exchange an_exchange : Option Addr} {sl_exchange : Array (Option Value)} {oc_exchange kV_exchange dc_exchange pm_exchange cd_exchange ct_exchange : Value}
    {f_lis_pair : Addr} {od_lis_pair an_lis_pair : Option Addr} {sl_lis_pair : Array (Option Value)} {oc_lis_pair kV_lis_pair dc_lis_pair pm_lis_pair cd_lis_pair ct_lis_pair : Value}
    {f_lis_load : Addr} {od_lis_load an_lis_load : Option Addr} {sl_lis_load : Array (Option Value)} {oc_lis_load kV_lis_load dc_lis_load pm_lis_load cd_lis_load ct_lis_load : Value}
    {f_lis_standing : Addr} {od_lis_standing an_lis_standing : Option Addr} {sl_lis_standing : Array (Option Value)} {oc_lis_standing kV_lis_standing dc_lis_standing pm_lis_standing cd_lis_standing ct_lis_standing : Value}
    {f_sign : Addr} {od_sign an_sign : Option Addr} {sl_sign : Array (Option Value)} {oc_sign kV_sign dc_sign pm_sign cd_sign ct_sign : Value}
    {f_changed : Addr} {od_changed an_changed : Option Addr} {sl_changed : Array (Option Value)} {oc_changed kV_changed dc_changed pm_changed cd_changed ct_changed : Value}
    {f_text : Addr} {od_text an_text : Option Addr} {sl_text : Array (Option Value)} {oc_text kV_text dc_text pm_text cd_text ct_text : Value}
    {f_load_of : Addr} {od_load_of an_load_of : Option Addr} {sl_load_of : Array (Option Value)} {oc_load_of kV_load_of dc_load_of pm_load_of cd_load_of ct_load_of : Value}
    {f_due : Addr} {od_due an_due : Option Addr} {sl_due : Array (Option Value)} {oc_due kV_due dc_due pm_due cd_due ct_due : Value}
    {f_read : Addr} {od_read an_read : Option Addr} {sl_read : Array (Option Value)} {oc_read kV_read dc_read pm_read cd_read ct_read : Value}
    {f_refused : Addr} {od_refused an_refused : Option Addr} {sl_refused : Array (Option Value)} {oc_refused kV_refused dc_refused pm_refused cd_refused ct_refused : Value}
    {f_law : Addr} {od_law an_law : Option Addr} {sl_law : Array (Option Value)} {oc_law kV_law dc_law pm_law cd_law ct_law : Value}
    {f_Exchange_init : Addr} {od_Exchange_init an_Exchange_init : Option Addr} {sl_Exchange_init : Array (Option Value)} {oc_Exchange_init kV_Exchange_init dc_Exchange_init pm_Exchange_init cd_Exchange_init ct_Exchange_init : Value}
    {C_Exchange : Addr}
    {C_Share : Addr}
    {C_BadText : Addr}
    {C_NoStanding : Addr}
    {f_i T_i : Addr} {od_i an_i odT : Option Addr} {sl_i slT : Array (Option Value)} {oc_i kV_i dc_i pm_i cd_i ct_i ocT : Value} {tk : Tok} {nTt : Nat}
    {eB_nm eB_q : Str} {eB_N eB_Ca : Addr} {eB_bs eB_sub : List Value} {eB_sn : List Str} {eB_ab : Bool} {eB_col : Option Bool} {eB_dd : Option Addr} {eB_0 eB_1 eB_2 eB_3 eB_5 : Option Value}
    {fB_E cdaB_E ccB_E : Addr} {odB_E anB_E cldB_E cddB_E : Option Addr} {slB_E cslB_E ccsB_E : Array (Option Value)} {ocB_E dcB_E pmB_E ctB_E clB_E cclB_E : Value} {vsB_E : Array Value} {fileB_E : Str} {tfB_E : Tok}
    {eS_nm eS_q : Str} {eS_N eS_Ca : Addr} {eS_bs eS_sub : List Value} {eS_sn : List Str} {eS_ab : Bool} {eS_col : Option Bool} {eS_dd : Option Addr} {eS_0 eS_1 eS_2 eS_3 eS_5 : Option Value}
    {fS_E cdaS_E ccS_E : Addr} {odS_E anS_E cldS_E cddS_E : Option Addr} {slS_E cslS_E ccsS_E : Array (Option Value)} {ocS_E dcS_E pmS_E ctS_E clS_E cclS_E : Value} {vsS_E : Array Value} {fileS_E : Str} {tfS_E : Tok}
    {f_parts : Addr} {od_parts an_parts : Option Addr} {sl_parts : Array (Option Value)} {oc_parts kV_parts dc_parts pm_parts cd_parts ct_parts : Value}
    {t_MOST_SWITCHES : Tok}
    {t_MOST_DOORS : Tok}
    {t_MOST_MIDDLES : Tok}
    (a_Exchange : PySem.W.nsIn K mainGlobals "Exchange" = some (some (.ref C_Exchange)))
    (a_Share : PySem.W.nsIn K mainGlobals "Share" = some (some (.ref C_Share)))
    (a_BadText : PySem.W.nsIn K mainGlobals "BadText" = some (some (.ref C_BadText)))
    (a_NoStanding : PySem.W.nsIn K mainGlobals "NoStanding" = some (some (.ref C_NoStanding)))
    (a_is_plain_int : PySem.W.nsIn K mainGlobals "is_plain_int" = some (some (.ref f_is_plain_int)))
    (l_is_plain_int : K.lookup f_is_plain_int = some ⟨oc_is_plain_int, od_is_plain_int, .func (PySem.W.fnOf "is_plain_int" "is_plain_int" (defArgs s_is_plain_int) (defBody s_is_plain_int) (defScope s_is_plain_int) .none kV_is_plain_int dc_is_plain_int pm_is_plain_int an_is_plain_int cd_is_plain_int ct_is_plain_int), sl_is_plain_int⟩)
    (c_is_plain_int : PySem.W.codeIn K cd_is_plain_int "is_plain_int" = true)
    (k_is_plain_int : PySem.W.keepIn K (.ref f_is_plain_int) = true)
    (a_is_int_within : PySem.W.nsIn K mainGlobals "is_int_within" = some (some (.ref f_is_int_within)))
    (l_is_int_within : K.lookup f_is_int_within = some ⟨oc_is_int_within, od_is_int_within, .func (PySem.W.fnOf "is_int_within" "is_int_within" (defArgs s_is_int_within) (defBody s_is_int_within) (defScope s_is_int_within) .none kV_is_int_within dc_is_int_within pm_is_int_within an_is_int_within cd_is_int_within ct_is_int_within), sl_is_int_within⟩)
    (c_is_int_within : PySem.W.codeIn K cd_is_int_within "is_int_within" = true)
    (k_is_int_within : PySem.W.keepIn K (.ref f_is_int_within) = true)
    (a_is_pair : PySem.W.nsIn K mainGlobals "is_pair" = some (some (.ref f_is_pair)))
    (l_is_pair : K.lookup f_is_pair = some ⟨oc_is_pair, od_is_pair, .func (PySem.W.fnOf "is_pair" "is_pair" (defArgs s_is_pair) (defBody s_is_pair) (defScope s_is_pair) .none kV_is_pair dc_is_pair pm_is_pair an_is_pair cd_is_pair ct_is_pair), sl_is_pair⟩)
    (c_is_pair : PySem.W.codeIn K cd_is_pair "is_pair" = true)
    (k_is_pair : PySem.W.keepIn K (.ref f_is_pair) = true)
    (a_is_load : PySem.W.nsIn K mainGlobals "is_load" = some (some (.ref f_is_load)))
    (l_is_load : K.lookup f_is_load = some ⟨oc_is_load, od_is_load, .func (PySem.W.fnOf "is_load" "is_load" (defArgs s_is_load) (defBody s_is_load) (defScope s_is_load) .none kV_is_load dc_is_load pm_is_load an_is_load cd_is_load ct_is_load), sl_is_load⟩)
    (c_is_load : PySem.W.codeIn K cd_is_load "is_load" = true)
    (k_is_load : PySem.W.keepIn K (.ref f_is_load) = true)
    (a_is_side : PySem.W.nsIn K mainGlobals "_is_side" = some (some (.ref f_is_side)))
    (l_is_side : K.lookup f_is_side = some ⟨oc_is_side, od_is_side, .func (PySem.W.fnOf "_is_side" "_is_side" (defArgs s_is_side) (defBody s_is_side) (defScope s_is_side) .none kV_is_side dc_is_side pm_is_side an_is_side cd_is_side ct_is_side), sl_is_side⟩)
    (c_is_side : PySem.W.codeIn K cd_is_side "_is_side" = true)
    (k_is_side : PySem.W.keepIn K (.ref f_is_side) = true)
    (a_doors_left : PySem.W.nsIn K mainGlobals "doors_left" = some (some (.ref f_doors_left)))
    (l_doors_left : K.lookup f_doors_left = some ⟨oc_doors_left, od_doors_left, .func (PySem.W.fnOf "doors_left" "doors_left" (defArgs s_doors_left) (defBody s_doors_left) (defScope s_doors_left) .none kV_doors_left dc_doors_left pm_doors_left an_doors_left cd_doors_left ct_doors_left), sl_doors_left⟩)
    (c_doors_left : PySem.W.codeIn K cd_doors_left "doors_left" = true)
    (k_doors_left : PySem.W.keepIn K (.ref f_doors_left) = true)
    (a_is_standing : PySem.W.nsIn K mainGlobals "is_standing" = some (some (.ref f_is_standing)))
    (l_is_standing : K.lookup f_is_standing = some ⟨oc_is_standing, od_is_standing, .func (PySem.W.fnOf "is_standing" "is_standing" (defArgs s_is_standing) (defBody s_is_standing) (defScope s_is_standing) .none kV_is_standing dc_is_standing pm_is_standing an_is_standing cd_is_standing ct_is_standing), sl_is_standing⟩)
    (c_is_standing : PySem.W.codeIn K cd_is_standing "is_standing" = true)
    (k_is_standing : PySem.W.keepIn K (.ref f_is_standing) = true)
    (a_check_standing : PySem.W.nsIn K mainGlobals "check_standing" = some (some (.ref f_check_standing)))
    (l_check_standing : K.lookup f_check_standing = some ⟨oc_check_standing, od_check_standing, .func (PySem.W.fnOf "check_standing" "check_standing" (defArgs s_check_standing) (defBody s_check_standing) (defScope s_check_standing) .none kV_check_standing dc_check_standing pm_check_standing an_check_standing cd_check_standing ct_check_standing), sl_check_standing⟩)
    (c_check_standing : PySem.W.codeIn K cd_check_standing "check_standing" = true)
    (k_check_standing : PySem.W.keepIn K (.ref f_check_standing) = true)
    (a_standing_text : PySem.W.nsIn K mainGlobals "standing_text" = some (some (.ref f_standing_text)))
    (l_standing_text : K.lookup f_standing_text = some ⟨oc_standing_text, od_standing_text, .func (PySem.W.fnOf "standing_text" "standing_text" (defArgs s_standing_text) (defBody s_standing_text) (defScope s_standing_text) .none kV_standing_text dc_standing_text pm_standing_text an_standing_text cd_standing_text ct_standing_text), sl_standing_text⟩)
    (c_standing_text : PySem.W.codeIn K cd_standing_text "standing_text" = true)
    (k_standing_text : PySem.W.keepIn K (.ref f_standing_text) = true)
    (a_load_text : PySem.W.nsIn K mainGlobals "_load_text" = some (some (.ref f_load_text)))
    (l_load_text : K.lookup f_load_text = some ⟨oc_load_text, od_load_text, .func (PySem.W.fnOf "_load_text" "_load_text" (defArgs s_load_text) (defBody s_load_text) (defScope s_load_text) .none kV_load_text dc_load_text pm_load_text an_load_text cd_load_text ct_load_text), sl_load_text⟩)
    (c_load_text : PySem.W.codeIn K cd_load_text "_load_text" = true)
    (k_load_text : PySem.W.keepIn K (.ref f_load_text) = true)
    (a_pair_text : PySem.W.nsIn K mainGlobals "_pair_text" = some (some (.ref f_pair_text)))
    (l_pair_text : K.lookup f_pair_text = some ⟨oc_pair_text, od_pair_text, .func (PySem.W.fnOf "_pair_text" "_pair_text" (defArgs s_pair_text) (defBody s_pair_text) (defScope s_pair_text) .none kV_pair_text dc_pair_text pm_pair_text an_pair_text cd_pair_text ct_pair_text), sl_pair_text⟩)
    (c_pair_text : PySem.W.codeIn K cd_pair_text "_pair_text" = true)
    (k_pair_text : PySem.W.keepIn K (.ref f_pair_text) = true)
    (a_read_number : PySem.W.nsIn K mainGlobals "_read_number" = some (some (.ref f_read_number)))
    (l_read_number : K.lookup f_read_number = some ⟨oc_read_number, od_read_number, .func (PySem.W.fnOf "_read_number" "_read_number" (defArgs s_read_number) (defBody s_read_number) (defScope s_read_number) .none kV_read_number dc_read_number pm_read_number an_read_number cd_read_number ct_read_number), sl_read_number⟩)
    (c_read_number : PySem.W.codeIn K cd_read_number "_read_number" = true)
    (k_read_number : PySem.W.keepIn K (.ref f_read_number) = true)
    (a_read_standing : PySem.W.nsIn K mainGlobals "read_standing" = some (some (.ref f_read_standing)))
    (l_read_standing : K.lookup f_read_standing = some ⟨oc_read_standing, od_read_standing, .func (PySem.W.fnOf "read_standing" "read_standing" (defArgs s_read_standing) (defBody s_read_standing) (defScope s_read_standing) .none kV_read_standing dc_read_standing pm_read_standing an_read_standing cd_read_standing ct_read_standing), sl_read_standing⟩)
    (c_read_standing : PySem.W.codeIn K cd_read_standing "read_standing" = true)
    (k_read_standing : PySem.W.keepIn K (.ref f_read_standing) = true)
    (a_read_load : PySem.W.nsIn K mainGlobals "_read_load" = some (some (.ref f_read_load)))
    (l_read_load : K.lookup f_read_load = some ⟨oc_read_load, od_read_load, .func (PySem.W.fnOf "_read_load" "_read_load" (defArgs s_read_load) (defBody s_read_load) (defScope s_read_load) .none kV_read_load dc_read_load pm_read_load an_read_load cd_read_load ct_read_load), sl_read_load⟩)
    (c_read_load : PySem.W.codeIn K cd_read_load "_read_load" = true)
    (k_read_load : PySem.W.keepIn K (.ref f_read_load) = true)
    (a_read_pair : PySem.W.nsIn K mainGlobals "_read_pair" = some (some (.ref f_read_pair)))
    (l_read_pair : K.lookup f_read_pair = some ⟨oc_read_pair, od_read_pair, .func (PySem.W.fnOf "_read_pair" "_read_pair" (defArgs s_read_pair) (defBody s_read_pair) (defScope s_read_pair) .none kV_read_pair dc_read_pair pm_read_pair an_read_pair cd_read_pair ct_read_pair), sl_read_pair⟩)
    (c_read_pair : PySem.W.codeIn K cd_read_pair "_read_pair" = true)
    (k_read_pair : PySem.W.keepIn K (.ref f_read_pair) = true)
    (a_flow : PySem.W.nsIn K mainGlobals "_law_flow" = some (some (.ref f_flow)))
    (l_flow : K.lookup f_flow = some ⟨oc_flow, od_flow, .func (PySem.W.fnOf "_law_flow" "_law_flow" (defArgs s_flow) (defBody s_flow) (defScope s_flow) .none kV_flow dc_flow pm_flow an_flow cd_flow ct_flow), sl_flow⟩)
    (c_flow : PySem.W.codeIn K cd_flow "_law_flow" = true)
    (k_flow : PySem.W.keepIn K (.ref f_flow) = true)
    (a_pick : PySem.W.nsIn K mainGlobals "_law_pick" = some (some (.ref f_pick)))
    (l_pick : K.lookup f_pick = some ⟨oc_pick, od_pick, .func (PySem.W.fnOf "_law_pick" "_law_pick" (defArgs s_pick) (defBody s_pick) (defScope s_pick) .none kV_pick dc_pick pm_pick an_pick cd_pick ct_pick), sl_pick⟩)
    (c_pick : PySem.W.codeIn K cd_pick "_law_pick" = true)
    (k_pick : PySem.W.keepIn K (.ref f_pick) = true)
    (a_is_integer : PySem.W.nsIn K mainGlobals "_law_is_integer" = some (some (.ref f_is_integer)))
    (l_is_integer : K.lookup f_is_integer = some ⟨oc_is_integer, od_is_integer, .func (PySem.W.fnOf "_law_is_integer" "_law_is_integer" (defArgs s_is_integer) (defBody s_is_integer) (defScope s_is_integer) .none kV_is_integer dc_is_integer pm_is_integer an_is_integer cd_is_integer ct_is_integer), sl_is_integer⟩)
    (c_is_integer : PySem.W.codeIn K cd_is_integer "_law_is_integer" = true)
    (k_is_integer : PySem.W.keepIn K (.ref f_is_integer) = true)
    (a_doors : PySem.W.nsIn K mainGlobals "_law_doors" = some (some (.ref f_doors)))
    (l_doors : K.lookup f_doors = some ⟨oc_doors, od_doors, .func (PySem.W.fnOf "_law_doors" "_law_doors" (defArgs s_doors) (defBody s_doors) (defScope s_doors) .none kV_doors dc_doors pm_doors an_doors cd_doors ct_doors), sl_doors⟩)
    (c_doors : PySem.W.codeIn K cd_doors "_law_doors" = true)
    (k_doors : PySem.W.keepIn K (.ref f_doors) = true)
    (a_free : PySem.W.nsIn K mainGlobals "_law_free" = some (some (.ref f_free)))
    (l_free : K.lookup f_free = some ⟨oc_free, od_free, .func (PySem.W.fnOf "_law_free" "_law_free" (defArgs s_free) (defBody s_free) (defScope s_free) .none kV_free dc_free pm_free an_free cd_free ct_free), sl_free⟩)
    (c_free : PySem.W.codeIn K cd_free "_law_free" = true)
    (k_free : PySem.W.keepIn K (.ref f_free) = true)
    (a_loads : PySem.W.nsIn K mainGlobals "_law_loads" = some (some (.ref f_loads)))
    (l_loads : K.lookup f_loads = some ⟨oc_loads, od_loads, .func (PySem.W.fnOf "_law_loads" "_law_loads" (defArgs s_loads) (defBody s_loads) (defScope s_loads) .none kV_loads dc_loads pm_loads an_loads cd_loads ct_loads), sl_loads⟩)
    (c_loads : PySem.W.codeIn K cd_loads "_law_loads" = true)
    (k_loads : PySem.W.keepIn K (.ref f_loads) = true)
    (a_exchange : PySem.W.nsIn K mainGlobals "_law_exchange" = some (some (.ref f_exchange)))
    (l_exchange : K.lookup f_exchange = some ⟨oc_exchange, od_exchange, .func (PySem.W.fnOf "_law_exchange" "_law_exchange" (defArgs s_exchange) (defBody s_exchange) (defScope s_exchange) .none kV_exchange dc_exchange pm_exchange an_exchange cd_exchange ct_exchange), sl_exchange⟩)
    (c_exchange : PySem.W.codeIn K cd_exchange "_law_exchange" = true)
    (k_exchange : PySem.W.keepIn K (.ref f_exchange) = true)
    (a_lis_pair : PySem.W.nsIn K mainGlobals "_law_is_pair" = some (some (.ref f_lis_pair)))
    (l_lis_pair : K.lookup f_lis_pair = some ⟨oc_lis_pair, od_lis_pair, .func (PySem.W.fnOf "_law_is_pair" "_law_is_pair" (defArgs s_lis_pair) (defBody s_lis_pair) (defScope s_lis_pair) .none kV_lis_pair dc_lis_pair pm_lis_pair an_lis_pair cd_lis_pair ct_lis_pair), sl_lis_pair⟩)
    (c_lis_pair : PySem.W.codeIn K cd_lis_pair "_law_is_pair" = true)
    (k_lis_pair : PySem.W.keepIn K (.ref f_lis_pair) = true)
    (a_lis_load : PySem.W.nsIn K mainGlobals "_law_is_load" = some (some (.ref f_lis_load)))
    (l_lis_load : K.lookup f_lis_load = some ⟨oc_lis_load, od_lis_load, .func (PySem.W.fnOf "_law_is_load" "_law_is_load" (defArgs s_lis_load) (defBody s_lis_load) (defScope s_lis_load) .none kV_lis_load dc_lis_load pm_lis_load an_lis_load cd_lis_load ct_lis_load), sl_lis_load⟩)
    (c_lis_load : PySem.W.codeIn K cd_lis_load "_law_is_load" = true)
    (k_lis_load : PySem.W.keepIn K (.ref f_lis_load) = true)
    (a_lis_standing : PySem.W.nsIn K mainGlobals "_law_is_standing" = some (some (.ref f_lis_standing)))
    (l_lis_standing : K.lookup f_lis_standing = some ⟨oc_lis_standing, od_lis_standing, .func (PySem.W.fnOf "_law_is_standing" "_law_is_standing" (defArgs s_lis_standing) (defBody s_lis_standing) (defScope s_lis_standing) .none kV_lis_standing dc_lis_standing pm_lis_standing an_lis_standing cd_lis_standing ct_lis_standing), sl_lis_standing⟩)
    (c_lis_standing : PySem.W.codeIn K cd_lis_standing "_law_is_standing" = true)
    (k_lis_standing : PySem.W.keepIn K (.ref f_lis_standing) = true)
    (a_sign : PySem.W.nsIn K mainGlobals "_law_sign" = some (some (.ref f_sign)))
    (l_sign : K.lookup f_sign = some ⟨oc_sign, od_sign, .func (PySem.W.fnOf "_law_sign" "_law_sign" (defArgs s_sign) (defBody s_sign) (defScope s_sign) .none kV_sign dc_sign pm_sign an_sign cd_sign ct_sign), sl_sign⟩)
    (c_sign : PySem.W.codeIn K cd_sign "_law_sign" = true)
    (k_sign : PySem.W.keepIn K (.ref f_sign) = true)
    (a_changed : PySem.W.nsIn K mainGlobals "_law_changed" = some (some (.ref f_changed)))
    (l_changed : K.lookup f_changed = some ⟨oc_changed, od_changed, .func (PySem.W.fnOf "_law_changed" "_law_changed" (defArgs s_changed) (defBody s_changed) (defScope s_changed) .none kV_changed dc_changed pm_changed an_changed cd_changed ct_changed), sl_changed⟩)
    (c_changed : PySem.W.codeIn K cd_changed "_law_changed" = true)
    (k_changed : PySem.W.keepIn K (.ref f_changed) = true)
    (a_text : PySem.W.nsIn K mainGlobals "_law_text" = some (some (.ref f_text)))
    (l_text : K.lookup f_text = some ⟨oc_text, od_text, .func (PySem.W.fnOf "_law_text" "_law_text" (defArgs s_text) (defBody s_text) (defScope s_text) .none kV_text dc_text pm_text an_text cd_text ct_text), sl_text⟩)
    (c_text : PySem.W.codeIn K cd_text "_law_text" = true)
    (k_text : PySem.W.keepIn K (.ref f_text) = true)
    (a_load_of : PySem.W.nsIn K mainGlobals "_law_load_of" = some (some (.ref f_load_of)))
    (l_load_of : K.lookup f_load_of = some ⟨oc_load_of, od_load_of, .func (PySem.W.fnOf "_law_load_of" "_law_load_of" (defArgs s_load_of) (defBody s_load_of) (defScope s_load_of) .none kV_load_of dc_load_of pm_load_of an_load_of cd_load_of ct_load_of), sl_load_of⟩)
    (c_load_of : PySem.W.codeIn K cd_load_of "_law_load_of" = true)
    (k_load_of : PySem.W.keepIn K (.ref f_load_of) = true)
    (a_due : PySem.W.nsIn K mainGlobals "_law_due" = some (some (.ref f_due)))
    (l_due : K.lookup f_due = some ⟨oc_due, od_due, .func (PySem.W.fnOf "_law_due" "_law_due" (defArgs s_due) (defBody s_due) (defScope s_due) .none kV_due dc_due pm_due an_due cd_due ct_due), sl_due⟩)
    (c_due : PySem.W.codeIn K cd_due "_law_due" = true)
    (k_due : PySem.W.keepIn K (.ref f_due) = true)
    (a_read : PySem.W.nsIn K mainGlobals "_law_read" = some (some (.ref f_read)))
    (l_read : K.lookup f_read = some ⟨oc_read, od_read, .func (PySem.W.fnOf "_law_read" "_law_read" (defArgs s_read) (defBody s_read) (defScope s_read) .none kV_read dc_read pm_read an_read cd_read ct_read), sl_read⟩)
    (c_read : PySem.W.codeIn K cd_read "_law_read" = true)
    (k_read : PySem.W.keepIn K (.ref f_read) = true)
    (a_refused : PySem.W.nsIn K mainGlobals "_law_refused" = some (some (.ref f_refused)))
    (l_refused : K.lookup f_refused = some ⟨oc_refused, od_refused, .func (PySem.W.fnOf "_law_refused" "_law_refused" (defArgs s_refused) (defBody s_refused) (defScope s_refused) .none kV_refused dc_refused pm_refused an_refused cd_refused ct_refused), sl_refused⟩)
    (c_refused : PySem.W.codeIn K cd_refused "_law_refused" = true)
    (k_refused : PySem.W.keepIn K (.ref f_refused) = true)
    (a_law : PySem.W.nsIn K mainGlobals "law" = some (some (.ref f_law)))
    (l_law : K.lookup f_law = some ⟨oc_law, od_law, .func (PySem.W.fnOf "law" "law" (defArgs s_law) (defBody s_law) (defScope s_law) .none kV_law dc_law pm_law an_law cd_law ct_law), sl_law⟩)
    (c_law : PySem.W.codeIn K cd_law "law" = true)
    (k_law : PySem.W.keepIn K (.ref f_law) = true)
    (a_Exchange_init : PySem.W.findIn K (.ref C_Exchange) "__init__" = some (some (.ref f_Exchange_init)))
    (i_Exchange_init : PySem.W.isFn K (.ref f_Exchange_init) = true)
    (l_Exchange_init : K.lookup f_Exchange_init = some ⟨oc_Exchange_init, od_Exchange_init, .func (PySem.W.fnOf "__init__" "Exchange.__init__" (defArgs s_Exchange___init) (defBody s_Exchange___init) (defScope s_Exchange___init) .none kV_Exchange_init dc_Exchange_init pm_Exchange_init an_Exchange_init cd_Exchange_init ct_Exchange_init), sl_Exchange_init⟩)
    (c_Exchange_init : PySem.W.codeIn K cd_Exchange_init "Exchange.__init__" = true)
    (k_Exchange_init : PySem.W.keepIn K (.ref f_Exchange_init) = true)
    (x_pg : PySem.W.plainGet K C_Exchange Str.empty = true)
    (x_hd : PySem.W.hasDictIn K C_Exchange = true)
    (x_po : PySem.W.plainOver K C_Exchange = true)
    (x_sa : PySem.W.findIn K (.ref C_Exchange) "__setattr__" = some (some (.builtin "object.__setattr__")))
    (x_mk : PySem.W.makesIn K C_Exchange = true)
    (x_kc : PySem.W.keepIn K (.ref C_Exchange) = true)
    (x_ca : PySem.W.findIn K (.ref C_Exchange) "__class__" = some (some (.builtin "object.__class__")))
    (x_cm : PySem.W.mroIn K C_Exchange (.type "object") = some true)
    (x_ic : PySem.W.isClsIn K C_Exchange = true)
    (x_ty : PySem.W.typeIn K (.ref C_Exchange) = some (.type "type"))
    (x_sI : PySem.W.subIn K (.type "int") (.ref C_Exchange) = some false)
    (x_fS : PySem.W.notFirst K C_Exchange (.ref C_Exchange) = true)
    (x_n_ins : PySem.W.findIn K (.ref C_Exchange) "ins" = some none)
    (x_n_outs : PySem.W.findIn K (.ref C_Exchange) "outs" = some none)
    (x_n_middles : PySem.W.findIn K (.ref C_Exchange) "middles" = some none)
    (x_x_int : PySem.W.subIn K (.ref C_Exchange) (.type "int") = some false)
    (x_x_bool : PySem.W.subIn K (.ref C_Exchange) (.type "bool") = some false)
    (x_x_tuple : PySem.W.subIn K (.ref C_Exchange) (.type "tuple") = some false)
    (x_x_list : PySem.W.subIn K (.ref C_Exchange) (.type "list") = some false)
    (x_x_str : PySem.W.subIn K (.ref C_Exchange) (.type "str") = some false)
    (x_x_dict : PySem.W.subIn K (.ref C_Exchange) (.type "dict") = some false)
    (s_pg : PySem.W.plainGet K C_Share Str.empty = true)
    (s_hd : PySem.W.hasDictIn K C_Share = true)
    (s_po : PySem.W.plainOver K C_Share = true)
    (s_sa : PySem.W.findIn K (.ref C_Share) "__setattr__" = some (some (.builtin "object.__setattr__")))
    (s_mk : PySem.W.makesIn K C_Share = true)
    (s_kc : PySem.W.keepIn K (.ref C_Share) = true)
    (s_ca : PySem.W.findIn K (.ref C_Share) "__class__" = some (some (.builtin "object.__class__")))
    (s_cm : PySem.W.mroIn K C_Share (.type "object") = some true)
    (s_ic : PySem.W.isClsIn K C_Share = true)
    (s_ty : PySem.W.typeIn K (.ref C_Share) = some (.type "type"))
    (s_sI : PySem.W.subIn K (.type "int") (.ref C_Share) = some false)
    (s_fS : PySem.W.notFirst K C_Share (.ref C_Share) = true)
    (s_n_top : PySem.W.findIn K (.ref C_Share) "top" = some none)
    (s_n_bottom : PySem.W.findIn K (.ref C_Share) "bottom" = some none)
    (s_x_int : PySem.W.subIn K (.ref C_Share) (.type "int") = some false)
    (s_x_bool : PySem.W.subIn K (.ref C_Share) (.type "bool") = some false)
    (s_x_tuple : PySem.W.subIn K (.ref C_Share) (.type "tuple") = some false)
    (s_x_list : PySem.W.subIn K (.ref C_Share) (.type "list") = some false)
    (s_x_str : PySem.W.subIn K (.ref C_Share) (.type "str") = some false)
    (s_x_dict : PySem.W.subIn K (.ref C_Share) (.type "dict") = some false)
    (cn : PySem.W.specialIn K (.builtin "object.__class__") "__get__" = some (some (.builtin "getset_descriptor.__get__")))
    (ct : PySem.W.takesIn K (.builtin "object.__class__") = some true)
    (x_sT : PySem.W.subIn K (.type "tuple") (.ref C_Exchange) = some false)
    (x_fT : PySem.W.notFirst K C_Exchange (.type "tuple") = true)
    (x_fI : PySem.W.notFirst K C_Exchange (.type "int") = true)
    (i_a : PySem.W.findIn K (.ref C_Share) "__init__" = some (some (.ref f_i)))
    (i_f : PySem.W.isFn K (.ref f_i) = true)
    (i_l : K.lookup f_i = some ⟨oc_i, od_i, .func (PySem.W.fnOf "__init__" "Share.__init__" (defArgs K39o.Shr.s_Share___init) (defBody K39o.Shr.s_Share___init) (defScope K39o.Shr.s_Share___init) (.ref T_i) kV_i dc_i pm_i an_i cd_i ct_i), sl_i⟩)
    (i_c : PySem.W.codeIn K cd_i "Share.__init__" = true)
    (i_k : PySem.W.keepIn K (.ref f_i) = true)
    (i_t : K.lookup T_i = some ⟨ocT, odT, .seq #[.int 1 tk] nTt, slT⟩)
    (g_gcd : PySem.W.nsIn K mainGlobals "gcd" = some (some (.builtin "math.gcd")))
    (e_op : PySem.W.nsIn K PySem.cStatics "thirdparty.any" = some none)
    (p_t : (P.main.scope.names.lookup ("super" : Str)).isSome = false)
    (eB_cls : K.lookup C_BadText = some (excClassObj eB_nm eB_q C_BadText eB_N eB_bs [.ref eB_Ca, .type "ValueError", .type "Exception", .type "BaseException", .type "object"] true eB_sn eB_sub eB_ab eB_col eB_dd eB_0 eB_1 eB_2 eB_3 eB_5 "ValueError.__new__"))
    (eB_sup : PySem.W.ks_superIn K C_BadText C_BadText "__init__" = some (some (.builtin "ValueError.__init__")))
    (eB_sVE : PySem.W.subIn K (.ref C_BadText) (.type "ValueError") = some true)
    (eB_own : PySem.W.mroIn K C_BadText (.ref C_BadText) = some true)
    (eB_sa : PySem.W.findIn K (.ref C_BadText) "__setattr__" = some (some (.builtin "object.__setattr__")))
    (eB_ga : PySem.W.findIn K (.ref C_BadText) "__getattribute__" = some (some (.builtin "BaseException.__getattribute__")))
    (eB_gg : PySem.W.findIn K (.ref C_BadText) "__getattr__" = some none)
    (eB_no : PySem.W.findIn K (.ref C_BadText) "thing" = some none)
    (eB_i : PySem.W.findIn K (.ref C_BadText) "__init__" = some (some (.ref fB_E)))
    (eB_t : PySem.W.typeIn K (.ref fB_E) = some (.type "function"))
    (eB_k : PySem.W.keepIn K (.ref C_BadText) = true)
    (eB_ex : PySem.W.subIn K (.ref C_BadText) (.type "BaseException") = some true)
    (eB_ty : PySem.W.typeIn K (.ref C_BadText) = some (.type "type"))
    (eB_hd : PySem.W.hasDictIn K C_BadText = true)
    (eB_ic : PySem.W.isClsIn K C_BadText = true)
    (eB_ss : PySem.W.subIn K (.ref C_BadText) (.ref C_BadText) = some true)
    (eB_l : K.lookup fB_E = some ⟨ocB_E, odB_E, .func (PySem.W.ksFn "__init__" "BadText.__init__" (defArgs s_BadText___init) (defBody s_BadText___init) (defScope s_BadText___init) .none .none dcB_E pmB_E anB_E (.ref cdaB_E) ctB_E ccB_E), slB_E⟩)
    (eB_c : PySem.W.codeIn K (.ref cdaB_E) "BadText.__init__" = true)
    (eB_cc : K.lookup ccB_E = some ⟨clB_E, cldB_E, .cell (some (.ref C_BadText)), cslB_E⟩)
    (eB_cd : K.lookup cdaB_E = some ⟨cclB_E, cddB_E, .fields vsB_E, ccsB_E⟩)
    (eB_v2 : vsB_E[2]? = some (.str fileB_E tfB_E))
    (pB_f : ((P.main.file : Str) == fileB_E) = true)
    (eS_cls : K.lookup C_NoStanding = some (excClassObj eS_nm eS_q C_NoStanding eS_N eS_bs [.ref eS_Ca, .type "ValueError", .type "Exception", .type "BaseException", .type "object"] true eS_sn eS_sub eS_ab eS_col eS_dd eS_0 eS_1 eS_2 eS_3 eS_5 "ValueError.__new__"))
    (eS_sup : PySem.W.ks_superIn K C_NoStanding C_NoStanding "__init__" = some (some (.builtin "ValueError.__init__")))
    (eS_sVE : PySem.W.subIn K (.ref C_NoStanding) (.type "ValueError") = some true)
    (eS_own : PySem.W.mroIn K C_NoStanding (.ref C_NoStanding) = some true)
    (eS_sa : PySem.W.findIn K (.ref C_NoStanding) "__setattr__" = some (some (.builtin "object.__setattr__")))
    (eS_ga : PySem.W.findIn K (.ref C_NoStanding) "__getattribute__" = some (some (.builtin "BaseException.__getattribute__")))
    (eS_gg : PySem.W.findIn K (.ref C_NoStanding) "__getattr__" = some none)
    (eS_no : PySem.W.findIn K (.ref C_NoStanding) "thing" = some none)
    (eS_i : PySem.W.findIn K (.ref C_NoStanding) "__init__" = some (some (.ref fS_E)))
    (eS_t : PySem.W.typeIn K (.ref fS_E) = some (.type "function"))
    (eS_k : PySem.W.keepIn K (.ref C_NoStanding) = true)
    (eS_ex : PySem.W.subIn K (.ref C_NoStanding) (.type "BaseException") = some true)
    (eS_ty : PySem.W.typeIn K (.ref C_NoStanding) = some (.type "type"))
    (eS_hd : PySem.W.hasDictIn K C_NoStanding = true)
    (eS_ic : PySem.W.isClsIn K C_NoStanding = true)
    (eS_ss : PySem.W.subIn K (.ref C_NoStanding) (.ref C_NoStanding) = some true)
    (eS_l : K.lookup fS_E = some ⟨ocS_E, odS_E, .func (PySem.W.ksFn "__init__" "NoStanding.__init__" (defArgs s_NoStanding___init) (defBody s_NoStanding___init) (defScope s_NoStanding___init) .none .none dcS_E pmS_E anS_E (.ref cdaS_E) ctS_E ccS_E), slS_E⟩)
    (eS_c : PySem.W.codeIn K (.ref cdaS_E) "NoStanding.__init__" = true)
    (eS_cc : K.lookup ccS_E = some ⟨clS_E, cldS_E, .cell (some (.ref C_NoStanding)), cslS_E⟩)
    (eS_cd : K.lookup cdaS_E = some ⟨cclS_E, cddS_E, .fields vsS_E, ccsS_E⟩)
    (eS_v2 : vsS_E[2]? = some (.str fileS_E tfS_E))
    (pS_f : ((P.main.file : Str) == fileS_E) = true)
    (a_parts : PySem.W.nsIn K mainGlobals "parts_texts" = some (some (.ref f_parts)))
    (l_parts : K.lookup f_parts = some ⟨oc_parts, od_parts, .func (PySem.W.fnOf "_parts" "_parts" (defArgs s_parts) (defBody s_parts) (defScope s_parts) .none kV_parts dc_parts pm_parts an_parts cd_parts ct_parts), sl_parts⟩)
    (c_parts : PySem.W.codeIn K cd_parts "_parts" = true)
    (k_parts : PySem.W.keepIn K (.ref f_parts) = true)
    (z_len : PySem.W.nsIn K mainGlobals "len" = some none)
    (z_abs : PySem.W.nsIn K mainGlobals "abs" = some none)
    (z_int : PySem.W.nsIn K mainGlobals "int" = some none)
    (z_bool : PySem.W.nsIn K mainGlobals "bool" = some none)
    (z_tuple : PySem.W.nsIn K mainGlobals "tuple" = some none)
    (z_list : PySem.W.nsIn K mainGlobals "list" = some none)
    (z_str : PySem.W.nsIn K mainGlobals "str" = some none)
    (z_dict : PySem.W.nsIn K mainGlobals "dict" = some none)
    (z_isinstance : PySem.W.nsIn K mainGlobals "isinstance" = some none)
    (z_all : PySem.W.nsIn K mainGlobals "all" = some none)
    (z_any : PySem.W.nsIn K mainGlobals "any" = some none)
    (z_sum : PySem.W.nsIn K mainGlobals "sum" = some none)
    (z_range : PySem.W.nsIn K mainGlobals "range" = some none)
    (z_set : PySem.W.nsIn K mainGlobals "set" = some none)
    (z_sorted : PySem.W.nsIn K mainGlobals "sorted" = some none)
    (z_min : PySem.W.nsIn K mainGlobals "min" = some none)
    (z_max : PySem.W.nsIn K mainGlobals "max" = some none)
    (z_enumerate : PySem.W.nsIn K mainGlobals "enumerate" = some none)
    (z_reversed : PySem.W.nsIn K mainGlobals "reversed" = some none)
    (z_super : PySem.W.nsIn K mainGlobals "super" = some none)
    (y_MOST_SWITCHES : PySem.W.nsIn K mainGlobals "MOST_SWITCHES" = some (some (.int 4 t_MOST_SWITCHES)))
    (y_MOST_DOORS : PySem.W.nsIn K mainGlobals "MOST_DOORS" = some (some (.int 4 t_MOST_DOORS)))
    (y_MOST_MIDDLES : PySem.W.nsIn K mainGlobals "MOST_MIDDLES" = some (some (.int 7 t_MOST_MIDDLES)))
    : ∃ fd : FuncData, (∀ (s : Shared) (v : Value), BindsTo s fd ⟨[v], []⟩ [("_law_script", v)]) ∧ ∀ base : Heap, K.In base → base.Ns mainGlobals mg → FnOk P w K mg base CX0 10 fa fd ["_law_script"] (spLaw K) := by
  have efa := hfa.symm.trans (PySem.W.mg_of X G a_law)
  cases efa
  have D_is_plain_int : DefAt K mg "is_plain_int" s_is_plain_int ["value"] := DefAt.of X G a_is_plain_int l_is_plain_int c_is_plain_int k_is_plain_int fun _ _ _ _ _ _ us hl => match us, hl with | [_], _ => rfl
  have D_is_int_within : DefAt K mg "is_int_within" s_is_int_within ["value", "low", "high"] := DefAt.of X G a_is_int_within l_is_int_within c_is_int_within k_is_int_within fun _ _ _ _ _ _ us hl => match us, hl with | [_, _, _], _ => rfl
  have D_is_pair : DefAt K mg "is_pair" s_is_pair ["exchange", "thing"] := DefAt.of X G a_is_pair l_is_pair c_is_pair k_is_pair fun _ _ _ _ _ _ us hl => match us, hl with | [_, _], _ => rfl
  have D_is_load : DefAt K mg "is_load" s_is_load ["exchange", "thing"] := DefAt.of X G a_is_load l_is_load c_is_load k_is_load fun _ _ _ _ _ _ us hl => match us, hl with | [_, _], _ => rfl
  have D_is_side : DefAt K mg "_is_side" s_is_side ["value"] := DefAt.of X G a_is_side l_is_side c_is_side k_is_side fun _ _ _ _ _ _ us hl => match us, hl with | [_], _ => rfl
  have D_doors_left : DefAt K mg "doors_left" s_doors_left ["exchange", "standing"] := DefAt.of X G a_doors_left l_doors_left c_doors_left k_doors_left fun _ _ _ _ _ _ us hl => match us, hl with | [_, _], _ => rfl
  have D_is_standing : DefAt K mg "is_standing" s_is_standing ["exchange", "thing"] := DefAt.of X G a_is_standing l_is_standing c_is_standing k_is_standing fun _ _ _ _ _ _ us hl => match us, hl with | [_, _], _ => rfl
  have D_check_standing : DefAt K mg "check_standing" s_check_standing ["exchange", "standing"] := DefAt.of X G a_check_standing l_check_standing c_check_standing k_check_standing fun _ _ _ _ _ _ us hl => match us, hl with | [_, _], _ => rfl
  have D_standing_text : DefAt K mg "standing_text" s_standing_text ["exchange", "standing"] := DefAt.of X G a_standing_text l_standing_text c_standing_text k_standing_text fun _ _ _ _ _ _ us hl => match us, hl with | [_, _], _ => rfl
  have D_load_text : DefAt K mg "_load_text" s_load_text ["load"] := DefAt.of X G a_load_text l_load_text c_load_text k_load_text fun _ _ _ _ _ _ us hl => match us, hl with | [_], _ => rfl
  have D_pair_text : DefAt K mg "_pair_text" s_pair_text ["pair"] := DefAt.of X G a_pair_text l_pair_text c_pair_text k_pair_text fun _ _ _ _ _ _ us hl => match us, hl with | [_], _ => rfl
  have D_read_number : DefAt K mg "_read_number" s_read_number ["text", "low", "high"] := DefAt.of X G a_read_number l_read_number c_read_number k_read_number fun _ _ _ _ _ _ us hl => match us, hl with | [_, _, _], _ => rfl
  have D_read_standing : DefAt K mg "read_standing" s_read_standing ["exchange", "text"] := DefAt.of X G a_read_standing l_read_standing c_read_standing k_read_standing fun _ _ _ _ _ _ us hl => match us, hl with | [_, _], _ => rfl
  have D_read_load : DefAt K mg "_read_load" s_read_load ["text"] := DefAt.of X G a_read_load l_read_load c_read_load k_read_load fun _ _ _ _ _ _ us hl => match us, hl with | [_], _ => rfl
  have D_read_pair : DefAt K mg "_read_pair" s_read_pair ["text"] := DefAt.of X G a_read_pair l_read_pair c_read_pair k_read_pair fun _ _ _ _ _ _ us hl => match us, hl with | [_], _ => rfl
  have D_flow : DefAt K mg "_law_flow" s_flow ["_law_script", "_law_k"] := DefAt.of X G a_flow l_flow c_flow k_flow fun _ _ _ _ _ _ us hl => match us, hl with | [_, _], _ => rfl
  have D_pick : DefAt K mg "_law_pick" s_pick ["_law_flow_here", "_law_size"] := DefAt.of X G a_pick l_pick c_pick k_pick fun _ _ _ _ _ _ us hl => match us, hl with | [_, _], _ => rfl
  have D_is_integer : DefAt K mg "_law_is_integer" s_is_integer ["_law_actual"] := DefAt.of X G a_is_integer l_is_integer c_is_integer k_is_integer fun _ _ _ _ _ _ us hl => match us, hl with | [_], _ => rfl
  have D_doors : DefAt K mg "_law_doors" s_doors ["_law_flow_here", "_law_most", "_law_doors_here"] := DefAt.of X G a_doors l_doors c_doors k_doors fun _ _ _ _ _ _ us hl => match us, hl with | [_, _, _], _ => rfl
  have D_free : DefAt K mg "_law_free" s_free ["_law_load", "_law_pair"] := DefAt.of X G a_free l_free c_free k_free fun _ _ _ _ _ _ us hl => match us, hl with | [_, _], _ => rfl
  have D_loads : DefAt K mg "_law_loads" s_loads ["_law_flow_here", "_law_ins", "_law_outs", "_law_middles", "_law_many"] := DefAt.of X G a_loads l_loads c_loads k_loads fun _ _ _ _ _ _ us hl => match us, hl with | [_, _, _, _, _], _ => rfl
  have D_exchange : DefAt K mg "_law_exchange" s_exchange ["_law_flow_here", "_law_most", "_law_doors_here", "_law_middles"] := DefAt.of X G a_exchange l_exchange c_exchange k_exchange fun _ _ _ _ _ _ us hl => match us, hl with | [_, _, _, _], _ => rfl
  have D_lis_pair : DefAt K mg "_law_is_pair" s_lis_pair ["_law_exchange_here", "_law_thing"] := DefAt.of X G a_lis_pair l_lis_pair c_lis_pair k_lis_pair fun _ _ _ _ _ _ us hl => match us, hl with | [_, _], _ => rfl
  have D_lis_load : DefAt K mg "_law_is_load" s_lis_load ["_law_exchange_here", "_law_thing"] := DefAt.of X G a_lis_load l_lis_load c_lis_load k_lis_load fun _ _ _ _ _ _ us hl => match us, hl with | [_, _], _ => rfl
  have D_lis_standing : DefAt K mg "_law_is_standing" s_lis_standing ["_law_exchange_here", "_law_thing"] := DefAt.of X G a_lis_standing l_lis_standing c_lis_standing k_lis_standing fun _ _ _ _ _ _ us hl => match us, hl with | [_, _], _ => rfl
  have D_sign : DefAt K mg "_law_sign" s_sign ["_law_flow_here", "_law_near"] := DefAt.of X G a_sign l_sign c_sign k_sign fun _ _ _ _ _ _ us hl => match us, hl with | [_, _], _ => rfl
  have D_changed : DefAt K mg "_law_changed" s_changed ["_law_flow_here", "_law_text_here", "_law_near"] := DefAt.of X G a_changed l_changed c_changed k_changed fun _ _ _ _ _ _ us hl => match us, hl with | [_, _, _], _ => rfl
  have D_text : DefAt K mg "_law_text" s_text ["_law_standing"] := DefAt.of X G a_text l_text c_text k_text fun _ _ _ _ _ _ us hl => match us, hl with | [_], _ => rfl
  have D_load_of : DefAt K mg "_law_load_of" s_load_of ["_law_text_here"] := DefAt.of X G a_load_of l_load_of c_load_of k_load_of fun _ _ _ _ _ _ us hl => match us, hl with | [_], _ => rfl
  have D_due : DefAt K mg "_law_due" s_due ["_law_exchange_here", "_law_text_here"] := DefAt.of X G a_due l_due c_due k_due fun _ _ _ _ _ _ us hl => match us, hl with | [_, _], _ => rfl
  have D_read : DefAt K mg "_law_read" s_read ["_law_exchange_here", "_law_text_here"] := DefAt.of X G a_read l_read c_read k_read fun _ _ _ _ _ _ us hl => match us, hl with | [_, _], _ => rfl
  have D_refused : DefAt K mg "_law_refused" s_refused ["_law_exchange_here", "_law_thing"] := DefAt.of X G a_refused l_refused c_refused k_refused fun _ _ _ _ _ _ us hl => match us, hl with | [_, _], _ => rfl
  have D_law : DefAt K mg "law" s_law ["_law_script"] := DefAt.of X G a_law l_law c_law k_law fun _ _ _ _ _ _ us hl => match us, hl with | [_], _ => rfl
  have D_Exchange_init : MethAt K C_Exchange "__init__" "Exchange.__init__" s_Exchange___init ["self", "ins", "outs", "middles"] := MethAt.of a_Exchange_init i_Exchange_init l_Exchange_init c_Exchange_init k_Exchange_init fun _ _ _ _ _ _ us hl => match us, hl with | [_, _, _, _], _ => rfl
  have To : K39o.Blt mg := ⟨PySem.W.mg_none_of X G z_len, PySem.W.mg_none_of X G z_abs, PySem.W.mg_none_of X G z_int, PySem.W.mg_none_of X G z_bool, PySem.W.mg_none_of X G z_tuple, PySem.W.mg_none_of X G z_list, PySem.W.mg_none_of X G z_isinstance, PySem.W.mg_none_of X G z_all, PySem.W.mg_none_of X G z_range, PySem.W.mg_none_of X G z_set, PySem.W.mg_none_of X G z_sorted, PySem.W.mg_none_of X G z_min, PySem.W.mg_none_of X G z_max, PySem.W.mg_none_of X G z_enumerate, ⟨_, PySem.W.mg_of X G y_MOST_SWITCHES⟩, ⟨_, PySem.W.mg_of X G y_MOST_DOORS⟩, ⟨_, PySem.W.mg_of X G y_MOST_MIDDLES⟩, PySem.W.mg_of X G g_gcd⟩
  have T : Blt mg := ⟨PySem.W.mg_none_of X G z_len, PySem.W.mg_none_of X G z_abs, PySem.W.mg_none_of X G z_int, PySem.W.mg_none_of X G z_bool, PySem.W.mg_none_of X G z_tuple, PySem.W.mg_none_of X G z_list, PySem.W.mg_none_of X G z_str, PySem.W.mg_none_of X G z_dict, PySem.W.mg_none_of X G z_isinstance, PySem.W.mg_none_of X G z_all, PySem.W.mg_none_of X G z_any, PySem.W.mg_none_of X G z_sum, PySem.W.mg_none_of X G z_range, PySem.W.mg_none_of X G z_set, PySem.W.mg_none_of X G z_sorted, PySem.W.mg_none_of X G z_min, PySem.W.mg_none_of X G z_max, PySem.W.mg_none_of X G z_enumerate, PySem.W.mg_none_of X G z_reversed, ⟨_, PySem.W.mg_of X G y_MOST_SWITCHES⟩, ⟨_, PySem.W.mg_of X G y_MOST_DOORS⟩, ⟨_, PySem.W.mg_of X G y_MOST_MIDDLES⟩⟩
  have XT : Gn.ExT K mg C_Exchange := ⟨⟨x_pg, x_hd, x_po, x_sa⟩, x_n_ins, x_n_outs, x_n_middles, x_ca, cn, ct, x_cm, kit_self, kit_own x_ic x_ty x_sT rfl, kit_own x_ic x_ty x_sI rfl, x_fS, x_fT, x_fI, PySem.W.mg_of X G a_Exchange⟩
  have XC : ExC K mg C_Exchange := ⟨⟨⟨x_pg, x_hd, x_po, x_sa⟩, x_ca, cn, ct, x_cm, kN_of x_x_int x_x_bool x_x_tuple x_x_list x_x_str x_x_dict⟩, x_n_ins, x_n_outs, x_n_middles⟩
  have SC : ClsT K C_Share := ⟨⟨s_pg, s_hd, s_po, s_sa⟩, s_ca, cn, ct, s_cm, kN_of s_x_int s_x_bool s_x_tuple s_x_list s_x_str s_x_dict⟩
  have ST : K39o.Shr.ShT K mg C_Share := ⟨⟨s_pg, s_hd, s_po, s_sa⟩, s_n_top, s_n_bottom, s_ca, cn, ct, s_cm, kit_own s_ic s_ty s_sI rfl, s_fS, PySem.W.mg_of X G a_Share⟩
  have FI : FunD K "__init__" "Share.__init__" (defArgs K39o.Shr.s_Share___init) (defBody K39o.Shr.s_Share___init) (defScope K39o.Shr.s_Share___init) [.int 1] [] f_i _ := ⟨⟨oc_i, od_i, .ref T_i, kV_i, dc_i, pm_i, an_i, cd_i, ct_i, sl_i, rfl, i_l, i_c, .inr ⟨(fun h => nomatch h), T_i, _, [.int 1 tk], nTt, rfl, i_t, rfl, .cons ⟨tk, rfl⟩ .nil⟩, .inl rfl⟩, i_k⟩
  obtain ⟨dsI, rI, bI⟩ := FI.binds1 (ps := ["self", "top", "bottom"]) 2 0 (fun h => nomatch h) rfl fun _ _ _ _ _ _ _ us its hu hi => match us, its, hu, hi with | [_, _], [_], _, _ => ⟨_, rfl, rfl⟩
  obtain ⟨tk2, eI⟩ : ∃ tk2, dsI = [.int 1 tk2] := by
    cases rI with
    | cons a r =>
      cases r
      obtain ⟨t2, e⟩ := a
      exact ⟨t2, by rw [e]⟩
  subst eI
  have TB : PySem.Exo_thing.Txt P K mg "BadText" C_BadText fB_E :=
    { gC := PySem.W.mg_of X G a_BadText, gS := PySem.W.mg_none_of X G z_super, cls := ⟨_, _, _, _, _, _, _, _, _, _, _, _, _, _, _, eB_cls, rfl⟩, sup := eB_sup, sVE := eB_sVE, own := eB_own, op := e_op, sa := eB_sa, ga := eB_ga, gg := eB_gg, noN := eB_no, iC := eB_i, tC := eB_t, kC := eB_k, exC := eB_ex, tyC := eB_ty, hdC := eB_hd,
      te := exm_self eB_ex eB_ic eB_ty eB_ss, top := p_t, fn := ⟨_, _, _, _, _, _, _, _, _, _, _, _, _, _, _, _, _, _, _, _, _, _, _, _, _, _, _, _, _, _, _, _, eB_l, eB_c, eB_cc, eB_cd, eB_v2, pB_f, fun L => ⟨_, rfl⟩⟩ }
  have TS : PySem.Exo_thing.Txt P K mg "NoStanding" C_NoStanding fS_E :=
    { gC := PySem.W.mg_of X G a_NoStanding, gS := PySem.W.mg_none_of X G z_super, cls := ⟨_, _, _, _, _, _, _, _, _, _, _, _, _, _, _, eS_cls, rfl⟩, sup := eS_sup, sVE := eS_sVE, own := eS_own, op := e_op, sa := eS_sa, ga := eS_ga, gg := eS_gg, noN := eS_no, iC := eS_i, tC := eS_t, kC := eS_k, exC := eS_ex, tyC := eS_ty, hdC := eS_hd,
      te := exm_self eS_ex eS_ic eS_ty eS_ss, top := p_t, fn := ⟨_, _, _, _, _, _, _, _, _, _, _, _, _, _, _, _, _, _, _, _, _, _, _, _, _, _, _, _, _, _, _, _, eS_l, eS_c, eS_cc, eS_cd, eS_v2, pS_f, fun L => ⟨_, rfl⟩⟩ }
  refine ⟨PySem.W.fnOf "law" "law" (defArgs s_law) (defBody s_law) (defScope s_law) .none kV_law dc_law pm_law an_law cd_law ct_law, fun s v => .of_eq rfl, fun base _ _ => ?_⟩
  have O1 : DefOk P w K mg base CX0 1 "is_plain_int" (spPlain K) := K39o.ok_is_plain_int To D_is_plain_int
  have O2 : DefOk P w K mg base CX0 2 "is_int_within" (spWithin K) := K39o.ok_is_int_within To O1 D_is_int_within
  have O3 : DefOk P w K mg base CX0 3 "_is_side" (spSide K) := K39o.ok_is_side To O2 D_is_side
  have I1 : MethOk P w K mg base CX0 4 C_Exchange "__init__" (spInit C_Exchange) := K39o.ok_init To XT O3 O2 D_Exchange_init
  have N1 : NewOk P w K mg base CX0 4 "Exchange" C_Exchange (spInit C_Exchange) := I1.new x_mk x_kc (PySem.W.mg_of X G a_Exchange)
  have NS : NewOk P w K mg base CX0 2 "Share" C_Share (spSh1 C_Share) := sh_newd (K39o.Shr.ok_init To ST O1 FI) bI ⟨s_mk, i_a, i_f, s_kc⟩ (PySem.W.mg_of X G a_Share)
  have FL0 : DefOk P w K mg base CX0 1 "_law_flow" (spFlow K) := K39o.ok_flow To D_flow
  have PI0 : DefOk P w K mg base CX0 1 "_law_pick" spPick := K39o.ok_pick To D_pick
  have FL : DefOk P w K mg base CX0 1 "_law_flow" (spOf (spFlowD K)) := defok_imp FL0 fun _ _ _ _ => flow_d
  have PI : DefOk P w K mg base CX0 1 "_law_pick" (spOf spPickD) := defok_imp PI0 fun _ _ _ _ => pick_d
  have LF0 : DefOk P w K mg base CX0 1 "_law_free" spIsFree := K39o.ok_lfree To D_free
  have LO0 : DefOk P w K mg base CX0 2 "_law_loads" spLoads := K39o.ok_lloads To PI0 LF0 D_loads
  have LO : DefOk P w K mg base CX0 2 "_law_loads" (spOf sdLoads) := defok_imp LO0 fun _ _ _ _ => loads_d
  have P2 : DefOk P w K mg base CX0 2 "is_int_within" (spOf (sdWithin K)) := ok_is_int_within T (ok_is_plain_int T D_is_plain_int) D_is_int_within
  have P3 : DefOk P w K mg base CX0 3 "is_pair" (spOf (sdIsPair K C_Exchange)) := ok_is_pair T XC P2 D_is_pair
  have L4 := ok_is_load T XC P3 D_is_load
  have DL : DefOk P w K mg base CX0 1 "doors_left" (spOf (sdDoorsLeft C_Exchange)) := ok_doors_left T XC D_doors_left
  have S5 := ok_is_standing T XC L4 DL D_is_standing
  have LI : DefOk P w K mg base CX0 1 "_law_is_integer" (spOf (sdPlain K)) := ok_is_integer T D_is_integer
  have J1 : DefOk P w K mg base CX0 2 "_law_is_pair" (spOf (sdIsPair K C_Exchange)) := ok_jis_pair T XC LI D_lis_pair
  have J2 := ok_jis_load T XC J1 D_lis_load
  have J3 := ok_jis_standing T XC J2 D_lis_standing
  have LD := ok_doors T PI D_doors
  have LE : DefOk P w K mg base CX0 6 "_law_exchange" (spOf (sdExch C_Exchange)) := ok_exchange T PI LD N1 D_exchange
  have PF := fun_mk (st := s_parts) l_parts c_parts k_parts
  have DP : DefOk P w K mg base CX0 1 "parts_texts" (spOf (sdParts K)) := DefOk.of_fn (ok_parts_fn T PF) (PF.binds fun _ _ _ _ _ _ us hl => match us, hl with | [_, _], _ => rfl) (PySem.W.mg_of X G a_parts) k_parts
  have RN : DefOk P w K mg base CX0 1 "_read_number" (spOf sdReadN) := ok_read_number T D_read_number
  have RP := ok_read_pair T RN D_read_pair
  have RL := ok_read_load T RP D_read_load
  have RS := ok_read_standing T XC TB DP RL S5 D_read_standing
  have PT : DefOk P w K mg base CX0 1 "_pair_text" (spOf sdPairT) := ok_pair_text T D_pair_text
  have LT := ok_load_text T PT D_load_text
  have CG := ok_check_good T XC S5 D_check_standing
  have CB := ok_check_bad T XC TS S5 D_check_standing
  have SF := ok_text_fn T CG LT (fun_mk (st := s_standing_text) l_standing_text c_standing_text k_standing_text)
  have SK : KwD P w K mg base CX0 7 "standing_text" 1 ["standing"] app (spOf (sdTextG C_Exchange)) := ⟨_, _, _, _, SF, PySem.W.mg_of X G a_standing_text, k_standing_text, ⟨fun s us ws _ l1 l2 => match us, ws, l1, l2 with | [_], [_], _, _ => .of_eq (by first | rfl | with_unfolding_all rfl | kernel_rfl), app_rel⟩⟩
  have SB := ok_text_bad T CB LT D_standing_text
  have LR := ok_lread T TB RS D_read
  have LX := ok_refused T TS SB D_refused
  have LG := ok_sign T PI D_sign
  have LC := ok_changed T PI LG D_changed
  have LW : DefOk P w K mg base CX0 1 "_law_text" (spOf sdText) := ok_ltext T D_text
  have LZ : DefOk P w K mg base CX0 1 "_law_load_of" (spOf sdLoadOf) := ok_load_of T D_load_of
  have LU := ok_due T LZ J3 D_due
  exact (ok_law_fn T XC SC FL PI LE LO LW SK LR LC LU LX NS (fun_mk (st := s_law) l_law c_law k_law)).imp fun _ _ _ _ => law_d
theorem walk {l : PySem.W.OpenLaw} {q : Program} {loose : List Str} {XP : (Str → Option Value) → Heap → Prop} {YP : World → Heap → Prop} {d : DefRec} {K : Params → PySem.W.Frag} (hn : l.most = some 63) (hdf : d.params.defaults = [])
    (hY : ∀ (w : World) (h : Heap), YP w h → (K w.params).In h)
    (F : ∀ (w : World) (mg : Str → Option Value) (fa : Addr) (h : Heap), (K w.params).In h → h.Ns mainGlobals mg → mg d.name = some (.ref fa) →
      ∃ fd : FuncData, (∀ (s : Shared) (u : Value), BindsTo s fd ⟨[u], []⟩ [("_law_script", u)]) ∧ ∀ base : Heap, (K w.params).In base → base.Ns mainGlobals mg → FnOk l.prog w (K w.params) mg base CX0 10 fa fd ["_law_script"] (spLaw (K w.params))) :
    PySem.W.WalkO q loose XP YP l.row.toRowW d [] (fun f vs => PySem.call f vs) :=
  L2.walk_of (n := 63) (k := 10) (x := "_law_script") (CX := fun _ => CX0) (sp := fun w => spLaw (K w.params)) hn (by decide) hdf ⟨rfl, by decide, by decide⟩ hY F (fun _ _ a ns hl _ hS => ⟨a, ns, rfl, hS, hl, fun _ => rfl⟩) fun _ _ _ _ _ z => z
end K39
open PySem PySem.W PyProof.Rows
set_option maxRecDepth 100000 in
set_option maxHeartbeats 0 in
theorem PySem.Challenge.cw_callsthrough_k39_standing_texts_holds : PySem.Challenge.rw_callsthrough_k39_standing_texts.Holds := by
  w_on; o_law; k_head; (case hw => w_witness2)
  k_fill
  refine K39.walk (l := PySem.Challenge.rw_callsthrough_k39_standing_texts) rfl rfl (fun w h Y => PySem.W.kIn_of Y) ?F
  case F =>
    intro w mg fa h KX G hmg
    refine' K39.all_mk KX G hmg ?a_Exchange ?a_Share ?a_BadText ?a_NoStanding ?a_is_plain_int ?l_is_plain_int ?c_is_plain_int ?k_is_plain_int ?a_is_int_within ?l_is_int_within ?c_is_int_within ?k_is_int_within ?a_is_pair ?l_is_pair ?c_is_pair ?k_is_pair ?a_is_load ?l_is_load ?c_is_load ?k_is_load ?a_is_side ?l_is_side ?c_is_side ?k_is_side ?a_doors_left ?l_doors_left ?c_doors_left ?k_doors_left ?a_is_standing ?l_is_standing ?c_is_standing ?k_is_standing ?a_check_standing ?l_check_standing ?c_check_standing ?k_check_standing ?a_standing_text ?l_standing_text ?c_standing_text ?k_standing_text ?a_load_text ?l_load_text ?c_load_text ?k_load_text ?a_pair_text ?l_pair_text ?c_pair_text ?k_pair_text ?a_read_number ?l_read_number ?c_read_number ?k_read_number ?a_read_standing ?l_read_standing ?c_read_standing ?k_read_standing ?a_read_load ?l_read_load ?c_read_load ?k_read_load ?a_read_pair ?l_read_pair ?c_read_pair ?k_read_pair ?a_flow ?l_flow ?c_flow ?k_flow ?a_pick ?l_pick ?c_pick ?k_pick ?a_is_integer ?l_is_integer ?c_is_integer ?k_is_integer ?a_doors ?l_doors ?c_doors ?k_doors ?a_free ?l_free ?c_free ?k_free ?a_loads ?l_loads ?c_loads ?k_loads ?a_exchange ?l_exchange ?c_exchange ?k_exchange ?a_lis_pair ?l_lis_pair ?c_lis_pair ?k_lis_pair ?a_lis_load ?l_lis_load ?c_lis_load ?k_lis_load ?a_lis_standing ?l_lis_standing ?c_lis_standing ?k_lis_standing ?a_sign ?l_sign ?c_sign ?k_sign ?a_changed ?l_changed ?c_changed ?k_changed ?a_text ?l_text ?c_text ?k_text ?a_load_of ?l_load_of ?c_load_of ?k_load_of ?a_due ?l_due ?c_due ?k_due ?a_read ?l_read ?c_read ?k_read ?a_refused ?l_refused ?c_refused ?k_refused ?a_law ?l_law ?c_law ?k_law ?a_Exchange_init ?i_Exchange_init ?l_Exchange_init ?c_Exchange_init ?k_Exchange_init ?x_pg ?x_hd ?x_po ?x_sa ?x_mk ?x_kc ?x_ca ?x_cm ?x_ic ?x_ty ?x_sI ?x_fS ?x_n_ins ?x_n_outs ?x_n_middles ?x_x_int ?x_x_bool ?x_x_tuple ?x_x_list ?x_x_str ?x_x_dict ?s_pg ?s_hd ?s_po ?s_sa ?s_mk ?s_kc ?s_ca ?s_cm ?s_ic ?s_ty ?s_sI ?s_fS ?s_n_top ?s_n_bottom ?s_x_int ?s_x_bool ?s_x_tuple ?s_x_list ?s_x_str ?s_x_dict ?cn ?ct ?x_sT ?x_fT ?x_fI ?i_a ?i_f ?i_l ?i_c ?i_k ?i_t ?g_gcd ?e_op ?p_t ?eB_cls ?eB_sup ?eB_sVE ?eB_own ?eB_sa ?eB_ga ?eB_gg ?eB_no ?eB_i ?eB_t ?eB_k ?eB_ex ?eB_ty ?eB_hd ?eB_ic ?eB_ss ?eB_l ?eB_c ?eB_cc ?eB_cd ?eB_v2 ?pB_f ?eS_cls ?eS_sup ?eS_sVE ?eS_own ?eS_sa ?eS_ga ?eS_gg ?eS_no ?eS_i ?eS_t ?eS_k ?eS_ex ?eS_ty ?eS_hd ?eS_ic ?eS_ss ?eS_l ?eS_c ?eS_cc ?eS_cd ?eS_v2 ?pS_f ?a_parts ?l_parts ?c_parts ?k_parts ?z_len ?z_abs ?z_int ?z_bool ?z_tuple ?z_list ?z_str ?z_dict ?z_isinstance ?z_all ?z_any ?z_sum ?z_range ?z_set ?z_sorted ?z_min ?z_max ?z_enumerate ?z_reversed ?z_super ?y_MOST_SWITCHES ?y_MOST_DOORS ?y_MOST_MIDDLES
    (case a_Exchange => k_is)
    (case a_Share => k_is)
    (case a_BadText => k_is)
    (case a_NoStanding => k_is)
    (case a_is_plain_int => k_is)
    (case l_is_plain_int => k_is)
    (case c_is_plain_int => k_is)
    (case k_is_plain_int => k_is)
    (case a_is_int_within => k_is)
    (case l_is_int_within => k_is)
    (case c_is_int_within => k_is)
    (case k_is_int_within => k_is)
    (case a_is_pair => k_is)
    (case l_is_pair => k_is)
    (case c_is_pair => k_is)
    (case k_is_pair => k_is)
    (case a_is_load => k_is)
    (case l_is_load => k_is)
    (case c_is_load => k_is)
    (case k_is_load => k_is)
    (case a_is_side => k_is)
    (case l_is_side => k_is)
    (case c_is_side => k_is)
    (case k_is_side => k_is)
    (case a_doors_left => k_is)
    (case l_doors_left => k_is)
    (case c_doors_left => k_is)
    (case k_doors_left => k_is)
    (case a_is_standing => k_is)
    (case l_is_standing => k_is)
    (case c_is_standing => k_is)
    (case k_is_standing => k_is)
    (case a_check_standing => k_is)
    (case l_check_standing => k_is)
    (case c_check_standing => k_is)
    (case k_check_standing => k_is)
    (case a_standing_text => k_is)
    (case l_standing_text => k_is)
    (case c_standing_text => k_is)
    (case k_standing_text => k_is)
    (case a_load_text => k_is)
    (case l_load_text => k_is)
    (case c_load_text => k_is)
    (case k_load_text => k_is)
    (case a_pair_text => k_is)
    (case l_pair_text => k_is)
    (case c_pair_text => k_is)
    (case k_pair_text => k_is)
    (case a_read_number => k_is)
    (case l_read_number => k_is)
    (case c_read_number => k_is)
    (case k_read_number => k_is)
    (case a_read_standing => k_is)
    (case l_read_standing => k_is)
    (case c_read_standing => k_is)
    (case k_read_standing => k_is)
    (case a_read_load => k_is)
    (case l_read_load => k_is)
    (case c_read_load => k_is)
    (case k_read_load => k_is)
    (case a_read_pair => k_is)
    (case l_read_pair => k_is)
    (case c_read_pair => k_is)
    (case k_read_pair => k_is)
    (case a_flow => k_is)
    (case l_flow => k_is)
    (case c_flow => k_is)
    (case k_flow => k_is)
    (case a_pick => k_is)
    (case l_pick => k_is)
    (case c_pick => k_is)
    (case k_pick => k_is)
    (case a_is_integer => k_is)
    (case l_is_integer => k_is)
    (case c_is_integer => k_is)
    (case k_is_integer => k_is)
    (case a_doors => k_is)
    (case l_doors => k_is)
    (case c_doors => k_is)
    (case k_doors => k_is)
    (case a_free => k_is)
    (case l_free => k_is)
    (case c_free => k_is)
    (case k_free => k_is)
    (case a_loads => k_is)
    (case l_loads => k_is)
    (case c_loads => k_is)
    (case k_loads => k_is)
    (case a_exchange => k_is)
    (case l_exchange => k_is)
    (case c_exchange => k_is)
    (case k_exchange => k_is)
    (case a_lis_pair => k_is)
    (case l_lis_pair => k_is)
    (case c_lis_pair => k_is)
    (case k_lis_pair => k_is)
    (case a_lis_load => k_is)
    (case l_lis_load => k_is)
    (case c_lis_load => k_is)
    (case k_lis_load => k_is)
    (case a_lis_standing => k_is)
    (case l_lis_standing => k_is)
    (case c_lis_standing => k_is)
    (case k_lis_standing => k_is)
    (case a_sign => k_is)
    (case l_sign => k_is)
    (case c_sign => k_is)
    (case k_sign => k_is)
    (case a_changed => k_is)
    (case l_changed => k_is)
    (case c_changed => k_is)
    (case k_changed => k_is)
    (case a_text => k_is)
    (case l_text => k_is)
    (case c_text => k_is)
    (case k_text => k_is)
    (case a_load_of => k_is)
    (case l_load_of => k_is)
    (case c_load_of => k_is)
    (case k_load_of => k_is)
    (case a_due => k_is)
    (case l_due => k_is)
    (case c_due => k_is)
    (case k_due => k_is)
    (case a_read => k_is)
    (case l_read => k_is)
    (case c_read => k_is)
    (case k_read => k_is)
    (case a_refused => k_is)
    (case l_refused => k_is)
    (case c_refused => k_is)
    (case k_refused => k_is)
    (case a_law => k_is)
    (case l_law => k_is)
    (case c_law => k_is)
    (case k_law => k_is)
    (case a_Exchange_init => k_is)
    (case i_Exchange_init => k_is)
    (case l_Exchange_init => k_is)
    (case c_Exchange_init => k_is)
    (case k_Exchange_init => k_is)
    (case x_pg => k_is)
    (case x_hd => k_is)
    (case x_po => k_is)
    (case x_sa => k_is)
    (case x_mk => k_is)
    (case x_kc => k_is)
    (case x_ca => k_is)
    (case x_cm => k_is)
    (case x_ic => k_is)
    (case x_ty => k_is)
    (case x_sI => k_is)
    (case x_fS => k_is)
    (case x_n_ins => k_is)
    (case x_n_outs => k_is)
    (case x_n_middles => k_is)
    (case x_x_int => k_is)
    (case x_x_bool => k_is)
    (case x_x_tuple => k_is)
    (case x_x_list => k_is)
    (case x_x_str => k_is)
    (case x_x_dict => k_is)
    (case s_pg => k_is)
    (case s_hd => k_is)
    (case s_po => k_is)
    (case s_sa => k_is)
    (case s_mk => k_is)
    (case s_kc => k_is)
    (case s_ca => k_is)
    (case s_cm => k_is)
    (case s_ic => k_is)
    (case s_ty => k_is)
    (case s_sI => k_is)
    (case s_fS => k_is)
    (case s_n_top => k_is)
    (case s_n_bottom => k_is)
    (case s_x_int => k_is)
    (case s_x_bool => k_is)
    (case s_x_tuple => k_is)
    (case s_x_list => k_is)
    (case s_x_str => k_is)
    (case s_x_dict => k_is)
    (case cn => k_is)
    (case ct => k_is)
    (case x_sT => k_is)
    (case x_fT => k_is)
    (case x_fI => k_is)
    (case i_a => k_is)
    (case i_f => k_is)
    (case i_l => k_is)
    (case i_c => k_is)
    (case i_k => k_is)
    (case i_t => k_is)
    (case g_gcd => k_is)
    (case e_op => k_is)
    (case p_t => first | decide +kernel | rfl)
    (case eB_cls => k_is)
    (case eB_sup => ks_is)
    (case eB_sVE => k_is)
    (case eB_own => first | k_is | rfl | decide +kernel)
    (case eB_sa => k_is)
    (case eB_ga => k_is)
    (case eB_gg => k_is)
    (case eB_no => k_is)
    (case eB_i => k_is)
    (case eB_t => k_is)
    (case eB_k => k_is)
    (case eB_ex => k_is)
    (case eB_ty => k_is)
    (case eB_hd => k_is)
    (case eB_ic => k_is)
    (case eB_ss => first | rfl | k_is)
    (case eB_l => k_is)
    (case eB_c => k_is)
    (case eB_cc => k_is)
    (case eB_cd => k_is)
    (case eB_v2 => rfl)
    (case pB_f => first | decide +kernel | rfl)
    (case eS_cls => k_is)
    (case eS_sup => ks_is)
    (case eS_sVE => k_is)
    (case eS_own => first | k_is | rfl | decide +kernel)
    (case eS_sa => k_is)
    (case eS_ga => k_is)
    (case eS_gg => k_is)
    (case eS_no => k_is)
    (case eS_i => k_is)
    (case eS_t => k_is)
    (case eS_k => k_is)
    (case eS_ex => k_is)
    (case eS_ty => k_is)
    (case eS_hd => k_is)
    (case eS_ic => k_is)
    (case eS_ss => first | rfl | k_is)
    (case eS_l => k_is)
    (case eS_c => k_is)
    (case eS_cc => k_is)
    (case eS_cd => k_is)
    (case eS_v2 => rfl)
    (case pS_f => first | decide +kernel | rfl)
    (case a_parts => k_is)
    (case l_parts => k_is)
    (case c_parts => k_is)
    (case k_parts => k_is)
    (case z_len => k_is)
    (case z_abs => k_is)
    (case z_int => k_is)
    (case z_bool => k_is)
    (case z_tuple => k_is)
    (case z_list => k_is)
    (case z_str => k_is)
    (case z_dict => k_is)
    (case z_isinstance => k_is)
    (case z_all => k_is)
    (case z_any => k_is)
    (case z_sum => k_is)
    (case z_range => k_is)
    (case z_set => k_is)
    (case z_sorted => k_is)
    (case z_min => k_is)
    (case z_max => k_is)
    (case z_enumerate => k_is)
    (case z_reversed => k_is)
    (case z_super => k_is)
    (case y_MOST_SWITCHES => k_is)
    (case y_MOST_DOORS => k_is)
    (case y_MOST_MIDDLES => k_is)
